import PyProof.Rows.All
import Wide.All
import OpenK.AllK
import Wide.FinOn
import PyProof.TupleKey
import PyProof.EqAt
import PyProof.EqKinds
import Wide.Seal
import Lean
import PyProof.TupleCall
import KE.KTryMore
import KE.KRevIter
import PyProof.CollectIter
import PyProof.ConsumeWalk
import PyProof.TupleOfStr
import KE.KIsAll
import PyProof.ExcArgs
import PyProof.ExcAttrAll.ValueError
import PyProof.CompUse
import PyProof.NeKinds
import PyProof.EnumIter
import PyProof.EnumFor
import PyProof.EnumMake
import PyProof.EnumStmt
import PyProof.ListMulRoad
import PyProof.ZipIter
import PyProof.TupleIter
import PyProof.Rows.SortWalk
import PyProof.SetKind
import PyProof.Rows.SetFrom
import PyProof.FactsAll.set_1
import KE.KDictSum
import PyProof.FactsAll.set_2
import PyProof.FactsAll.tuple_2
import PyProof.ReprRoads
import PyProof.Rows.SeqMore
import PyProof.ReprLen
import PyProof.WalkInts
import PyProof.SeqI3
import PyProof.Rows.TupIter
import PyProof.ListRange
import PyProof.SumWalk
import PyProof.DictIter
import PyProof.DictWalks
import PyProof.Draws
import PyProof.StrBlockI
import PyProof.StrLawsIn
import PyProof.StrOps2
import PyProof.ReprStr
import KE.KTops
import PyProof.StrCalls6
import PyProof.DictRoadsH
import PyProof.DictTruth
import KE.KDictList
import PyProof.Rows.TupDisplay
import PyProof.DictUpdate
import PySem.Challenge.RW_circuits_k74_sheets_shown
set_option Elab.async false
set_option linter.all false
set_option maxRecDepth 100000
set_option maxHeartbeats 1000000
local macro_rules | `(tactic| omega) => `(tactic| first | with_reducible assumption | decide | with_reducible exact Nat.le_refl _ | with_reducible exact Nat.zero_le _ | lia)
set_option genSizeOf false
set_option genInjectivity false
set_option compiler.extract_closed false
local macro_rules | `(tactic| walk_at "1") => `(tactic| (first | exact Or.inl rfl | exact Or.inr (Or.inl rfl) | exact Or.inr (Or.inr rfl)))
local macro_rules | `(tactic| walk_at "2") => `(tactic| (first | exact .inl rfl | exact .inr rfl | assumption))
local macro_rules | `(tactic| walk_at "3") => `(tactic| (first | exact Or.inl rfl | exact Or.inr rfl))
open PySem.W (exmOne findIn hideAll_get kdpLook keepIn kia_one kitOne methodObj pyHash_slot specialIn takesIn)
def w0a:=@List.getElem?_eq_getElem
def w0b:=@Nat.le_refl
def w0c:=@List.mem_append_right
def w0d:=@List.mem_cons
def w0e:=@List.mem_cons_of_mem
def w0f:=@List.getElem?_set_ne
def w0g:=@List.map_cons
def w0h:=@List.not_mem_nil
def w0i:=@List.mem_cons_self
def w0j:=@List.length_map
def w0k:=@List.append_assoc
def w0l:=@Bool.and_eq_true
def w0m:=@List.getElem?_eq_some_iff
def w0n:=@List.map_append
def w0o:=@List.getD_eq_getElem?_getD
def w0p:=@List.getElem?_set_self
def w0q:=@List.length_append
def w0r:=@List.mem_append_left
def w0s:=@Nat.lt_of_lt_of_le
def w0t:=@List.length_cons
def w0u:=@List.mem_map
def w0v:=@Nat.le_trans
def w0w:=@Nat.ne_of_lt
def w0x:=@Option.map_eq_some_iff
def w0y:=@List.map_map
def w0z:=@List.all_eq_true
def w1a:=@List.append_nil
def w1b:=@List.cons_append
def w1c:=@List.mem_append
def w1d:=@List.getElem?_append_right
def w1e:=@List.length_drop
def w1f:=@Int.emod_lt_of_pos
def w1g:=@Nat.zero_le
def w1h:=@Int.emod_nonneg
def w1i:=@List.mem_range
def w1j:=@Bool.false_ne_true
def w1k:=@List.mem_singleton
def w1l:=@List.getElem_mem
def w1m:=@List.mem_of_getElem?
def w1n:=@List.replicate_succ
def w1o:=@List.foldl_cons
def w1p:=@List.drop_eq_getElem_cons
def w1q:=@Nat.lt_succ_of_lt
def w1r:=@List.getElem?_cons_succ
def w1s:=@List.map_congr_left
def w1t:=@List.getElem?_map
def w1u:=@List.getElem?_append_left
def w1v:=@List.nodup_cons
def w1w:=@List.map_nil
def w1x:=@List.take_append_drop
def w1y:=@List.set_cons_zero
def w1z:=@List.set_cons_succ
def w2a:=@List.getElem?_cons_zero
def w2b:=@Int.toNat_natCast
def w2c:=@Option.isSome_map
def w2d:=@List.nodup_append
def w2e:=@List.nil_append
def w2f:=@List.take_of_length_le
def w2g:=@List.take_length
def w2h:=@List.getElem?_zip_eq_some
def w2i:=@List.map_eq_cons_iff
def w2j:=@List.forIn_cons
def w2k:=@List.size_toArray
def w2l:=@List.find?_cons
def w2m:=@Nat.min_eq_left
def w2n:=@Nat.lt_irrefl
def w2o:=@Array.length_toList
def w2p:=@List.all_cons
def w2q:=@Option.bind_eq_some_iff
def w2r:=@List.filter_eq_self
def w2s:=@List.map_eq_append_iff
def w2t:=@Nat.ne_of_gt
def w2u:=@Bool.eq_iff_iff
def w2v:=@List.length_zip
def w2w:=@List.flatten_cons
def w2x:=@List.take_add_one
def w2y:=@List.reverse_cons
def w2z:=@List.mem_of_mem_drop
def w3a:=@List.nodup_nil
def w3b:=@List.map_eq_singleton_iff
def w3c:=@List.filter_cons
def w3d:=@List.ext_getElem
def w3e:=@List.length_pos_iff
def w3f:=@Option.isSome_iff_exists
def w3g:=@Array.forIn_toList
def w3h:=@Bool.false_eq_true
def w3i:=@List.length_set
def w3j:=@Nat.add_sub_cancel_left
def w3k:=@Bool.eq_false_iff
def w3l:=@Bool.not_eq_true'
def w3m:=@List.foldl_append
def w3n:=@List.flatMap_cons
def w3o:=@Bool.and_eq_false_iff
def w3p:=@Nat.le_of_ble_eq_true
def w3q:=@List.getElem?_eq_none
def w3r:=@List.singleton_append
def w3s:=@List.drop_length
def w3t:=@List.eq_nil_of_length_eq_zero
def w3u:=@List.countP_eq_length_filter
def w3v:=@List.map_take
def w3w:=@List.of_mem_zip
def w3x:=@List.getElem_of_mem
def w3y:=@List.takeWhile_cons
def w3z:=@List.getElem?_range
def w4a:=@List.range_succ
def w4b:=@List.mem_map_of_mem
def w4c:=@List.mem_filterMap
def w4d:=@Nat.zero_add
def w4e:=@Int.zero_add
def w4f:=@List.forIn_nil
def w4g:=@Array.getElem?_eq_getElem
def w4h:=@List.mem_or_eq_of_mem_set
def w4i:=@List.take_sublist
def w4j:=@Nat.not_lt
def w4k:=@List.any_cons
def w4l:=@List.length_eq_zero_iff
def w4m:=@List.map_drop
def w4n:=@List.filter_cons_of_neg
def w4o:=@Nat.succ_ne_self
def w4p:=@List.length_take
def w4q:=@List.drop_eq_nil_of_le
def w4r:=@Bool.or_eq_true
def w4s:=@List.dropLast_eq_take
def w4t:=@Nat.ble_eq_true_of_le
def w4u:=@List.all_map
def w4v:=@List.length_singleton
def w4w:=@Option.map_some
def w4x:=@List.length_nil
def w4y:=@List.length_filter_le
def w4z:=@Nat.lt_or_ge
def w5a:=@List.mem_iff_getElem
def w5b:=@List.drop_zero
def w5c:=@List.foldl_nil
def w5d:=@List.drop_drop
def w5e:=@List.flatMap_append
def w5f:=@List.length_flatMap
def w5g:=@Array.append_assoc
def w5h:=@Option.toList_some
def w5i:=@List.sum_cons
def w5j:=@List.mem_replicate
def w5k:=@Bool.true_and
def w5l:=@List.filter_append
def w5m:=@Nat.le_of_lt
def w5n:=@Nat.lt_trans
def w5o:=@Bool.true_or
def w5p:=@List.map_set
def w5q:=@Nat.le_succ
local macro "nD " n:declId s:Lean.Parser.Command.optDeclSig v:Lean.Parser.Command.declVal:command=>`(command|noncomputable def $n:declId $s:optDeclSig $v:declVal)
local macro "tm " n:declId s:Lean.Parser.Command.declSig v:Lean.Parser.Command.declVal:command=>`(command|theorem $n:declId $s:declSig $v:declVal)
local macro "!" t:term:tactic=>`(tactic|exact $t)
local macro "rF" t:term:tactic=>`(tactic|refine $t)
local macro "~" p:Lean.Parser.Tactic.rcasesPatMed ":=" t:term:tactic=>`(tactic|obtain $p:rcasesPatMed:=$t)
local macro "#" d:Lean.Parser.Term.letDecl:tactic=>`(tactic|have $d:letDecl)
local macro "@" t:term:tactic=>`(tactic|cases $t:term)
local macro "oM":term=>`(by omega)
namespace PySem.W.Fast
tm tw9888708587727750578:True:=trivial
tm tw4400038434760882070:True:=trivial
tm tw4686189836889917661:True:=trivial
tm tw12375241800200872507:True:=trivial
tm tw11369896806109691115:True:=trivial
tm tw10799386632920447219:True:=trivial
tm tw11274186597707099357:True:=trivial
tm tw12101785541065985892:True:=trivial
tm tw404870382221628854:True:=trivial
tm tw10865073065242860097:True:=trivial
tm tw16807261652627270226:True:=trivial
tm tw546741063895701567:True:=trivial
tm tw364426436356744290:True:=trivial
tm tw18175024995038134109:True:=trivial
tm tw11037039057895826505:True:=trivial
tm tw14218901560746246895:True:=trivial
tm tw349674454419589495:True:=trivial
tm tw4706349562542153907:True:=trivial
tm tw9993901240098544457:True:=trivial
tm tw2565618762100449138:True:=trivial
tm tw7940946364624022814:True:=trivial
tm tw7277065773015005059:True:=trivial
tm tw4557487741518666763:True:=trivial
tm tw14238936812828913553:True:=trivial
tm tw2429438947789178596:True:=trivial
tm tw9841681515255889099:True:=trivial
tm tw13298165625017670443:True:=trivial
tm tw16306375550851744451:True:=trivial
tm tw12461266942869328812:True:=trivial
tm tw15595669101524216735:True:=trivial
tm tw17248571160500286934:True:=trivial
tm tw2263324910886395707:True:=trivial
tm tw12448804148655797565:True:=trivial
tm tw1215223592334362489:True:=trivial
tm tw17668216597441033142:True:=trivial
tm tw2832326004865183319:True:=trivial
tm tw13119199063187918449:True:=trivial
tm tw17371323387592195537:True:=trivial
tm tw13512204910968917909:True:=trivial
tm tw10378245298194078826:True:=trivial
tm tw4466774291158820276:True:=trivial
tm tw17863587866470823197:True:=trivial
tm tw8271788442240415827:True:=trivial
tm tw6139308199261732014:True:=trivial
tm tw4995229898924691039:True:=trivial
tm tw6166613910677403763:True:=trivial
tm tw13387786207831452451:True:=trivial
tm tw6979538911696170741:True:=trivial
tm tw16195370100135867657:True:=trivial
tm tw3247456437017155228:True:=trivial
tm tw17592914372918282775:True:=trivial
tm tw7112616235901639088:True:=trivial
tm tw2364114648449664468:True:=trivial
tm tw1955011930276871802:True:=trivial
tm tw6419849198435403323:True:=trivial
tm tw5345935063541590799:True:=trivial
tm tw14538959896077503674:True:=trivial
tm tw14519252420762511198:True:=trivial
tm tw4112463553868152521:True:=trivial
tm tw9954999306020507154:True:=trivial
end PySem.W.Fast
namespace L2
open PySem PySem.Spec PyProof.Rows
variable{a:Addr}{A:Around}{op:CmpOp}{c e tg:Expr}{fd:FuncData}{base h h':Heap}{pins:List (Addr×Obj)}{ch fp:List Addr}{es:List Expr}{N ps:List Str}{us:List Value}{i t':Nat}{p pos:Pos}{P prog:Program}{K:PySem.W.Frag}{s:Shared}{x:Str}{mg:Str->Option Value}{u:Value}{E:Value->Shared->Prop}{f:Value->Value->Sem Value}{w:World}
set_option genInjectivity true in
inductive Kx where
 |non|bl (b:Bool)|int (i:Int)|str (x:Str)|tup (ks:List Kx)
inductive Sh where
 |ob|bl|int|str|tup (ss:List Sh)|many (s:Sh)
noncomputable instance:DecidableEq Kx:=λ_ _=>Classical.propDecidable _
mutual
noncomputable def Kx.depth:Kx->Nat
 |.tup ks=>Kx.depths ks+1
 |_=>0
noncomputable def Kx.depths:List Kx->Nat
 |[]=>0
 |k::ks=>max k.depth (Kx.depths ks)
end
mutual
def Conf:Kx->Sh->Prop
 |.non,.ob=>True
 |.bl _,.ob=>True
 |.bl _,.bl=>True
 |.int _,.int=>True
 |.str _,.str=>True
 |.tup ks,.tup ss=>Confs ks ss
 |.tup ks,.many s=>ConfM ks s
 |_,_=>False
def Confs:List Kx->List Sh->Prop
 |[],[]=>True
 |k::ks,s::ss=>Conf k s/\Confs ks ss
 |_,_=>False
def ConfM:List Kx->Sh->Prop
 |[],_=>True
 |k::ks,s=>Conf k s/\ConfM ks s
end
mutual
def KIs(h:Heap):Kx->Value->Prop
 |.non,v=>v=.none
 |.bl b,v=>v=.bool b
 |.int i,v=>∃t,v=.int i t
 |.str x,v=>∃t,v=.str x t
 |.tup ks,v=>∃a o items n,v=.ref a/\h.get? a=some o/\o.cls=.type "tuple" /\ o.data=.seq items n/\KAre h ks items.toList
def KAre(h:Heap):List Kx->List Value->Prop
 |[],vs=>vs=[]
 |k::ks,vs=>∃v r,vs=v::r/\KIs h k v/\KAre h ks r
end
mutual
theorem x71{h:Heap}:∀(k k':Kx){v:Value},KIs h k v->KIs h k' v->k=k'
 |.non,k',v,x,y=>by
  cases(show v=.none from x);cases k' with
  |non=>rfl
  |bl c=>cases(show Value.none=.bool c from y)
  |int i=>~⟨t,e⟩:=y;@e
  |str i=>~⟨t,e⟩:=y;@e
  |tup ks=>~⟨_,_,_,_,e,_⟩:=y;@e
 |.bl b,k',v,x,y=>by
  cases(show v=.bool b from x);cases k' with
  |non=>cases(show Value.bool b=.none from y)
  |bl c=>cases(show Value.bool b=.bool c from y);rfl
  |int i=>~⟨t,e⟩:=y;@e
  |str i=>~⟨t,e⟩:=y;@e
  |tup ks=>~⟨_,_,_,_,e,_⟩:=y;@e
 |.int b,k',v,x,y=>by
  ~⟨t,rfl⟩:=x;cases k' with
  |non=>@y
  |bl c=>@y
  |int i=>~⟨t,e⟩:=y;@e;rfl
  |str i=>~⟨t,e⟩:=y;@e
  |tup ks=>~⟨_,_,_,_,e,_⟩:=y;@e
 |.str b,k',v,x,y=>by
  ~⟨t,rfl⟩:=x;cases k' with
  |non=>@y
  |bl c=>@y
  |int i=>~⟨t,e⟩:=y;@e
  |str i=>~⟨t,e⟩:=y;@e;rfl
  |tup ks=>~⟨_,_,_,_,e,_⟩:=y;@e
 |.tup ks,k',v,x,y=>by
  ~⟨a,o,it,n,rfl,h1,h2,h3,h4⟩:=x;cases k' with
  |non=>@y
  |bl c=>@y
  |int i=>~⟨t,e⟩:=y;@e
  |str i=>~⟨t,e⟩:=y;@e
  |tup ks'=>
   ~⟨a',o',it',n',e,g1,g2,g3,g4⟩:=y;@e;rw[h1]at g1;@g1;rw[h3]at g3;injection g3 with e1 _
   subst e1;rw[x09 ks ks' h4 g4]
theorem x09{h:Heap}:∀(ks ks':List Kx){vs:List Value},KAre h ks vs->KAre h ks' vs->ks=ks'
 |[],ks',vs,x,y=>by
  cases(show vs=[]from x);cases ks' with
  |nil=>rfl
  |cons k ks'=>~⟨v,r,e,_⟩:=y;@e
 |k::ks,ks',vs,x,y=>by
  ~⟨v,r,rfl,h1,h2⟩:=x;cases ks' with
  |nil=>cases(show v::r=[]from y)
  |cons k' ks'=>
   ~⟨v',r',e,g1,g2⟩:=y;@e;rw[x71 k k' h1 g1,x09 ks ks' h2 g2]
end
mutual
theorem x3n{h h':Heap}(hk:∀a o,h.get? a=some o->o.cls=.type "tuple"->(∃it n,o.data=.seq it n)->h'.get? a=some o):∀(k:Kx){v:Value},KIs h k v->KIs h' k v
 |.non,v,x=>x
 |.bl b,v,x=>x
 |.int b,v,x=>x
 |.str b,v,x=>x
 |.tup ks,v,x=>by
  ~⟨a,o,it,n,rfl,h1,h2,h3,h4⟩:=x;!⟨a,o,it,n,rfl,hk a o h1 h2 ⟨it,n,h3⟩,h2,h3,x1u hk ks h4⟩
theorem x1u{h h':Heap}(hk:∀a o,h.get? a=some o->o.cls=.type "tuple"->(∃it n,o.data=.seq it n)->h'.get? a=some o):∀(ks:List Kx){vs:List Value},KAre h ks vs->KAre h' ks vs
 |[],vs,x=>x
 |k::ks,vs,x=>by
  ~⟨v,r,rfl,h1,h2⟩:=x;!⟨v,r,rfl,x3n hk k h1,x1u hk ks h2⟩
end
tm KAre.length:∀(ks:List Kx){vs:List Value},KAre h ks vs->vs.length=ks.length
 |[],vs,x=>by cases(show vs=[]from x);rfl
 |k::ks,vs,x=>by
  ~⟨v,r,rfl,h1,h2⟩:=x;rw[w0t,w0t,KAre.length ks h2]
mutual
noncomputable def kHash(w:World):Kx->Int
 |.non=>PySem.W.hashW w.params .none
 |.bl b=>reduceHash (if b=true then 1 else 0)
 |.int i=>hashInt i
 |.str x=>hashStr w x
 |.tup ks=>reduceHash (Builtin.Tuple.tupleHashOf (kHashes w ks))
noncomputable def kHashes(w:World):List Kx->List Int
 |[]=>[]
 |k::ks=>kHash w k::kHashes w ks
end
mutual
noncomputable def kDraws:Kx->Nat
 |.tup ks=>kDrawss ks+1
 |_=>1
noncomputable def kDrawss:List Kx->Nat
 |[]=>0
 |k::ks=>kDraws k+kDrawss ks
end
mutual
theorem x72:∀(k:Kx)(v:Value)(A:Around)(s:Shared)(Q:Int->Shared->Prop),KIs s.heap k v->A.units+k.depth<cLine->Q (kHash w k) {s with toks:=s.toks+kDraws k}->wpAny (model prog w) A (pyHash v) Q E s
 |.non,v,A,s,Q,x,hu,h=>by
  cases(show v=.none from x);!pyHash_slot (T:="NoneType") rfl F.slot_NoneType_hash F.entry_NoneType_hash (F.args_NoneType_hash_1 _) (beq_builtin_none _) (.inr oM) (wpAny_bind (wpAny_pure (wpAny_bind (wpAny_mkInt (wpAny_pure ⟨_,_,rfl,h⟩)))))
 |.bl b,v,A,s,Q,x,hu,h=>by
  cases(show v=.bool b from x);rF pyHash_slot (T:="bool") rfl F.slot_bool_hash entry_int_hash (args_int_hash _) (beq_builtin_none _) (.inr oM) ?_;@b
  ·!(show wpAny _ _ (do ret (<- mkInt 0)) _ _ s from wpAny_bind (wpAny_mkInt (wpAny_pure ⟨_,_,rfl,h⟩)))
  ·!(show wpAny _ _ (do ret (<- mkInt 1)) _ _ s from wpAny_bind (wpAny_mkInt (wpAny_pure ⟨_,_,rfl,h⟩)))
 |.int i,v,A,s,Q,x,hu,h=>by
  ~⟨t,rfl⟩:=x;!wpAny_pyHash_int h
 |.str i,v,A,s,Q,x,hu,h=>by
  ~⟨t,rfl⟩:=x;!wpAny_pyHash_str h
 |.tup ks,v,A,s,Q,x,hu,h=>by
  ~⟨a,o,it,n,rfl,h1,h2,h3,h4⟩:=x;rF pyHash_slot (T:="tuple") ⟨_,h1,h2⟩ F.slot_tuple_hash F.entry_tuple_hash (F.args_tuple_hash_1 _) (beq_builtin_none _) (.inr oM) ?_;show wpAny _ _ (Builtin.Tuple.tupleItemsOf (.ref a) >>= _) _ _ s;rF wpAny_bind (wpAny_tupleItemsOf h1 h3 ?_);rF wpAny_bind ?_;rw[<- w3g];rF x3o ks it.toList A.in1 s #[] _ h4 (by grind [Kx.depth]) λb hb=>?_
  show wpAny _ _ (retInt (Builtin.Tuple.tupleHashOf b.toList)) _ _ _;rw[hb];!wpAny_bind (wpAny_mkInt (wpAny_pure ⟨_,_,rfl,by grind [kHash,kDraws]⟩))
theorem x3o:∀(ks:List Kx)(vs:List Value)(A:Around)(s:Shared)(b:Array Int)(Q:Array Int->Shared->Prop),KAre s.heap ks vs->A.units+Kx.depths ks<cLine ->
  (∀b',b'.toList=b.toList++kHashes w ks->Q b' {s with toks:=s.toks+kDrawss ks}) ->
  wpAny (model prog w) A (forIn vs b λx r=>do let h <- pyHash x;pure PUnit.unit;pure (ForInStep.yield (r.push h))) Q E s
 |[],vs,A,s,b,Q,x,hu,h=>by
  cases(show vs=[]from x);!wpAny_pure (h b (by simp[kHashes]))
 |k::ks,vs,A,s,b,Q,x,hu,h=>by
  ~⟨v,r,rfl,h1,h2⟩:=x;simp only[Kx.depths]at hu;rw[w2j];rF wpAny_bind (wpAny_bind (x72 k v A s _ h1 oM ?_));rF wpAny_bind (wpAny_pure (wpAny_pure ?_))
  !x3o ks r A _ _ Q h2 oM λb' hb=>by
   grind [kHashes,kDrawss]
end
tm x73(a b):decide (Kx.bl a=Kx.bl b)=(a==b):=by
 grind
tm y3z(a b):decide (Kx.int a=Kx.int b)=(a==b):=by
 grind
tm y30(a b):decide (Kx.str a=Kx.str b)=(a==b):=by
 grind
nD sameAt(ks ks':List Kx)(j:Nat):Bool:=decide (ks[j]?=ks'[j]?)
tm y31:∀ks ks':List Kx,((List.range (min ks.length ks'.length)).all (sameAt ks ks')&&ks.length==ks'.length)=decide (Kx.tup ks=Kx.tup ks'):=by
 intro ks ks'
 by_cases e:ks=ks'
 ·grind [sameAt]
 ·rw[decide_eq_false (λz=>e (by injection z))]
  rw[w3o]
  by_cases hl:ks.length=ks'.length
  ·left
   rw[w3k];intro ha;rF e (List.ext_getElem? λj=>?_)
   by_cases hj:j<ks.length
   ·#:=w0z.mp ha j (w1i.mpr oM);!of_decide_eq_true this
   grind
  grind
tm q78:∀(ks:List Kx){vs:List Value},KAre h ks vs->∀(j:Nat)(v:Value),vs[j]?=some v->∃k,ks[j]?=some k/\KIs h k v
 |[],vs,x,j,v,e=>by cases(show vs=[]from x);simp at e
 |k::ks,vs,x,j,v,e=>by
  ~⟨u,r,rfl,h1,h2⟩:=x;cases j with
  |zero=>grind
  |succ j=>!q78 ks h2 j v (by simpa using e)
tm q8v:∀(ks:List Kx)(j:Nat)(k:Kx),ks[j]?=some k->k.depth<=Kx.depths ks
 |[],j,k,e=>by simp at e
 |x::ks,j,k,e=>by
  simp only[Kx.depths];cases j with
  |zero=>@e;omega
  |succ j=>have:=q8v ks j k (by simpa using e);omega
tm q8w:∀(ks:List Kx)(ss:List Sh),Confs ks ss->∀(j:Nat)(k:Kx),ks[j]?=some k->∃s,ss[j]?=some s/\Conf k s
 |[],ss,_,j,k,e=>by simp at e
 |x::ks,[],c,j,k,e=>c.elim
 |x::ks,s::ss,c,j,k,e=>by
  cases j with
  |zero=>@e;!⟨s,rfl,c.1⟩
  |succ j=>!q8w ks ss c.2 j k (by simpa using e)
tm q8x:∀(ks:List Kx)(s:Sh),ConfM ks s->∀(j:Nat)(k:Kx),ks[j]?=some k->Conf k s
 |[],s,_,j,k,e=>by simp at e
 |x::ks,s,c,j,k,e=>by
  cases j with
  |zero=>@e;!c.1
  |succ j=>!q8x ks s c.2 j k (by simpa using e)
tm z64(s:Shared):∀(n:Nat)(k k':Kx)(sh:Sh)(v v':Value)(A:Around),k.depth<=n->Conf k sh->Conf k' sh->KIs s.heap k v->KIs s.heap k' v'->A.units+n<cLine->SeqAt.EqAt A s v v' (decide (k=k')):=by
 intro n
 induction n with
 |zero=>
  intro k k' sh v v' A hd c c' x y hu;cases k with
  |non=>
   cases sh with
   |ob=>
    cases k' with
    |non=>cases(show v=.none from x);cases(show v'=.none from y);rw[decide_eq_true rfl];!.same _
    |bl b=>cases(show v=.none from x);cases(show v'=.bool b from y);simp_all [SeqAt.EqAt.none_bool]
    |_=>!c'.elim
   |_=>!c.elim
  |bl a=>
   cases sh with
   |ob=>
    cases k' with
    |non=>cases(show v=.bool a from x);cases(show v'=.none from y);simp_all [SeqAt.EqAt.bool_none]
    |bl b=>cases(show v=.bool a from x);cases(show v'=.bool b from y);rw[x73];!.bool_bool a b
    |_=>!c'.elim
   |bl=>
    cases k' with
    |bl b=>cases(show v=.bool a from x);cases(show v'=.bool b from y);rw[x73];!.bool_bool a b
    |_=>!c'.elim
   |_=>!c.elim
  |int a=>
   cases sh with
   |int=>
    cases k' with
    |int b=>~⟨t,rfl⟩:=x;~⟨u,rfl⟩:=y;rw[y3z];!.int_int a t b u
    |_=>!c'.elim
   |_=>!c.elim
  |str a=>
   cases sh with
   |str=>
    cases k' with
    |str b=>~⟨t,rfl⟩:=x;~⟨u,rfl⟩:=y;rw[y30];!.str_str a t b u
    |_=>!c'.elim
   |_=>!c.elim
  |tup ks=>grind [Kx.depth]
 |succ n ih=>
  intro k k' sh v v' A hd c c' x y hu;cases k with
  |non=>!ih .non k' sh v v' A (w1g _) c c' x y oM
  |bl a=>!ih (.bl a) k' sh v v' A (w1g _) c c' x y oM
  |int a=>!ih (.int a) k' sh v v' A (w1g _) c c' x y oM
  |str a=>!ih (.str a) k' sh v v' A (w1g _) c c' x y oM
  |tup ks=>
   ~⟨a,o,it,m,rfl,h1,h2,h3,h4⟩:=x
   #tail:∀ks',k'=.tup ks'->(∀(j:Nat)(u u':Kx),ks[j]?=some u->ks'[j]?=some u'->∃s,Conf u s/\Conf u' s)->SeqAt.EqAt A s (.ref a) v' (decide (Kx.tup ks=k')):=by
    rintro ks' rfl hc;~⟨b,o',it',m',rfl,g1,g2,g3,g4⟩:=y
    by_cases hab:a=b
    ·grind [x09,SeqAt.EqAt.same]
    ·#l1:=KAre.length ks h4;#l2:=KAre.length ks' g4;rw[<- y31]
     #:=SeqAt.RcAt.tuples (A:=A) (s:=s) (e:=sameAt ks ks') (show s.heap.IsTuple a it from⟨o,h1,h2,m,h3⟩) (show s.heap.IsTuple b it' from⟨o',g1,g2,m',g3⟩) oM (λj j1 j2=>by
      ~⟨u,u1,u2⟩:=q78 ks h4 j it[j] (by simp[j1]);~⟨u',u1',u2'⟩:=q78 ks' g4 j it'[j] (by simp[j2]);~⟨sh',c1,c2⟩:=hc j u u' u1 u1';#hdj:=q8v ks j u u1;simp only[Kx.depth]at hd;#z:=ih u u' sh' _ _ A.in1 oM c1 c2 u2 u2' (by grind)
      grind [sameAt,decide])
     grind [SeqAt.EqAt.of_refs]
   cases sh with
   |tup ss=>
    cases k' with
    |tup ks'=>
     rF tail ks' rfl λj u u' e1 e2=>?_
     ~⟨s1,q1,q2⟩:=q8w ks ss c j u e1;~⟨s2,q3,q4⟩:=q8w ks' ss c' j u' e2
     grind
    |_=>!c'.elim
   |many s1=>
    cases k' with
    |tup ks'=>!tail ks' rfl λj u u' e1 e2=>⟨s1,q8x ks s1 c j u e1,q8x ks' s1 c' j u' e2⟩
    |_=>!c'.elim
   |_=>!c.elim
tm y33:∀(n:Nat)(k:Kx)(v:Value)(s:Shared)(Q:Bool->Shared->Prop),k.depth<=n->KIs s.heap k v->Q true s->wpAny (model prog w) A (eqIsQuiet n v) Q E s:=by
 intro n
 induction n with
 |zero=>
  intro k v s Q hd x h;cases k with
  |non=>cases(show v=.none from x);rw[eqIsQuiet_byValue _ rfl];!wpAny_pure h
  |bl b=>cases(show v=.bool b from x);rw[eqIsQuiet_byValue _ rfl];!wpAny_pure h
  |int i=>~⟨t,rfl⟩:=x;rw[eqIsQuiet_byValue _ rfl];!wpAny_pure h
  |str i=>~⟨t,rfl⟩:=x;rw[eqIsQuiet_byValue _ rfl];!wpAny_pure h
  |tup ks=>grind [Kx.depth]
 |succ n ih=>
  intro k v s Q hd x h;cases k with
  |non=>cases(show v=.none from x);rw[eqIsQuiet_byValue _ rfl];!wpAny_pure h
  |bl b=>cases(show v=.bool b from x);rw[eqIsQuiet_byValue _ rfl];!wpAny_pure h
  |int i=>~⟨t,rfl⟩:=x;rw[eqIsQuiet_byValue _ rfl];!wpAny_pure h
  |str i=>~⟨t,rfl⟩:=x;rw[eqIsQuiet_byValue _ rfl];!wpAny_pure h
  |tup ks=>
   ~⟨a,o,it,m,rfl,h1,h2,h3,h4⟩:=x;#hT:s.TypeIs (.ref a) "tuple":=⟨o,h1,h2⟩;unfold eqIsQuiet;rF wpAny_bind (wpAny_specialOf hT F.slot_tuple_eq.lookup ?_);show wpAny _ _ (isInstance (.ref a) (.type "tuple") >>= _) _ _ s;rF wpAny_bind (wpAny_isInstance hT isSubtype_tuple_tuple ?_);simp only[Bool.not_true,w3h,if_false];rF wpAny_bind (wpAny_seqItems h1 h3 ?_);rF wpAny_bind ?_;show wpAny _ _ (forIn it _ _) _ _ s;rw[<- w3g];rF wpAny_forIn_list _ (λrest r s'=>r.1=none/\s'=s/\∀v∈rest,∃k:Kx,k.depth<=n/\KIs s.heap k v) _ ?_ ?_ _ _ ⟨rfl,rfl,λv hv=>?_⟩
   ·rintro v rest r s' ⟨hr,rfl,hall⟩;~⟨k,k1,k2⟩:=hall v w0i;rF wpAny_bind (ih k v _ _ k1 k2 ?_)
    simp_all [wpAny_pure]
   ·grind [wpAny_pure]
   ·~⟨j,hj,e⟩:=w5a.mp hv;~⟨k,k1,k2⟩:=q78 ks h4 j v (by grind);#:=q8v ks j k k1
    grind [Kx.depth]
nD treeKind(prog)(w)(sh:Sh):HeapKind prog w Kx where
 is:=λh k a=>KIs h k (.ref a)/\Conf k sh/\k.depth<=7
 hash:=kHash w
 draws:=kDraws
 room:=λA=>A.units+8<cLine
 inj:=λhx hy=>x71 _ _ hx.1 hy.1
 keeps:=λ{h h' k a d o es ep} x ho hd hs=>⟨x3n (λb ob e1 e2 e3=>by
  #hne:b≠d:=by
   grind
  !(hs.2 b hne).trans e1) _ x.1,x.2⟩
 pyHash:=λ{A E s k a Q} hu hk h=>x72 k _ A s Q hk.1 (by #:=hk.2.2;omega) h
 eqBool:=λ{A E s x y a b Q} hu hx hy h=>z64 s 7 x y sh _ _ A hx.2.2 hx.2.1 hy.2.1 hx.1 hy.1 oM prog w E Q h
 quiet:=λ{A E s k a Q} hk h=>y33 8 k _ s Q (by #:=hk.2.2;omega) hk.1 h
set_option Elab.async false
set_option linter.all false
set_option maxRecDepth 100000
noncomputable abbrev Key:=Sum Int Str
nD keyIs:Key->Value->Bool
 |.inl k,v=>Value.isInt k v
 |.inr x,v=>Value.isStrOf x v
nD keyH(w:World):Key->Int
 |.inl k=>hashInt k
 |.inr x=>hashStr w x
tm keyIs_shape:∀{k:Key}{v:Value},keyIs k v=true->(∃i t,k=Sum.inl i/\v=Value.int i t)\/(∃x t,k=Sum.inr x/\v=Value.str x t)
 |.inl i,v,h=>by
  ~⟨t,e⟩:=Value.isInt_shape (k:=i) (v:=v) h
  grind
 |.inr x,v,h=>by
  ~⟨t,e⟩:=Value.isStrOf_shape (x:=x) (v:=v) h
  grind
tm y0k(i)(t):keyIs (.inl i) (.int i t)=true:=by simp[keyIs,Value.isInt]
tm y0l(x)(t):keyIs (.inr x) (.str x t)=true:=by simp[keyIs,Value.isStrOf]
tm z2j(a b):decide ((Sum.inl a:Key)=Sum.inl b)=(a==b):=by
 grind
tm z2k(a b):decide ((Sum.inr a:Key)=Sum.inr b)=decide (a=b):=by
 grind
tm z2l(a)(b):decide ((Sum.inl a:Key)=Sum.inr b)=false:=decide_eq_false (λq=>nomatch q)
tm z2m(a)(b):decide ((Sum.inr a:Key)=Sum.inl b)=false:=decide_eq_false (λq=>nomatch q)
nD mixKind(prog)(w):PySem.KeyKind prog w Key where
 is:=keyIs
 hash:=keyH w
 inj:=λv a b ha hb=>by
  grind [keyIs_shape]
 byValue:=λk v h=>by
  rcases keyIs_shape h with⟨i,t,rfl,rfl⟩|⟨x,t,rfl,rfl⟩<;>rfl
 pyHash:=λhv h=>by
  rcases keyIs_shape hv with⟨i,t,rfl,rfl⟩|⟨x,t,rfl,rfl⟩
  ·!wpAny_pyHash_int h
  ·!wpAny_pyHash_str h
 eqBool:=λhu hv h=>by
  rcases keyIs_shape hu with⟨i,t,rfl,rfl⟩|⟨x,t,rfl,rfl⟩
  ·rcases keyIs_shape hv with⟨j,u,rfl,rfl⟩|⟨y,u,rfl,rfl⟩
   ·grind [z2j,wpAny_eqBool_int]
   ·rw[z2l]at h;!SeqAt.EqAt.int_str i t y u _ _ _ _ h
  ·rcases keyIs_shape hv with⟨j,u,rfl,rfl⟩|⟨y,u,rfl,rfl⟩
   ·rw[z2m]at h;!SeqAt.EqAt.str_int x t j u _ _ _ _ h
   grind [z2k,wpAny_eqBool_str]
 «strs»:=λk x t v h=>by
  rcases keyIs_shape h with⟨i,u,rfl,e⟩|⟨y,u,rfl,e⟩
  ·!nomatch e
  ·injection e with e1 _
   subst e1;@v<;>rfl
tm x7h(prog)(w)(i)(t):(mixKind prog w).is (.inl i) (.int i t)=true:=y0k i t
tm x7i(prog)(w)(x)(t):(mixKind prog w).is (.inr x) (.str x t)=true:=y0l x t
set_option genInjectivity true in
inductive V where
 |non|bl (b:Bool)|int (i:Int)|str (x:Str)|byt (b:Array UInt8)|flt (b:UInt64)|ref (a:Addr)|ty (n:String)
 deriving DecidableEq
variable{xs:List V}{v:V}
nD RelV:V->Value->Prop
 |.non,u=>u=Value.none
 |.bl b,u=>u=Value.bool b
 |.int i,u=>∃t,u=Value.int i t
 |.str x,u=>∃t,u=Value.str x t
 |.byt b,u=>∃t,u=Value.bytes b t
 |.flt b,u=>∃t,u=Value.float b t
 |.ref a,u=>u=Value.ref a
 |.ty n,u=>u=Value.type n
abbrev Vals:List V->List Value->Prop:=Paired RelV
tm Vals.length(r:Vals xs us):xs.length=us.length:=Paired.length r
tm Vals.get:∀{xs:List V}{us:List Value}{i:Nat}{x:V},Vals xs us->xs[i]?=some x->∃u,us[i]?=some u/\RelV x u
 |_,_,_,_,.nil,e=>by simp at e
 |_,_,0,_,.cons r _,e=>by grind
 |_,_,i+1,x,.cons _ t,e=>by
  ~⟨u,h1,h2⟩:=Vals.get (i:=i) (x:=x) t (by simpa using e)
  grind
tm Vals.set{x:V}(r:RelV x u):∀{xs:List V}{us:List Value}(i:Nat),Vals xs us->Vals (xs.set i x) (us.set i u)
 |_,_,_,.nil=>.nil
 |_,_,0,.cons _ t=>.cons r t
 |_,_,i+1,.cons q t=>.cons q (Vals.set r i t)
tm Vals.append:∀{xs ys:List V}{us ws:List Value},Vals xs us->Vals ys ws->Vals (xs++ys) (us++ws)
 |_,_,_,_,.nil,s=>s
 |_,_,_,_,.cons r t,s=>.cons r (Vals.append t s)
tm Vals.take:∀{xs:List V}{us:List Value}(n:Nat),Vals xs us->Vals (xs.take n) (us.take n)
 |_,_,0,_=>.nil
 |_,_,_+1,.nil=>.nil
 |_,_,n+1,.cons r t=>.cons r (Vals.take n t)
tm Vals.drop:∀{xs:List V}{us:List Value}(n:Nat),Vals xs us->Vals (xs.drop n) (us.drop n)
 |_,_,0,r=>r
 |_,_,_+1,.nil=>.nil
 |_,_,n+1,.cons _ t=>Vals.drop n t
nD RelO:Option V->Option Value->Prop
 |some v,some u=>RelV v u
 |none,none=>True
 |_,_=>False
nD KV{κ:Type}:List (κ×V)->List (κ×Value)->Prop:=Paired fun(p:κ×V) (q:κ×Value)=>p.1=q.1/\RelV p.2 q.2
nD kV:Key->V
 |.inl i=>.int i
 |.inr x=>.str x
inductive HO where
 |lst (xs:List V)
 |tup (xs:List V)
 |dK (kvs:List (Key×V))|dT (sh:Sh) (kvs:List (Kx×V)) (kas:List Addr)
 |set (S:Int->Bool) (n:Nat)
 |ins (C dx:Addr) (fs:List (Str×V))
 |own (x:Addr)
 |xd (fs:List (Str×V))
 |met (f x:Addr)
 |rng (lo hi:Int)
 |frz (o:Obj) (u:HO)
 |tbl (ps:Array Value)
 |ext (φ:Heap->Prop)
noncomputable abbrev Hp:=Addr->Option HO
variable{H H':Hp}
nD TupLike:HO->Prop
 |.tup _=>True
 |.frz _ (.tup _)=>True
 |.frz _ (.own _)=>True
 |_=>False
mutual
def KRep(H:Hp):Kx->V->Prop
 |.non,v=>v=.non
 |.bl b,v=>v=.bl b
 |.int i,v=>v=.int i
 |.str x,v=>v=.str x
 |.tup ks,v=>∃a xs,v=.ref a/\(H a=some (.tup xs)\/∃o,H a=some (.frz o (.tup xs)))/\KReps H ks xs
def KReps(H:Hp):List Kx->List V->Prop
 |[],vs=>vs=[]
 |k::ks,vs=>∃v r,vs=v::r/\KRep H k v/\KReps H ks r
end
mutual
theorem KRep.keeps{H H':Hp}(ht:∀b u,TupLike u->H b=some u->H' b=some u):∀(k:Kx){v:V},KRep H k v->KRep H' k v
 |.non,_,x=>x
 |.bl _,_,x=>x
 |.int _,_,x=>x
 |.str _,_,x=>x
 |.tup ks,_,x=>by
  ~⟨a,xs,e,q,r⟩:=x;rF⟨a,xs,e,?_,KReps.keeps ht ks r⟩;rcases q with q|⟨o,q⟩
  ·!.inl (ht _ _ True.intro q)
  ·!.inr ⟨o,ht _ _ True.intro q⟩
theorem KReps.keeps{H H':Hp}(ht:∀b u,TupLike u->H b=some u->H' b=some u):∀(ks:List Kx){vs:List V},KReps H ks vs->KReps H' ks vs
 |[],_,x=>x
 |k::ks,_,x=>by
  ~⟨v,r,e,h1,h2⟩:=x;!⟨v,r,e,KRep.keeps ht k h1,KReps.keeps ht ks h2⟩
end
nD upd(H:Hp)(a:Addr)(o:HO):Hp:=λb=>if b=a then some o else H b
tm q0k:upd H a o a=some o:=by simp_all [upd]
tm q0g(h:b≠a):upd H a o b=H b:=by unfold upd;rw[if_neg h]
tm y7r{u:HO}:upd (upd H a o) a u=upd H a u:=by
 grind [upd]
tm q3q{u:HO}(h:H a=some o)(h':H b=some u)(d:o≠u):a≠b:=by
 grind
tm q0p(h:H a=some o)(h':H b=none):a≠b:=by
 grind
section
variable(P:Program)(w:World)
nD BareT(h:Heap)(a:Addr):Prop:=∃o,h.get? a=some o/\o.dict=none
nD ObjOk(H:Hp)(h:Heap)(a:Addr):HO->Prop
 |.lst xs=>xs.length<=sizeLine/\∃(its:List Value)(n:Nat),Vals xs its/\h.get? a=some {cls:=.type "list", data:=.seq its.toArray n}
 |.tup xs=>xs.length<=sizeLine/\∃its:List Value,Vals xs its/\IsTup h a its.toArray/\BareT h a
 |.dK kvs=>kvs.length<=sizeLine/\(a==sysModules)=false/\∃vs,KV kvs vs/\h.DictOf (mixKind P w) a vs
 |.dT sh kvs kas=>kvs.length<=sizeLine/\(a==sysModules)=false/\∃xs:List (Kx×Addr×Value),
   Paired (fun(p:Kx×V) (q:Kx×Addr×Value)=>p.1=q.1/\(KRep H p.1 (.ref q.2.1)/\Conf p.1 sh/\p.1.depth<=7)/\RelV p.2 q.2.2) kvs xs/\xs.map (·.2.1)=kas /\
   ∃o es ep,h.get? a=some o/\o.ExactDict/\o.data=.dict es ep/\es.toList=xs.map (entryOfKey (treeKind P w sh))/\(xs.map (·.1)).Nodup
 |.set S n=>h.SetOf (intKind P w) a S n
 |.ins C dx fs=>H dx=some (.own a)/\fs.length<=1000/\dx≠a/\h.get? a=some (PySem.W.instObj C dx) /\
   ∃mA,h.Ns1 dx mA/\(∀f,RelO (fs.lookup f) (mA f))/\PySem.Within mA (fs.map (·.1))
 |.own _=>∃o,h.get? a=some o
 |.xd fs=>∃mA,h.Ns1 a mA/\∀f,RelO (fs.lookup f) (mA f)
 |.rng lo hi=>∃t u v,h.get? a=some {cls:=.type "range", data:=.fields #[.int lo t,.int hi u,.int 1 v]}
 |.frz o u=>h.get? a=some o/\ObjOk H h a u
 |.tbl ps=>(∃(q:Str)(qs:Array Value),ps[0]?=some (.bool true)/\ps[1]?=some (.str q 0)/\h.get? a=some {cls:=.none,data:=.fields qs}/\TriplesOk qs.toList/\∀(pos:Pos)(cv:Value),codeAmong pos qs.toList=some cv ->
   ∃(c:Addr)(oc:Obj)(vs:Array Value)(t:Tok),cv=.ref c/\H c=some (.frz oc (.own 0))/\oc.data=.fields vs/\vs[1]?=some (.str q t)) \/
   ∃(q:Str)(c:Addr)(oc ob:Obj)(vs:Array Value)(t:Tok),ps[0]?=some (.bool false)/\ps[1]?=some (.str q 0)/\ps[2]?=some (.ref c)/\H c=some (.frz oc (.own 0))/\oc.data=.fields vs/\vs[1]?=some (.str q t)/\h.get? a=some ob
 |.met f x=>h.get? a=some (methodObj (.ref f) (.ref x))
 |.ext φ=>φ h/\(∃o,h.get? a=some o)/\∀h1 h2:Heap,φ h1->(∀o,h1.get? a=some o->h2.get? a=some o)->φ h2
nD HOk(H:Hp)(h:Heap):Prop:=∀a o,H a=some o->ObjOk P w H h a o
end
section
variable{o:HO}
tm ObjOk.lt(x:ObjOk P w H h a o):a<h.objs.size:=by
 cases o with
 |lst xs=>~⟨_,_,_,_,e⟩:=x;!Heap.lt_size e
 |tup xs=>~⟨_,_,_,p,_⟩:=x;!p.lt
 |dK kvs=>~⟨_,_,_,_,o,_,_,e,_⟩:=x;!Heap.lt_size e
 |dT sh kvs kas=>~⟨_,_,_,_,_,o,_,_,e,_⟩:=x;!Heap.lt_size e
 |set S n=>~⟨o,_,_,_,e,_⟩:=x;!Heap.lt_size e
 |ins C dx fs=>~⟨_,_,_,e,_⟩:=x;!Heap.lt_size e
 |own y=>~⟨_,e⟩:=x;!Heap.lt_size e
 |xd fs=>~⟨_,⟨_,_,_,e,_⟩,_⟩:=x;!Heap.lt_size e
 |rng lo hi=>~⟨_,_,_,e⟩:=x;!Heap.lt_size e
 |frz ob u=>~⟨e,_⟩:=x;!Heap.lt_size e
 |tbl ps=>rcases x with⟨_,_,_,_,e,_⟩|⟨_,_,_,_,_,_,_,_,_,_,_,_,e⟩<;>!Heap.lt_size e
 |met f y=>!Heap.lt_size (show h.get? a=some _ from x)
 |ext φ=>~⟨_,⟨_,e⟩,_⟩:=x;!Heap.lt_size e
tm Paired.mapP{α β:Type}{F G:α->β->Prop}:∀{l₁:List α}{l₂:List β},Paired F l₁ l₂->(∀a b,F a b->G a b)->Paired G l₁ l₂
 |_,_,.nil,_=>.nil
 |_,_,.cons r t,f=>.cons (f _ _ r) (Paired.mapP t f)
tm ObjOk.stay(x:ObjOk P w H h a o)(k:∀b u,(b=a\/H b=some (.own a))->h.get? b=some u->h'.get? b=some u)
  (ho:∀b,H b=some (.own a)->H' b=some (.own a))(ht:∀b u,TupLike u->H b=some u->H' b=some u):ObjOk P w H' h' a o:=by
 induction o with
 |lst xs=>~⟨z,its,n,r,e⟩:=x;!⟨z,its,n,r,k _ _ (.inl rfl) e⟩
 |tup xs=>~⟨z,its,r,⟨ob,e,c⟩,⟨o2,e2,c2⟩⟩:=x;!⟨z,its,r,⟨ob,k _ _ (.inl rfl) e,c⟩,⟨o2,k _ _ (.inl rfl) e2,c2⟩⟩
 |dK kvs=>~⟨z,y,vs,r,ob,es,ep,e,c⟩:=x;!⟨z,y,vs,r,ob,es,ep,k _ _ (.inl rfl) e,c⟩
 |dT sh kvs kas=>
  ~⟨z,y,xs,r,ka,ob,es,ep,e,c⟩:=x;!⟨z,y,xs,Paired.mapP r λp q z=>⟨z.1,⟨KRep.keeps ht _ z.2.1.1,z.2.1.2⟩,z.2.2⟩,ka,ob,es,ep,k _ _ (.inl rfl) e,c⟩
 |set S n=>~⟨ob,es,ep,t,e,c⟩:=x;!⟨ob,es,ep,t,k _ _ (.inl rfl) e,c⟩
 |ins C dx fs=>
  ~⟨d,z,ne,e,mA,⟨od,es,ep,e2,c⟩,r⟩:=x;!⟨ho _ d,z,ne,k _ _ (.inl rfl) e,mA,⟨od,es,ep,k _ _ (.inr d) e2,c⟩,r⟩
 |own y=>~⟨ob,e⟩:=x;!⟨ob,k _ _ (.inl rfl) e⟩
 |xd fs=>~⟨mA,⟨od,es,ep,e,c⟩,r⟩:=x;!⟨mA,⟨od,es,ep,k _ _ (.inl rfl) e,c⟩,r⟩
 |rng lo hi=>~⟨t,u,v,e⟩:=x;!⟨t,u,v,k _ _ (.inl rfl) e⟩
 |frz ob u ih=>~⟨e,q⟩:=x;!⟨k _ _ (.inl rfl) e,ih q⟩
 |tbl ps=>
  rcases x with⟨q,qs,p0,p1,e,tr,cd⟩|⟨q,c,oc,ob,vs,t,p0,p1,p2,h3,h4,h5,e⟩
  ·rF .inl ⟨q,qs,p0,p1,k _ _ (.inl rfl) e,tr,λpos cv z=>?_⟩
   ~⟨c,oc,vs,t,h1,h3,h4,h5⟩:=cd pos cv z;!⟨c,oc,vs,t,h1,ht _ _ True.intro h3,h4,h5⟩
  ·!.inr ⟨q,c,oc,ob,vs,t,p0,p1,p2,ht _ _ True.intro h3,h4,h5,k _ _ (.inl rfl) e⟩
 |met f y=>
  #e:h.get? a=some (methodObj (.ref f) (.ref y)):=x;show h'.get? a=some (methodObj (.ref f) (.ref y));!k a _ (.inl rfl) e
 |ext φ=>~⟨p,⟨o,e⟩,st⟩:=x;!⟨st _ _ p λo q=>k _ _ (.inl rfl) q,⟨o,k _ _ (.inl rfl) e⟩,st⟩
tm HOk.lt(x:HOk P w H h)(e:H a=some o):a<h.objs.size:=(x a o e).lt
tm HOk.fresh(x:HOk P w H h)(e:h.objs.size<=a):H a=none:=by
 cases q:H a with
 |none=>rfl
 |some u=>!absurd (w0s (x.lt q) e) (w2n _)
tm HOk.kept(x:HOk P w H h)(k:∀b u,h.get? b=some u->h'.get? b=some u):HOk P w H h':=λa o e=>
 (x a o e).stay (λb u _ q=>k b u q) (λ_ q=>q) λ_ _ _ q=>q
tm HOk.laid(x:HOk P w H h)(k:∀b u,h.get? b=some u->h'.get? b=some u)(hp:h.objs.size<=a)(new:ObjOk P w (upd H a o) h' a o):HOk P w (upd H a o) h':=λb u e=>by
 #hn:=x.fresh hp
 by_cases hb:b=a
 ·grind [q0k]
 ·rw[q0g hb]at e;!(x b u e).stay (λc v _ q=>k c v q) (λc q=>by rw[q0g (q0p q hn)];!q) λc xs _ q=>by rw[q0g (q0p q hn)];!q
end
nD Rd(H:Hp)(a:Addr)(u:HO):Prop:=H a=some u\/∃o,H a=some (.frz o u)
tm Rd.ok{u:HO}(r:Rd H a u)(x:HOk P w H h):ObjOk P w H h a u:=by
 rcases r with r|⟨o,r⟩
 ·!x a u r
 ·~⟨_,q⟩:=x a _ r;!q
nD Mut:Option HO->Prop
 |some (.lst _)=>True
 |some (.dK _)=>True
 |some (.dT _ _ _)=>True
 |some (.set _ _)=>True
 |some (.ins _ _ _)=>True
 |some (.ext _)=>True
 |_=>False
section
variable{x e:Addr}{o':HO}
tm HOk.write(ok:HOk P w H h)(mu:Mut (H x))(he:e=x\/H e=some (.own x))(k:∀b u,b≠e->h.get? b=some u->h'.get? b=some u)(heo:∃u,h'.get? e=some u)
  (new:ObjOk P w (upd H x o') h' x o'):HOk P w (upd H x o') h':=λb u q=>by
 #nown:∀c y,H c=some (.own y)->c≠x:=λc y r z=>by subst z;rw[r]at mu;!mu
 #ntup:∀c u,TupLike u->H c=some u->c≠x:=λc u t r z=>by
  subst z;rw[r]at mu;@u<;>first|!mu|!t
 by_cases hb:b=x
 ·grind [q0k]
 ·rw[q0g hb]at q
  by_cases hbe:b=e
  ·#q':H b=some (.own x):=by
    grind
   rw[q]at q';@q';~⟨v,hv⟩:=heo;!⟨v,by rw[hbe];!hv⟩
  ·rF(ok b u q).stay (λc v hc r=>k c v ?_ r) (λc r=>by grind [q0g]) λc xs t r=>by grind [q0g]
   rcases hc with rfl|hc
   ·!hbe
   ·rintro rfl;rcases he with z|z
    ·!nown c b hc z
    ·rw[hc]at z;@z;!hb rfl
end
structure Un(fs ex:List Addr)(H H':Hp)(h h':Heap):Prop where
 keep:∀b o,h.get? b=some o->H b=none->b∉fs->b∉ex->h'.get? b=some o
 slot:∀b o,h.get? b=some o->H b=none->b∈fs->b∉ex->∃sl,h'.get? b=some {o with slots:=sl}
 free:∀b o,h.get? b=some o->H b=none->b∉ex->H' b=none
 there:∀b o,h.get? b=some o->b∉ex->∃o',h'.get? b=some o'
 tups:∀b xs,H b=some (.tup xs)->H' b=some (.tup xs)
 frzs:∀b o u,H b=some (.frz o u)->H' b=some (.frz o u)
 tbls:∀b ps,H b=some (.tbl ps)->∃more,H' b=some (.tbl (ps++more))
section
variable{fs fs' ex ex':List Addr}{H1 H2:Hp}{h1 h2:Heap}{x e:Addr}{o:HO}
tm Un.any(u:Un fs ex H H1 h h1)(q:h.get? b=some ob)(n:H b=none)(hx:b∉ex):∃sl,h1.get? b=some {ob with slots:=sl}:=by
 by_cases hb:b∈fs
 ·!u.slot b ob q n hb hx
 ·!⟨ob.slots,u.keep b ob q n hb hx⟩
tm Un.kept(k:∀b u,h.get? b=some u->h'.get? b=some u):Un fs ex H H h h':=
 ⟨λb ob q _ _ _=>k b ob q,λb ob q _ _ _=>⟨ob.slots,k b ob q⟩,λ_ _ _ n _=>n,λb ob q _=>⟨ob,k b ob q⟩,λ_ _ q=>q,λ_ _ _ q=>q,λ_ ps q=>⟨#[],by rw[q];simp⟩⟩
tm Un.refl:Un fs ex H H h h:=Un.kept λ_ _ q=>q
tm Un.laid(k:∀b u,h.get? b=some u->h'.get? b=some u)(hp:h.objs.size<=a)(hn:H a=none):Un fs ex H (upd H a o) h h' where
 keep:=λb u q _ _ _=>k b u q
 slot:=λb u q _ _ _=>⟨u.slots,k b u q⟩
 free:=λb u q n _=>by rw[q0g (w0w (w0s (Heap.lt_size q) hp))];!n
 there:=λb u q _=>⟨u,k b u q⟩
 tups:=λb xs q=>by rw[q0g (q0p q hn)];!q
 frzs:=λb u xs q=>by rw[q0g (q0p q hn)];!q
 tbls:=λb ps q=>⟨#[],by rw[q0g (q0p q hn),q];simp⟩
tm Un.write(mu:Mut (H x))(he:e=x\/H e=some (.own x))(k:∀b u,b≠e->h.get? b=some u->h'.get? b=some u)(heo:∃u,h'.get? e=some u):Un fs ex H (upd H x o) h h':=by
 #hx:∀b,H b=none->b≠x:=λb n z=>by subst z;rw[n]at mu;!mu
 #hb:∀b,H b=none->b≠e:=λb n z=>by
  grind
 #hm:∀b u,H b=some u->¬Mut (some u)->b≠x:=λb u q nm z=>by grind
 rF⟨λb u q n _ _=>k b u (hb b n) q,λb u q n _ _=>⟨u.slots,k b u (hb b n) q⟩,λb u q n _=>by grind [q0g],λb u q _=>?_,
  λb xs q=>by rw[q0g (hm b _ q λz=>z)];!q,λb u xs q=>by rw[q0g (hm b _ q λz=>z)];!q,λb ps q=>⟨#[],by rw[q0g (hm b _ q λz=>z),q];simp⟩⟩
 grind
end
nD trk(h:Heap)(H:Hp):List Addr:=(List.range h.objs.size).filter λa=>(H a).isSome
nD hidT(h:Heap)(H:Hp):Heap:=PySem.W.hideAll h (trk h H)
tm y0m(h)(H):(hidT h H).objs.size=h.objs.size:=PySem.W.hideAll_size _ _
tm y34(e:h.get? b=some o)(n:H b=none):(hidT h H).get? b=some o:=
 hideAll_get _ e λhm=>by
  #q:(H b).isSome=true:=(List.mem_filter.mp hm).2;rw[n]at q;simp at q
tm y7s(e:(hidT h H).get? b=some o):h.get? b=some o/\H b=none:=by
 #e':h.get? b=some o:=PySem.W.of_hideAll (trk h H) e;rF⟨e',?_⟩;cases q:H b with
 |none=>rfl
 |some x=>
  grind [trk,Heap.lt_size,hidT,W.hideAll_none]
nD allNews(g h:Heap)(L:Addr):List (Addr×Obj):=(List.range h.objs.size).filterMap λa=>if a=L\/(g.get? a).isSome=true then none else(h.get? a).map λo=>(a,o)
nD rest(g h:Heap)(L d:Addr):List (Addr×Obj):=(allNews g h L).filter λp=>decide (p.1≠d)
structure Mod(K:PySem.W.Frag)(mg:Str->Option Value)(base:Heap):Prop where
 kin:K.In base
 glob:base.Ns mainGlobals mg
 blt:∃mb,base.Ns builtinsNs mb/\∀x:Str,x≠"__name__"->mb x=bootBuiltins x
 nolimit:base.NoLimit
structure Cx where
 prog:Program
 w:World
 K:PySem.W.Frag
 mg:Str->Option Value
 base:Heap
 A:Around
 N:List Str
 s₀:Shared
 H₀:Hp
 env:Env
 outer:List Env
 stack:List Env
 ex:List Addr
 fn:Str->Bool
 calm:Bool
 pn:List (Addr×Obj)
 xe:Value->Shared->Prop
variable{X:Cx}
nD frs(l:List Env):List Addr:=l.filterMap (·.frame)
noncomputable abbrev Cx.fs(X:Cx):List Addr:=frs X.outer
nD Vis(sc:Scope)(x:Str):Prop:=sc.names.lookup x=some .local\/sc.names.lookup x=some .cell\/sc.names.lookup x=some .free
nD Loc(sc:Scope)(x:Str):Prop:=sc.names.lookup x=some .local\/sc.names.lookup x=some .cell
nD Look(env:Env)(h:Heap)(m:Str->Option Value)(x:Str)(u:Value):Prop:=
 (env.kindOf x=some .local/\m x=some u)\/((env.kindOf x=some .cell\/env.kindOf x=some .free)/\∃c,env.cells.lookup x=some c/\h.IsCell c (some u))
noncomputable abbrev markO(P:Addr)(q:Str):Obj:={cls:=.str q 0,data:=.fields #[.ref P]}
nD TabOk(K:PySem.W.Frag)(H:Hp):Prop:=∀(a:Addr)(q:Str)(P:Addr),(a,markO P q)∈K->∃ps:Array Value,H P=some (.tbl ps)/\ps[0]?=some (.bool true)/\ps[1]?=some (.str q 0)
nD noMark(K:PySem.W.Frag):Bool:=K.all λp=>match p.2.cls with
 |.str _ _=>false
 |_=>true
tm TabOk.vac(h:noMark K=true):TabOk K H:=λa q P m=>by
 #:=w0z.mp h _ m;@this
tm TabOk.un(t:TabOk K H)(u:Un fs ex H H' h h'):TabOk K H':=λa q P m=>by
 ~⟨ps,e,p0,p1⟩:=t a q P m;~⟨more,e'⟩:=u.tbls P ps e
 grind
tm TabOk.laid(t:TabOk K H)(hn:H D=none):TabOk K (upd H D o):=λa q P m=>by
 ~⟨ps,e,p⟩:=t a q P m;!⟨ps,by rw[q0g (q0p e hn)];!e,p⟩
structure Cx.Ok(X:Cx):Prop where
 mod:Mod X.K X.mg X.base
 kind:X.env.scope.kind=.function
 glob:X.env.globals=mainGlobals
 blt:X.env.builtins=builtinsNs
 above:X.s₀.heap.objs.size<=X.env.locals
 inj:∀x y c,X.env.cells.lookup x=some c->X.env.cells.lookup y=some c->x=y
 has:∀x,(X.env.kindOf x=some .cell\/X.env.kindOf x=some .free)->∃c,X.env.cells.lookup x=some c
 cab:∀x c,X.fn x=true->X.env.cells.lookup x=some c->X.s₀.heap.objs.size<=c
 hd:X.calm=true->X.A.handled=none
 frames:X.A.frames=some X.stack
 stk:X.stack=X.outer\/(X.stack=X.env::X.outer/\X.env.frame=some X.env.locals)
 exf:∀b∈X.ex,b≠X.env.locals/\∀x c,X.env.cells.lookup x=some c->c≠b
 bs:∀b o,X.base.get? b=some o->X.s₀.heap.get? b=some o/\X.H₀ b=none
 bsz:X.base.objs.size<=X.s₀.heap.objs.size
 noex:∀b o,X.base.get? b=some o->b∉X.ex
 exfs:∀b∈X.ex,b∉X.fs
 funs:X.s₀.heap.FunFrames X.base X.outer
 frf:∀b∈X.fs,X.H₀ b=none
 tab:TabOk X.K X.H₀
structure Inv(X:Cx)(pins:List (Addr×Obj))(σ:List (Option V))(H:Hp)(s:Shared):Prop where
 ok:X.Ok
 os:s.os=X.s₀.os
 bare:AllBare s.gens
 base:Un X.fs X.ex X.H₀ H X.s₀.heap s.heap
 loc:∃m,s.heap.Ns X.env.locals m/\∀(i:Nat)(x:Str)(v:V),X.N[i]?=some x->σ[i]?=some (some v)->Vis X.env.scope x->∃u,RelV v u/\Look X.env s.heap m x u
 cell:∀x c,X.env.cells.lookup x=some c->∃v,s.heap.IsCell c v
 free:H X.env.locals=none
 freeC:∀x c,X.env.cells.lookup x=some c->H c=none
 pin:∀p∈X.pn++pins,s.heap.get? p.1=some p.2/\H p.1=none/\p.1≠X.env.locals/\p.1∉X.fs/\∀v,p.2.data≠.cell v
 hok:HOk X.prog X.w H s.heap
 len:σ.length=X.N.length
section
variable{σ:List (Option V)}
tm Cx.Ok.nofr(ok:X.Ok)(e:X.base.get? b=some o):b∉X.fs:=λhb=>by
 #:=(ok.funs.mem hb).1
 grind
tm Inv.bs(I:Inv X pins σ H s):∀b o,X.base.get? b=some o->s.heap.get? b=some o/\H b=none:=λb o e=>
 ⟨I.base.keep b o (I.ok.bs b o e).1 (I.ok.bs b o e).2 (I.ok.nofr e) (I.ok.noex b o e),I.base.free b o (I.ok.bs b o e).1 (I.ok.bs b o e).2 (I.ok.noex b o e)⟩
tm Inv.bk(I:Inv X pins σ H s):∀b o,X.base.get? b=some o->s.heap.get? b=some o:=λb o e=>(I.bs b o e).1
tm Inv.mod(I:Inv X pins σ H s):Mod X.K X.mg X.base:=I.ok.mod
tm Inv.kIn(I:Inv X pins σ H s):X.K.In s.heap:=I.ok.mod.kin.keeps I.bk
tm Inv.fr(I:Inv X pins σ H s):∃m,Fr X.base X.env.locals s.heap m:=
 let ⟨m,hn,_⟩:=I.loc
 ⟨m,hn,I.bk,w0v I.ok.bsz I.ok.above⟩
tm Inv.lt(I:Inv X pins σ H s):X.env.locals<s.heap.objs.size:=let ⟨_,hn,_⟩:=I.loc;hn.lt
tm Inv.sz(I:Inv X pins σ H s):X.s₀.heap.objs.size<=s.heap.objs.size:=w0v I.ok.above (w5m I.lt)
tm Inv.nofs(I:Inv X pins σ H s)(h:s.heap.objs.size<=a):a∉X.fs:=λhb=>by
 ~⟨_,o,ho,_⟩:=I.ok.funs.mem hb
 !absurd (w0s (Heap.lt_size ho) (w0v I.sz h)) (w2n _)
tm Inv.cne(I:Inv X pins σ H s):∀x c,X.env.cells.lookup x=some c->c≠X.env.locals:=λx c e z=>by
 ~⟨v,o,ho,hd⟩:=I.cell x c e;~⟨m,⟨o',es,ep,ho',hd',_⟩,_⟩:=I.loc
 grind
tm Inv.funs(I:Inv X pins σ H s):s.heap.FunFrames X.base X.outer:=by
 #all:∀(l:List Env),(∀b∈frs l,b∈X.fs)->X.s₀.heap.FunFrames X.base l->s.heap.FunFrames X.base l:=by
  intro l
  induction l with
  |nil=>intro _ _;trivial
  |cons env r ih=>
   intro hs hl;~⟨hk,⟨L,o,hf,hn,ho,hd⟩,hr⟩:=hl;#hL:L∈X.fs:=hs L (by grind [frs]);~⟨sl,e⟩:=I.base.slot L o ho (I.ok.frf L hL) hL λz=>I.ok.exfs L z hL
   !⟨hk,⟨L,_,hf,hn,e,hd⟩,ih (λb hb=>hs b (by grind [frs])) hr⟩
 !all X.outer (λ_ hb=>hb) I.ok.funs
tm Inv.stack(I:Inv X pins σ H s):s.heap.FunFrames X.base X.stack:=by
 rcases I.ok.stk with e|⟨e,hf⟩
 ·rw[e];!I.funs
 ·rw[e];~⟨m,hn,_⟩:=I.loc;rF .cons (by rw[I.ok.kind];decide) hf hn ?_ I.funs
  !Heap.get?_none_of_le (w0v I.ok.bsz I.ok.above)
tm Inv.stkSub(I:Inv X pins σ H s):∀b∈frs X.stack,b∈X.env.locals::X.fs:=λb hb=>by
 rcases I.ok.stk with e|⟨e,hf⟩
 all_goals grind [frs]
tm Inv.stkFree(I:Inv X pins σ H s):∀b∈frs X.stack,H b=none:=λb hb=>by
 rcases w0d.mp (I.stkSub b hb)with e|hb
 ·rw[e];!I.free
 ·~⟨_,o,ho,_⟩:=I.ok.funs.mem hb
  !I.base.free b o ho (I.ok.frf b hb) λz=>I.ok.exfs b z hb
tm Inv.step{g':Array GenState}{d':Drawn}{ch:List Addr}(I:Inv X pins σ H s)
  (hch:∀b∈ch,(b∈X.ex\/X.s₀.heap.objs.size<=b)/\b≠X.env.locals/\(∀x c,X.env.cells.lookup x=some c->c≠b)/\∀p∈X.pn++pins,p.1≠b)
  (keep:∀b o,b≠X.env.locals->b∉X.fs->b∉ch->s.heap.get? b=some o->H b=none->h'.get? b=some o)
  (slot:∀b o,b≠X.env.locals->b∈X.fs->b∉ch->s.heap.get? b=some o->H b=none->∃sl,h'.get? b=some {o with slots:=sl})(free:∀b o,b∉ch->s.heap.get? b=some o->H b=none->H' b=none)
  (there:∀b o,b∉ch->s.heap.get? b=some o->∃o',h'.get? b=some o')
  (tups:∀b xs,H b=some (.tup xs)->H' b=some (.tup xs))(frzs:∀b o u,H b=some (.frz o u)->H' b=some (.frz o u))(tbls:∀b ps,H b=some (.tbl ps)->∃more,H' b=some (.tbl (ps++more)))
  (ns:∀m,s.heap.Ns X.env.locals m->h'.Ns X.env.locals m)(hok:HOk X.prog X.w H' h')(hg:AllBare g'):
  Inv X pins σ H' {s with heap:=h',gens:=g',drawn:=d',toks:=t'}:=by
 #neL:∀b o,X.s₀.heap.get? b=some o->b≠X.env.locals:=λb o e=>w0w (w0s (Heap.lt_size e) I.ok.above)
 #neC:∀b o,X.s₀.heap.get? b=some o->b∉X.ex->b∉ch:=λb o e hx hb=>by
  rcases(hch b hb).1 with z|z
  ·!hx z
  ·!absurd (w0s (Heap.lt_size e) z) (w2n _)
 #cellK:∀x c,X.env.cells.lookup x=some c->∀v,s.heap.IsCell c v->h'.IsCell c v:=λx c e v ⟨o,ho,hd⟩=>by
  #nch:c∉ch:=λz=>(hch c z).2.2.1 x c e rfl
  by_cases hc:c∈X.fs
  ·~⟨sl,q⟩:=slot c o (I.cne x c e) hc nch ho (I.freeC x c e);!⟨_,q,hd⟩
  ·!⟨o,keep c o (I.cne x c e) hc nch ho (I.freeC x c e),hd⟩
 rF⟨I.ok,I.os,hg,⟨λb o e n hb hx=>?_,λb o e n hb hx=>?_,λb o e n hx=>?_,λb o e hx=>?_,λb xs e=>tups b xs (I.base.tups b xs e),λb o xs e=>frzs b o xs (I.base.frzs b o xs e),λb ps e=>?_⟩,?_,λx c e=>?_,?_,λx c e=>?_,λp hp=>?_,hok,I.len⟩
 ·!keep b o (neL b o e) hb (neC b o e hx) (I.base.keep b o e n hb hx) (I.base.free b o e n hx)
 ·~⟨sl,e1⟩:=I.base.slot b o e n hb hx;~⟨sl',e2⟩:=slot b _ (neL b o e) hb (neC b o e hx) e1 (I.base.free b o e n hx);!⟨sl',e2⟩
 ·~⟨o',e1⟩:=I.base.there b o e hx;!free b o' (neC b o e hx) e1 (I.base.free b o e n hx)
 ·~⟨o',e1⟩:=I.base.there b o e hx
  grind
 ·~⟨m1,e1⟩:=I.base.tbls b ps e
  grind
 ·~⟨m,hn,hl⟩:=I.loc;rF⟨m,ns m hn,λi x v e1 e2 e3=>?_⟩
  ~⟨u,r,l⟩:=hl i x v e1 e2 e3;rF⟨u,r,?_⟩;rcases l with l|⟨k,c,e,z⟩
  ·!.inl l
  ·!.inr ⟨k,c,e,cellK x c e _ z⟩
 ·~⟨v,z⟩:=I.cell x c e
  grind
 ·~⟨m,⟨o,_,_,ho,_⟩,_⟩:=I.loc
  grind [free]
 ·~⟨v,o,ho,hd⟩:=I.cell x c e;!free c o (λz=>(hch c z).2.2.1 x c e rfl) ho (I.freeC x c e)
 ·~⟨e,n,ne,nf,d⟩:=I.pin p hp
  grind
tm Inv.un(I:Inv X pins σ H s)(u:Un X.fs [] H H' s.heap h')(hok:HOk X.prog X.w H' h'):Inv X pins σ H' {s with heap:=h',toks:=t'}:=by
 ~⟨m,⟨o,es,ep,ho,r⟩,_⟩:=id I.loc;~⟨sl,hL⟩:=u.any ho I.free (by simp)
 !I.step (g':=s.gens) (d':=s.drawn) (ch:=[]) (λ_ z=>nomatch z) (λb o _ hb _ e n=>u.keep b o e n hb (by simp)) (λb o _ hb _ e n=>u.slot b o e n hb (by simp)) (λb o _ e n=>u.free b o e n (by simp)) (λb o _ e=>u.there b o e (by simp)) u.tups u.frzs u.tbls (λm' hm=>by
  ~⟨o',es',ep',ho',r'⟩:=hm;rw[ho]at ho';@ho';!⟨_,es',ep',hL,r'⟩) hok I.bare
tm Inv.call{g':Array GenState}{d':Drawn}(I:Inv X pins σ H s)(u:Un (frs X.stack) ch H H' s.heap h')(hok:HOk X.prog X.w H' h')(hg:AllBare g')
  (hch:∀b∈ch,(b∈X.ex\/X.s₀.heap.objs.size<=b)/\b≠X.env.locals/\(∀x c,X.env.cells.lookup x=some c->c≠b)/\∀p∈X.pn++pins,p.1≠b):
  Inv X pins σ H' {s with heap:=h',gens:=g',drawn:=d',toks:=t'}:=by
 ~⟨m,⟨o,es,ep,ho,r⟩,_⟩:=id I.loc;~⟨sl,hL⟩:=u.any ho I.free λz=>(hch _ z).2.1 rfl
 !I.step (ch:=ch) hch (λb o hL hb hc e n=>u.keep b o e n (λz=>(w0d.mp (I.stkSub b z)).elim hL hb) hc) (λb o _ _ hc e n=>u.any e n hc) (λb o hc e n=>u.free b o e n hc) (λb o hc e=>u.there b o e hc) u.tups u.frzs u.tbls (λm' hm=>by
  ~⟨o',es',ep',ho',r'⟩:=hm;rw[ho]at ho';@ho';!⟨_,es',ep',hL,r'⟩) hok hg
tm Inv.turned{t':Nat}{it:Addr}(I:Inv X pins σ H s)(k:∀b o,b≠it->s.heap.get? b=some o->h'.get? b=some o)(hn:H it=none)(hL:it≠X.env.locals)
  (h1:it∈X.ex\/X.s₀.heap.objs.size<=it)(h2:∀x c,X.env.cells.lookup x=some c->c≠it)(h3:∀p∈X.pn++pins,p.1≠it):Inv X pins σ H {s with heap:=h',toks:=t'}:=by
 #nit:∀b u,H b=some u->b≠it:=λb u e z=>by rw[z,hn]at e;@e
 rF I.step (g':=s.gens) (d':=s.drawn) (ch:=[it]) (λb hb=>?_) (λb o _ _ hc e _=>k b o (λz=>hc (by simp[z])) e) (λb o _ _ hc e _=>⟨o.slots,k b o (λz=>hc (by simp[z])) e⟩) (λ_ _ _ _ n=>n)
  (λb o hc e=>⟨o,k b o (λz=>hc (by simp[z])) e⟩) (λ_ _ e=>e) (λ_ _ _ e=>e) (λb ps e=>⟨#[],by rw[e];simp⟩) (λm hm=>?_) (λb u e=>?_) I.bare
 ·grind
 ·~⟨o,es,ep,ho,r⟩:=hm;!⟨o,es,ep,k _ o (Ne.symm hL) ho,r⟩
 ·rF(I.hok b u e).stay (λc v hc q=>k c v ?_ q) (λ_ q=>q) λ_ _ _ q=>q
  grind
tm Inv.tok(I:Inv X pins σ H s)(t:Nat):Inv X pins σ H {s with toks:=t}:=I.un (h':=s.heap) (t':=t) Un.refl I.hok
tm Inv.kept{t':Nat}(I:Inv X pins σ H s)(k:∀b u,s.heap.get? b=some u->h'.get? b=some u):Inv X pins σ H {s with heap:=h',toks:=t'}:=I.un (Un.kept k) (I.hok.kept k)
tm Inv.laid{a:Addr}{o:HO}{t':Nat}(I:Inv X pins σ H s)(k:∀b u,s.heap.get? b=some u->h'.get? b=some u)(hp:s.heap.objs.size<=a)(new:ObjOk X.prog X.w (upd H a o) h' a o):
  Inv X pins σ (upd H a o) {s with heap:=h',toks:=t'}:=I.un (Un.laid k hp (I.hok.fresh hp)) (I.hok.laid k hp new)
tm Inv.write{x e:Addr}{o:HO}(I:Inv X pins σ H s)(mu:Mut (H x))(he:e=x\/H e=some (.own x))(k:∀b u,b≠e->s.heap.get? b=some u->h'.get? b=some u)(heo:∃u,h'.get? e=some u)
  (new:ObjOk X.prog X.w (upd H x o) h' x o):Inv X pins σ (upd H x o) {s with heap:=h',toks:=t'}:=I.un (Un.write mu he k heo) (I.hok.write mu he k heo new)
tm Inv.weak{σ':List (Option V)}(I:Inv X pins σ H s)(hl:σ'.length=σ.length)(w:∀(i:Nat) v,σ'[i]?=some (some v)->σ[i]?=some (some v)):Inv X pins σ' H s:=
 ⟨I.ok,I.os,I.bare,I.base,let ⟨m,hn,hl'⟩:=I.loc;⟨m,hn,λi x v e1 e2 e3=>hl' i x v e1 (w i v e2) e3⟩,I.cell,I.free,I.freeC,I.pin,I.hok,hl.trans I.len⟩
tm Inv.pins_of{pins':List (Addr×Obj)}(I:Inv X pins σ H s)(h:∀p∈pins',s.heap.get? p.1=some p.2/\H p.1=none/\p.1≠X.env.locals/\p.1∉X.fs/\∀v,p.2.data≠.cell v):Inv X pins' σ H s:=
 ⟨I.ok,I.os,I.bare,I.base,I.loc,I.cell,I.free,I.freeC,λp hp=>(w1c.mp hp).elim (λz=>I.pin p (w0r _ z)) (h p),I.hok,I.len⟩
tm x5j(hN:N.Nodup){j:Nat}(a:N[i]?=some x)(b:N[j]?=some x):i=j:=by
 ~⟨h1,e1⟩:=w0m.mp a;~⟨h2,e2⟩:=w0m.mp b;!(List.getElem_inj hN).mp (e1.trans e2.symm)
tm y0n{M:Model}{Q:Unit->Shared->Prop}(I:Inv X pins σ H s)(hN:X.N.Nodup)(hi:X.N[i]?=some x)(hx:Loc X.env.scope x)(r:RelV v u)
  (h:∀s',Inv X pins (σ.set i (some v)) H s'->(∃a,Heap.SameBut a s.heap s'.heap/\(a=X.env.locals\/X.env.cells.lookup x=some a))->Q () s')(hf:X.fn x=true\/X.env.scope.names.lookup x=some .local:=by walk_at "2"):wpAny M A (storeName X.env x u) Q E s:=by
 ~⟨m,hn,hl⟩:=id I.loc;#hcls:(X.env.scope.kind==.class||(X.env.scope.kind==.module&&X.env.locals != X.env.globals))=false:=by rw[I.ok.kind];rfl
 #hiσ:i<σ.length:=by grind [Inv.len]
 #cne:=I.cne
 #tracked:∀{a:Addr}{h':Heap},(∃o,s.heap.get? a=some o/\H a=none)->Heap.SameBut a s.heap h'->HOk X.prog X.w H h':=λ{a h'} ha hs b ob e=>by
  ~⟨_,_,hfree⟩:=ha;rF(I.hok b ob e).stay (λc w' hc q=>(hs.2 c ?_).trans q) (λ_ q=>q) λ_ _ _ q=>q
  grind
 rcases hx with hk|hk
 ·rF wpAny_storeName_local hk hn (λh' hn' hs=>?_) hcls
  ~⟨oL,_,_,hoL,_⟩:=id hn;rF h _ ⟨I.ok,I.os,I.bare,⟨λb o e n hb hx=>?_,λb o e n hb hx=>?_,I.base.free,λb o e hx=>?_,I.base.tups,I.base.frzs,I.base.tbls⟩,⟨_,hn',λj y v' e1 e2 e3=>?_⟩,λy c e=>?_,I.free,I.freeC,λp hp=>?_,tracked ⟨oL,hoL,I.free⟩ hs,by simpa using I.len⟩ ⟨_,hs,.inl rfl⟩
  ·!(hs.2 b (w0w (w0s (Heap.lt_size e) I.ok.above))).trans (I.base.keep b o e n hb hx)
  ·~⟨sl,e1⟩:=I.base.slot b o e n hb hx;!⟨sl,(hs.2 b (w0w (w0s (Heap.lt_size e) I.ok.above))).trans e1⟩
  ·~⟨o',e1⟩:=I.base.there b o e hx;!⟨o',(hs.2 b (w0w (w0s (Heap.lt_size e) I.ok.above))).trans e1⟩
  ·by_cases hj:j=i
   ·subst hj;rw[hi]at e1;@e1;rw[w0p hiσ]at e2;@e2;!⟨u,r,.inl ⟨hk,by simp⟩⟩
   ·rw[w0f (Ne.symm hj)]at e2;~⟨u',r',q⟩:=hl j y v' e1 e2 e3;rF⟨u',r',?_⟩;rcases q with⟨k,e⟩|⟨k,c,e,z⟩
    ·rF .inl ⟨k,?_⟩
     grind [x5j]
    ·!.inr ⟨k,c,e,z.sameBut hs (cne y c e)⟩
  ·~⟨w',z⟩:=I.cell y c e;!⟨w',z.sameBut hs (cne y c e)⟩
  ·~⟨e,n,ne,nf,d⟩:=I.pin p hp;!⟨(hs.2 p.1 ne).trans e,n,ne,nf,d⟩
 ·#hfn:X.fn x=true:=by
   grind
  ~⟨c,hc⟩:=I.ok.has x (.inl hk);~⟨w',z⟩:=I.cell x c hc;rF wpAny_storeName_cell I.ok.kind hk hc z (λh' hc' hs=>?_)
  ~⟨oc,hoc,hocd⟩:=id z;rF h {s with heap:=h'} ⟨I.ok,I.os,I.bare,⟨λb o e n hb hx=>?_,λb o e n hb hx=>?_,I.base.free,λb o e hx=>?_,I.base.tups,I.base.frzs,I.base.tbls⟩,⟨m,hn.sameBut hs (Ne.symm (cne x c hc)),λj y v' e1 e2 e3=>?_⟩,λy c' e=>?_,I.free,I.freeC,λp hp=>?_,tracked ⟨oc,hoc,I.freeC x c hc⟩ hs,by simpa using I.len⟩ ⟨c,hs,.inr hc⟩
  ·!(hs.2 b (w0w (w0s (Heap.lt_size e) (I.ok.cab x c hfn hc)))).trans (I.base.keep b o e n hb hx)
  ·~⟨sl,e1⟩:=I.base.slot b o e n hb hx;!⟨sl,(hs.2 b (w0w (w0s (Heap.lt_size e) (I.ok.cab x c hfn hc)))).trans e1⟩
  ·~⟨o',e1⟩:=I.base.there b o e hx;!⟨o',(hs.2 b (w0w (w0s (Heap.lt_size e) (I.ok.cab x c hfn hc)))).trans e1⟩
  ·by_cases hj:j=i
   ·subst hj;rw[hi]at e1;@e1;rw[w0p hiσ]at e2;@e2;!⟨u,r,.inr ⟨.inl hk,c,hc,hc'⟩⟩
   ·rw[w0f (Ne.symm hj)]at e2;~⟨u',r',q⟩:=hl j y v' e1 e2 e3;rF⟨u',r',?_⟩;rcases q with q|⟨k,c',e,z'⟩
    ·!.inl q
    ·rF .inr ⟨k,c',e,z'.sameBut hs ?_⟩;rintro rfl;!hj (x5j hN e1 (I.ok.inj _ _ _ e hc ▸ hi))
  ·by_cases hcc:c'=c
   ·grind
   ·~⟨w2,z2⟩:=I.cell y c' e;!⟨w2,z2.sameBut hs hcc⟩
  ·~⟨e,n,ne,nf,d⟩:=I.pin p hp;rF⟨(hs.2 p.1 ?_).trans e,n,ne,nf,d⟩
   grind
tm x1a{M:Model}{Q:Unit->Shared->Prop}(I:Inv X pins σ H s)(hN:X.N.Nodup)(hi:X.N[i]?=some x)(hx:Loc X.env.scope x)(r:RelV v u)
  (h:∀s',Inv X pins (σ.set i (some v)) H s'->Q () s')(hf:X.fn x=true\/X.env.scope.names.lookup x=some .local:=by walk_at "2"):wpAny M A (storeName X.env x u) Q E s:=
 y0n I hN hi hx r (λs' I' _=>h s' I') hf
tm Inv.call'{s':Shared}{ch:List Addr}(I:Inv X pins σ H s)(ho:s'.os=s.os)(u:Un (frs X.stack) ch H H' s.heap s'.heap)(hok:HOk X.prog X.w H' s'.heap)(hg:AllBare s'.gens)
  (hch:∀b∈ch,(b∈X.ex\/X.s₀.heap.objs.size<=b)/\b≠X.env.locals/\(∀x c,X.env.cells.lookup x=some c->c≠b)/\∀p∈X.pn++pins,p.1≠b):Inv X pins σ H' s':=by
 ~⟨h',g',d',t',o'⟩:=s';#e:o'=s.os:=ho;subst e;!I.call (g':=g') (t':=t') (d':=d') u hok hg hch
end
abbrev XK:=Value->Option Addr->Hp->Prop
noncomputable abbrev St:=List (Option V)
variable{σ:St}
abbrev VK:=V->Hp->Prop
abbrev TE:=St->Hp->VK->Prop
variable{ta te:TE}
abbrev TT:=St->Hp->(Bool->Hp->Prop)->Prop
abbrev TA:=St->Hp->(List V->Hp->Prop)->Prop
variable{t:TA}
structure Ends where
 nx:St->Hp->Prop
 rt:VK
 bk:St->Hp->Prop:=λ_ _=>False
 ct:St->Hp->Prop:=λ_ _=>False
abbrev TS:=Ends->St->Hp->Prop
variable{tb:TS}
nD EP(X:Cx)(pins:List (Addr×Obj))(σ:St)(Q:VK)(u:Value)(s':Shared):Prop:=∃v H',Inv X pins σ H' s'/\RelV v u/\Q v H'
nD TP(X:Cx)(pins:List (Addr×Obj))(σ:St)(Q:Bool->Hp->Prop)(b:Bool)(s':Shared):Prop:=∃H',Inv X pins σ H' s'/\Q b H'
nD AP(X:Cx)(pins:List (Addr×Obj))(σ:St)(Q:List V->Hp->Prop)(us:List Value)(s':Shared):Prop:=∃vs H',Inv X pins σ H' s'/\Vals vs us/\Q vs H'
nD SP(X:Cx)(pins:List (Addr×Obj))(D:Ends)(f:Flow)(s':Shared):Prop:=
 match f with
 |.next=>∃σ' H',Inv X pins σ' H' s'/\D.nx σ' H'
 |.brk=>∃σ' H',Inv X pins σ' H' s'/\D.bk σ' H'
 |.cont=>∃σ' H',Inv X pins σ' H' s'/\D.ct σ' H'
 |.ret u=>∃v σ' H',Inv X pins σ' H' s'/\RelV v u/\D.rt v H'
nD PE(X:Cx)(e:Expr)(t:TE):Prop:=
 ∀(pins:List (Addr×Obj))(s:Shared)(σ:St)(H:Hp)(Q:VK),Inv X pins σ H s->t σ H Q->wpAny (model X.prog X.w) X.A (eval e X.env) (EP X pins σ Q) X.xe s
nD PT(X:Cx)(e:Expr)(t:TT):Prop:=
 ∀(pins:List (Addr×Obj))(s:Shared)(σ:St)(H:Hp)(Q:Bool->Hp->Prop),Inv X pins σ H s->t σ H Q->wpAny (model X.prog X.w) X.A (isTrue e X.env (eval e X.env)) (TP X pins σ Q) X.xe s
nD PW(X:Cx)(e:Expr)(t:TT):Prop:=
 ∀(whole:Sem Value)(pins:List (Addr×Obj))(s:Shared)(σ:St)(H:Hp)(Q:Bool->Hp->Prop),Inv X pins σ H s->t σ H Q->wpAny (model X.prog X.w) X.A (isTrue e X.env whole) (TP X pins σ Q) X.xe s
tm PW.pt{t:TT}(h:PW X e t):PT X e t:=h _
nD PA(X:Cx)(es:List Expr)(t:TA):Prop:=
 ∀(pos:Pos)(pins:List (Addr×Obj))(s:Shared)(σ:St)(H:Hp)(Q:List V->Hp->Prop),Inv X pins σ H s->t σ H Q->wpAny (model X.prog X.w) X.A (spliced (backTo pos (starEach es X.env))) (AP X pins σ Q) X.xe s
nD PS(X:Cx)(st:Stmt)(t:TS):Prop:=
 ∀(pins:List (Addr×Obj))(s:Shared)(σ:St)(H:Hp)(D:Ends),Inv X pins σ H s->t D σ H->wpAny (model X.prog X.w) X.A (exec st X.env) (SP X pins D) X.xe s
nD PSs(X:Cx)(st:List Stmt)(t:TS):Prop:=
 ∀(pins:List (Addr×Obj))(s:Shared)(σ:St)(H:Hp)(D:Ends),Inv X pins σ H s->t D σ H->wpAny (model X.prog X.w) X.A (execs st X.env) (SP X pins D) X.xe s
tm thn{α:Type}{t:Sem α}{Q Q':α->Shared->Prop}{M:Model}(h:wpAny M A t Q E s)(hQ:∀a s,Q a s->Q' a s):wpAny M A t Q' E s:=wpAny_mono h hQ λ_ _ x=>x
section
nD tVar(i:Nat):TE:=λσ H Q=>∃v,σ[i]?=some (some v)/\Q v H
nD tC(v:V):TE:=λ_ H Q=>Q v H
tm z2n(hN:X.N[i]?=some x)(hv:Vis X.env.scope x)(hd:(x==("__debug__":Str))=false:=by decide)(hcd:(x==("__classdict__":Str))=false:=by decide):PE X (.Name x pos) (tVar i):=by
 intro pins s σ H Q I h;~⟨v,e,h⟩:=h;~⟨m,hn,hl⟩:=I.loc;~⟨u,r,l⟩:=hl i x v hN e hv;#fin:EP X pins σ Q u s:=⟨v,H,I,r,h⟩;rcases l with⟨hk,hm⟩|⟨hk,c,hc,hcell⟩
 ·!wpAny_Name (wpAny_loadName_local I.ok.kind hk hn hm fin) hd
 ·rcases hk with hk|hk
  ·!wpAny_Name (wpAny_loadName_cell I.ok.kind hk hc hcell fin) hd
  ·!wpAny_Name (wpAny_loadName_free I.ok.kind hk hc hcell fin hcd) hd
tm z2o{i j pos}:PE X (.Constant (.int i) j pos) (tC (.int i)):=λ_ _ _ H _ I h=>wpAny_Constant_int ⟨.int i,H,I.tok _,⟨_,rfl⟩,h⟩
tm z65{b j pos}:PE X (.Constant (.bool b) j pos) (tC (.bl b)):=λ_ _ _ H _ I h=>Constant_bool ⟨.bl b,H,I,rfl,h⟩
tm z2p{j pos}:PE X (.Constant .none j pos) (tC .non):=λ_ _ _ H _ I h=>Constant_none ⟨.non,H,I,rfl,h⟩
tm y0o{x j pos}:PE X (.Constant (.str x) j pos) (tC (.str x)):=λ_ _ _ H _ I h=>Calls.Constant_str ⟨.str x,H,I.tok _,⟨_,rfl⟩,h⟩
nD Gl(X:Cx)(x:Str):Prop:=X.env.kindOf x=some .globalImplicit
tm q93{Q:Value->Shared->Prop}(I:Inv X pins σ H s)(hg:Gl X x)(hm:X.mg x=some u)(h:Q u s)
  (hd:(x==("__debug__":Str))=false:=by decide):wpAny (model X.prog X.w) X.A (eval (.Name x pos) X.env) Q E s:=
 Calls.Name_function_global I.ok.kind hg (Calls.loadGlobal_global (by rw[I.ok.glob];!I.mod.glob.keeps I.bk) hm h) hd
tm q30{Q:Value->Shared->Prop}(I:Inv X pins σ H s)(hg:Gl X x)(hm:X.mg x=none)(hv:bootBuiltins x=some u)(h:Q u s)
  (hn:x≠"__name__":=by decide)(hd:(x==("__debug__":Str))=false:=by decide):wpAny (model X.prog X.w) X.A (eval (.Name x pos) X.env) Q E s:=by
 ~⟨mb,h1,h2⟩:=I.mod.blt;!Calls.Name_function_global I.ok.kind hg (Calls.loadGlobal_builtin (by rw[I.ok.glob];!I.mod.glob.keeps I.bk) hm (by rw[I.ok.blt];!h1.keeps I.bk) ((h2 x hn).trans hv) h) hd
tm q7s{v:V}(hg:Gl X x)(hm:X.mg x=some u)(r:RelV v u)(hd:(x==("__debug__":Str))=false:=by decide):PE X (.Name x pos) (tC v):=
 λ_ _ _ H _ I h=>q93 I hg hm ⟨v,H,I,r,h⟩ hd
tm y7t{v:V}(hg:Gl X x)(hm:X.mg x=none)(hv:bootBuiltins x=some u)(r:RelV v u)(hn:x≠"__name__":=by decide)(hd:(x==("__debug__":Str))=false:=by decide):PE X (.Name x pos) (tC v):=
 λ_ _ _ H _ I h=>q30 I hg hm hv ⟨v,H,I,r,h⟩ hn hd
variable{a b:Expr}{tb:TE}
nD PC(X:Cx)(op:CmpOp)(a b:Expr)(t:TE):Prop:=
 ∀(pins:List (Addr×Obj))(s:Shared)(σ:St)(H:Hp)(Q:VK),Inv X pins σ H s->t σ H Q ->
  wpAny (model X.prog X.w) X.A (eval a X.env) (λv s₁=>wpAny (model X.prog X.w) X.A (eval b X.env) (λu s₂=>wpAny (model X.prog X.w) X.A (compareOp op v u) (EP X pins σ Q) X.xe s₂) X.xe s₁) X.xe s
tm nobehind(b:Expr)(h:op≠.In)(h2:op≠.NotIn):behindInMarks op b=false:=by
 #e1:(op==CmpOp.In)=false:=by grind
 #e2:(op==CmpOp.NotIn)=false:=by grind
 @b<;>simp[behindInMarks,e1,e2]
nD tB(t:TE):TT:=λσ H Q=>t σ H λx H1=>∃c,x=.bl c/\Q c H1
tm z2q{t:TE}(h:PC X op a b t)(h1:behindInMarks op b=false:=by first|!nobehind _ (by decide) (by decide)|rfl):PE X (.Compare a [op] [b] pos) t:=λpins s σ H Q I hw=>wpAny_Compare1 (h pins s σ H Q I hw) h1
tm z2r{t:TE}(h:PC X op a b t)(h1:behindInMarks op b=false:=by first|!nobehind _ (by decide) (by decide)|rfl):PT X (.Compare a [op] [b] pos) (tB t):=by
 intro pins s σ H Q I hw;rF wpAny_isTrue_Compare1 (thn (h pins s σ H _ I hw) λv s1 h1=>thn h1 λu s2 h2=>thn h2 λc s3 ⟨x,H1,I1,r1,q1⟩=>?_) h1
 ~⟨d,rfl,q⟩:=q1;@r1;!wpAny_truthy_bool ⟨H1,I1,q⟩
variable{tA tB':TT}{rest:List Expr}
nD tAnd(t u:TT):TT:=λσ H Q=>t σ H λc H1=>if c=true then u σ H1 Q else Q false H1
nD tOr(t u:TT):TT:=λσ H Q=>t σ H λc H1=>if c=true then Q true H1 else u σ H1 Q
nD tNot(t:TT):TT:=λσ H Q=>t σ H λc H1=>Q (!c) H1
tm y7u(ha:PT X a tA):PW X (.BoolOp .And [a] pos) tA:=by
 intro wh pins s σ H Q I h;rF isTrue_and (thn (ha pins s σ H Q I h) λc s1 e=>?_)
 grind [isTrue_and_nil]
tm z2s(ha:PT X a tA):PW X (.BoolOp .Or [a] pos) tA:=by
 intro wh pins s σ H Q I h;rF isTrue_or (thn (ha pins s σ H Q I h) λc s1 e=>?_)
 grind [isTrue_or_nil]
tm z2t(ha:PT X a tA)(hb:PW X (.BoolOp .And (b::rest) pos) tB'):PW X (.BoolOp .And (a::b::rest) pos) (tAnd tA tB'):=by
 intro wh pins s σ H Q I h;rF isTrue_and (thn (ha pins s σ H _ I h) λc s1 ⟨H1,I1,q1⟩=>?_)
 cases c with
 |true=>!hb wh pins s1 σ H1 Q I1 q1
 |false=>!⟨H1,I1,q1⟩
tm z66(ha:PT X a tA)(hb:PW X (.BoolOp .Or (b::rest) pos) tB'):PW X (.BoolOp .Or (a::b::rest) pos) (tOr tA tB'):=by
 intro wh pins s σ H Q I h;rF isTrue_or (thn (ha pins s σ H _ I h) λc s1 ⟨H1,I1,q1⟩=>?_)
 cases c with
 |true=>!⟨H1,I1,q1⟩
 |false=>!hb wh pins s1 σ H1 Q I1 q1
tm z2u(ha:PT X a tA):PT X (.UnaryOp .Not a pos) (tNot tA):=by
 intro pins s σ H Q I h;!isTrue_not (ha pins s σ H (λc H1=>Q (!c) H1) I h)
nD tAndV(ta tb:TE):TE:=λσ H Q=>ta σ H λx H1=>∃c,x=.bl c/\if c=true then tb σ H1 Q else Q (.bl false) H1
nD tOrV(ta tb:TE):TE:=λσ H Q=>ta σ H λx H1=>∃c,x=.bl c/\if c=true then Q (.bl true) H1 else tb σ H1 Q
tm z2v{op}{t:TE}(h:PE X a t):PE X (.BoolOp op [a] pos) t:=λpins s σ H Q I hw=>BoolOp_one (h pins s σ H Q I hw)
tm z2w(ha:PE X a ta)(hb:PE X (.BoolOp .And (b::rest) pos) tb):PE X (.BoolOp .And (a::b::rest) pos) (tAndV ta tb):=by
 intro pins s σ H Q I h;rF BoolOp_and (thn (ha pins s σ H _ I h) λv s1 ⟨x,H1,I1,r1,q1⟩=>?_)
 ~⟨c,rfl,q1⟩:=q1;@r1;rF wpAny_truthy_bool ?_;cases c with
 |true=>!hb pins s1 σ H1 Q I1 q1
 |false=>!⟨.bl false,H1,I1,rfl,q1⟩
tm z67(ha:PE X a ta)(hb:PE X (.BoolOp .Or (b::rest) pos) tb):PE X (.BoolOp .Or (a::b::rest) pos) (tOrV ta tb):=by
 intro pins s σ H Q I h;rF BoolOp_or (thn (ha pins s σ H _ I h) λv s1 ⟨x,H1,I1,r1,q1⟩=>?_)
 ~⟨c,rfl,q1⟩:=q1;@r1;rF wpAny_truthy_bool ?_;cases c with
 |false=>!hb pins s1 σ H1 Q I1 q1
 |true=>!⟨.bl true,H1,I1,rfl,q1⟩
nD tIf(t:TT)(ta tb:TE):TE:=λσ H Q=>t σ H λc H1=>if c=true then ta σ H1 Q else tb σ H1 Q
tm y35(hc:PT X c tA)(ha:PE X a ta)(hb:PE X b tb):PE X (.IfExp c a b pos) (tIf tA ta tb):=by
 intro pins s σ H Q I h;rF wpAny_IfExp (thn (hc pins s σ H _ I h) λd s1 ⟨H1,I1,q1⟩=>?_)
 cases d with
 |true=>!ha pins s1 σ H1 Q I1 q1
 |false=>!hb pins s1 σ H1 Q I1 q1
end
nD SqL(K:PySem.W.Frag)(H:Hp)(a:Addr)(xs:List V):Prop:=
 Rd H a (.lst xs) \/
  ∃(o:Obj)(its:Array Value)(n:Nat),K.lookup a=some o/\o.cls=.type "list" /\ o.dict=none/\o.data=.seq its n/\its.size<=sizeLine/\Vals xs its.toList
nD SqT(K:PySem.W.Frag)(H:Hp)(a:Addr)(xs:List V):Prop:=
 Rd H a (.tup xs) \/
  ∃(o:Obj)(its:Array Value)(n:Nat),K.lookup a=some o/\o.cls=.type "tuple" /\ o.dict=none/\o.data=.seq its n/\its.size<=sizeLine/\Vals xs its.toList
nD absV:Value->Option V
 |.none=>some .non
 |.bool b=>some (.bl b)
 |.int i _=>some (.int i)
 |.str x _=>some (.str x)
 |.bytes b _=>some (.byt b)
 |.float b _=>some (.flt b)
 |.ref a=>some (.ref a)
 |.type n=>some (.ty n)
 |_=>none
tm RelV.abs{x:V}(r:RelV x u):absV u=some x:=by
 cases x with
 |non=>@r;rfl
 |bl _=>@r;rfl
 |int _=>~⟨t,rfl⟩:=r;rfl
 |str _=>~⟨t,rfl⟩:=r;rfl
 |byt _=>~⟨t,rfl⟩:=r;rfl
 |flt _=>~⟨t,rfl⟩:=r;rfl
 |ref _=>@r;rfl
 |ty _=>@r;rfl
tm RelV.inj{x y:V}(r:RelV x u)(q:RelV y u):x=y:=Option.some.inj (r.abs.symm.trans q.abs)
tm Vals.inj:∀{xs ys:List V}{us:List Value},Vals xs us->Vals ys us->xs=ys
 |_,_,_,.nil,.nil=>rfl
 |_,_,_,.cons r t,.cons r' t'=>by rw[r.inj r',Vals.inj t t']
section
variable{ys:List V}
tm SqL.of(h:H a=some (.lst xs)):SqL K H a xs:=.inl (.inl h)
tm SqT.of(h:H a=some (.tup xs)):SqT K H a xs:=.inl (.inl h)
tm Inv.list(I:Inv X pins σ H s)(h:SqL X.K H a xs):∃its:List Value,Vals xs its/\PlainL s.heap a its.toArray/\xs.length<=sizeLine:=by
 rcases h with h|⟨o,its,n,hk,hc,hd,hs,hz,r⟩
 ·~⟨z,its,n,r,e⟩:=h.ok I.hok;!⟨its,r,⟨_,n,e,rfl,rfl,rfl⟩,z⟩
 ·rF⟨its.toList,r,⟨o,n,I.kIn a o hk,hc,hd,by simpa using hs⟩,?_⟩
  grind [Vals.length,Array.length_toList]
tm Inv.tuple(I:Inv X pins σ H s)(h:SqT X.K H a xs):∃its:List Value,Vals xs its/\IsTup s.heap a its.toArray/\xs.length<=sizeLine:=by
 rcases h with h|⟨o,its,n,hk,hc,_,hs,hz,r⟩
 ·~⟨z,its,r,p,_⟩:=h.ok I.hok;!⟨its,r,p,z⟩
 ·rF⟨its.toList,r,⟨o,I.kIn a o hk,hc,n,by simpa using hs⟩,?_⟩
  grind [Vals.length,Array.length_toList]
tm Inv.list_inj(I:Inv X pins σ H s)(h:SqL X.K H a xs)(h':SqL X.K H a ys):xs=ys:=by
 ~⟨its,r,⟨o,n,e,_,_,d⟩,_⟩:=I.list h;~⟨its',r',⟨o',n',e',_,_,d'⟩,_⟩:=I.list h';rw[e]at e';@e';rw[d]at d';injection d' with d1 _
 #:its=its':=by grind
 subst this;!r.inj r'
tm Inv.tuple_inj(I:Inv X pins σ H s)(h:SqT X.K H a xs)(h':SqT X.K H a ys):xs=ys:=by
 ~⟨its,r,⟨o,e,_,n,d⟩,_⟩:=I.tuple h;~⟨its',r',⟨o',e',_,n',d'⟩,_⟩:=I.tuple h';rw[e]at e';@e';rw[d]at d';injection d' with d1 _
 #:its=its':=by grind
 subst this;!r.inj r'
end
section
variable{st:Stmt}{rest:List Stmt}{t u:TS}
nD tNext:TS:=λD σ H=>D.nx σ H
nD tSeq(t u:TS):TS:=λD σ H=>t {D with nx:=u D} σ H
tm y7v:PSs X [] tNext:=λ_ _ σ H _ I h=>wpAny_execs_nil ⟨σ,H,I,h⟩
tm y36(h1:PS X st t)(h2:PSs X rest u):PSs X (st::rest) (tSeq t u):=by
 intro pins s σ H D I h;rF wpAny_execs_cons (thn (h1 pins s σ H {D with nx:=u D} I h) λf s1 q=>?_)
 cases f with
 |next=>
  ~⟨σ',H',I',q⟩:=q;!h2 pins s1 σ' H' D I' q
 |ret v=>!q
 |brk=>!q
 |cont=>!q
tm y7w(h1:PS X st t):PSs X [st] t:=by
 intro pins s σ H D I h;rF wpAny_execs_cons (thn (h1 pins s σ H D I h) λf s1 q=>?_)
 grind [wpAny_execs_nil]
tm Inv.quiet(I:Inv X pins σ H s):interactive X.env=false:=by simp[interactive,I.ok.kind]
nD tDrop(te:TE):TS:=λD σ H=>te σ H λ_ H1=>D.nx σ H1
tm q7t(he:PE X e te)(hs:swapsWith e none pos.line X.env=pure false:=by rfl):PS X (.Expr e pos) (tDrop te):=by
 intro pins s σ H D I h;!wpAny_Expr_any (thn (he pins s σ H _ I h) λv s1 ⟨x,H1,I1,r1,q1⟩=>⟨σ,H1,I1,q1⟩) I.quiet hs
nD tRet(te:TE):TS:=λD σ H=>te σ H D.rt
tm q8y(he:PE X e te):PS X (.Return (some e) pos) (tRet te):=by
 intro pins s σ H D I h;!wpAny_Return_some (thn (he pins s σ H _ I h) λv s1 ⟨x,H1,I1,r1,q1⟩=>⟨x,σ,H1,I1,r1,q1⟩)
nD tIfS(c:TT)(t u:TS):TS:=λD σ H=>c σ H λb H1=>if b=true then t D σ H1 else u D σ H1
tm z68{a b:List Stmt}{tc:TT}(hc:PT X c tc)(ha:PSs X a t)(hb:PSs X b u):PS X (.If c a b pos) (tIfS tc t u):=by
 intro pins s σ H D I h;rF wpAny_If (thn (hc pins s σ H _ I h) λd s1 ⟨H1,I1,q1⟩=>?_)
 cases d with
 |true=>!ha pins s1 σ H1 D I1 q1
 |false=>!hb pins s1 σ H1 D I1 q1
end
abbrev TG:=V->St->Hp->(St->Hp->Prop)->Prop
abbrev TGs:=List V->St->Hp->(St->Hp->Prop)->Prop
nD PG(X:Cx)(target:Expr)(t:TG):Prop:=
 ∀(pins:List (Addr×Obj))(s:Shared)(σ:St)(H:Hp)(v:V)(u:Value)(Q:St->Hp->Prop),Inv X pins σ H s->RelV v u->t v σ H Q ->
  wpAny (model X.prog X.w) X.A (assign target X.env u) (λ_ s'=>∃σ' H',Inv X pins σ' H' s'/\Q σ' H') X.xe s
nD PGs(X:Cx)(ts:List Expr)(t:TGs):Prop:=
 ∀(pins:List (Addr×Obj))(s:Shared)(σ:St)(H:Hp)(vs:List V)(us:List Value)(Q:St->Hp->Prop),Inv X pins σ H s->Vals vs us->t vs σ H Q ->
  wpAny (model X.prog X.w) X.A (assignInOrder ((assignEach ts X.env).map (·.2)) us) (λ_ s'=>∃σ' H',Inv X pins σ' H' s'/\Q σ' H') X.xe s
abbrev TSet:=V->V->V->Hp->(Hp->Prop)->Prop
nD PSet(X:Cx)(t:TSet):Prop:=
 ∀(pins:List (Addr×Obj))(s:Shared)(σ:St)(H:Hp)(o i v:V)(ov iv u:Value)(Q:Hp->Prop),Inv X pins σ H s->RelV o ov->RelV i iv->RelV v u->t o i v H Q ->
  wpAny (model X.prog X.w) X.A (setItem ov iv u) (λ_ s'=>∃H',Inv X pins σ H' s'/\Q H') X.xe s
nD gName(i:Nat):TG:=λv σ H Q=>Q (σ.set i (some v)) H
tm y7x(hN:X.N.Nodup)(hi:X.N[i]?=some x)(hx:Loc X.env.scope x)(hf:X.fn x=true\/X.env.scope.names.lookup x=some .local:=by walk_at "2"):PG X (.Name x pos) (gName i):=by
 intro pins s σ H v u Q I r h;!wpAny_assign_Name (x1a I hN hi hx r (λs' I'=>⟨_,H,I',h⟩) hf)
nD gNil:TGs:=λvs σ H Q=>vs=[]/\Q σ H
nD gCons(t:TG)(u:TGs):TGs:=λvs σ H Q=>∃v r,vs=v::r/\t v σ H λσ' H'=>u r σ' H' Q
tm y7y:PGs X [] gNil:=by
 intro pins s σ H vs us Q I r h;~⟨e,h⟩:=h;subst e;@r;!assignInOrder_nil ⟨σ,H,I,h⟩
tm x5k{t:TG}{u:TGs}(h1:PG X e t)(h2:PGs X es u)
  (hs:(assignEach (e::es) X.env).map (·.2)=assign e X.env::(assignEach es X.env).map (·.2):=by rfl):PGs X (e::es) (gCons t u):=by
 intro pins s σ H vs us Q I r h;~⟨v,vr,e1,h⟩:=h;subst e1;cases r with
 |cons r rr=>
  rw[hs];rF assignInOrder_cons (thn (h1 pins s σ H _ _ _ I r h) λ_ s1 ⟨σ1,H1,I1,q1⟩=>?_)
  !h2 pins s1 σ1 H1 _ _ Q I1 rr q1
nD gTup(K:PySem.W.Frag)(n:Nat)(t:TGs):TG:=λv σ H Q=>∃a xs,v=.ref a/\SqT K H a xs/\xs.length=n/\t xs σ H Q
tm z2x{k:Nat}{t:TGs}{n:Nat}(hc:X.calm=true)(h:PGs X es t)
  (hn:(assignEach es X.env).length=n:=by rfl)(hst:(assignEach es X.env).findIdx? (·.1)=none:=by rfl):PG X (.Tuple es k pos) (gTup X.K n t):=by
 intro pins s σ H v u Q I r hw;~⟨a,xs,e1,hq,hl,hw⟩:=hw;subst e1;@r;~⟨its,rv,ht,hz⟩:=I.tuple hq;rF assign_Tuple_tuple (I.ok.hd hc) ht (by grind [Vals.length]) hst λh' hx=>?_
 #I1:Inv X pins σ H {s with heap:=h'}:=I.kept (t':=s.toks) λb o e=>hx b o (w0w (Heap.lt_size e)) e
 !h pins _ σ H xs _ Q I1 (by simpa using rv) hw
nD gSub(to ti:TE)(t:TSet):TG:=λv σ H Q=>to σ H λo H1=>ti σ H1 λi H2=>t o i v H2 λH3=>Q σ H3
tm z2y{o i:Expr}{to ti:TE}{t:TSet}(ho:PE X o to)(hi:PE X i ti)(hs:PSet X t)
  (ha:∀v,assign (.Subscript o i pos) X.env v=(do
   let ov <- holding [v] (eval o X.env)
   let iv <- holding [v,ov] (eval i X.env)
   standAt pos
   holding [v,ov,iv] (setItem ov iv v)
   release [v,ov,iv] []):=by intro _;rfl):PG X (.Subscript o i pos) (gSub to ti t):=by
 intro pins s σ H v u Q I r h;rw[ha];rF wpAny_bind (wpAny_holding (thn (ho pins s σ H _ I h) λov s1 ⟨x,H1,I1,r1,q1⟩=>?_))
 rF wpAny_bind (wpAny_holding (thn (hi pins s1 σ H1 _ I1 q1) λiv s2 ⟨y,H2,I2,r2,q2⟩=>?_))
 rF wpAny_bind (wpAny_standAt (wpAny_bind (wpAny_holding (thn (hs pins s2 σ H2 x y v ov iv u _ I2 r1 r2 r q2) λ_ s3 ⟨H3,I3,q3⟩=>?_))))
 grind [wpAny_release]
nD tAsg(te:TE)(g:TG):TS:=λD σ H=>te σ H λx H1=>g x σ H1 D.nx
tm z2z{g:TG}(he:PE X e te)(hg:PG X tg g)(hs:swapsWithSole [tg] e pos.line X.env=pure false:=by rfl)(hw:swappedStores [tg] e X.env=pure none:=by rfl)
  (h1:(assignEach [tg] X.env).map (·.2)=[assign tg X.env]:=by rfl):PS X (.Assign [tg] e pos) (tAsg te g):=by
 intro pins s σ H D I h;rF wpAny_Assign_stores (thn (he pins s σ H _ I h) λv s1 ⟨x,H1,I1,r1,q1⟩=>?_) hs hw
 rw[h1];!thn (hg pins s1 σ H1 x v _ I1 r1 q1) λ_ s2 q=>q
tm z20{pos':Pos}(hN:X.N.Nodup)(hi:X.N[i]?=some x)(hx:Loc X.env.scope x)(he:PE X e te)(hs:swapsWith e (some (.Name x pos')) pos.line X.env=pure false:=by rfl)(hf:X.fn x=true\/X.env.scope.names.lookup x=some .local:=by walk_at "2"):
  PS X (.Assign [.Name x pos'] e pos) (tAsg te (gName i)):=by
 intro pins s σ H D I h;rF wpAny_Assign_Name (thn (he pins s σ H _ I h) λv s1 ⟨y,H1,I1,r1,q1⟩=>?_) hs
 !x1a I1 hN hi hx r1 (λs2 I2=>⟨_,H1,I2,q1⟩) hf
nD tWhile(c:TT)(tb:TS):TS:=λD σ H=>∃W:Nat->St->Hp->Prop,(∃m,W m σ H)/\∀m σ H,W m σ H ->
 c σ H λb H1=>if b=true then ∃N:St->Hp->Prop,(∀σ' H',N σ' H'->∃m',m'<m/\W m' σ' H')/\tb {D with nx:=N,ct:=N,bk:=D.nx} σ H1 else D.nx σ H1
tm y37{body:List Stmt}{tc:TT}(hp:PassesOwn (model X.prog X.w) X.A X.env X.xe)(hc:PT X c tc)(hb:PSs X body tb):PS X (.While c body [] pos) (tWhile tc tb):=by
 intro pins s σ H D I h;~⟨W,⟨m0,w0⟩,turn⟩:=h;rF wpAny_While (codeAny_whileLoop (λn s'=>∃σ' H',Inv X pins σ' H' s'/\W n σ' H') ?_ m0 ⟨σ,H,I,w0⟩)
 rintro n s1 ⟨σ1,H1,I1,w1⟩;rF wpAny_passesOwn hp (thn (hc pins s1 σ1 H1 _ I1 (turn n σ1 H1 w1)) λb s2 ⟨H2,I2,q2⟩=>?_)
 cases b with
 |true=>
  ~⟨N,hN,q2⟩:=q2;rw[if_pos rfl];rF wpAny_passesOwn hp (thn (hb pins s2 σ1 H2 _ I2 q2) λf s3 q3=>?_)
  cases f with
  |next=>
   ~⟨σ3,H3,I3,n3⟩:=q3
   grind
  |cont=>
   ~⟨σ3,H3,I3,n3⟩:=q3
   grind
  |brk=>!q3
  |ret v=>!q3
 |false=>
  rw[if_neg w1j];!wpAny_execs_nil ⟨σ1,H2,I2,q2⟩
structure It where
 go:Nat->Hp->Prop
 yld:Nat->Hp->V->Hp->Prop
 stop:Nat->Hp->Prop
nD FpOk(X:Cx)(pins:List (Addr×Obj))(H:Hp)(b:Addr):Prop:=
 H b=none/\b≠X.env.locals/\b∉X.fs/\(b∈X.ex\/X.s₀.heap.objs.size<=b)/\(∀x c,X.env.cells.lookup x=some c->c≠b)/\∀p∈X.pn++pins,p.1≠b
tm Inv.fpOk{b:Addr}(I:Inv X pins σ H s)(hb:s.heap.objs.size<=b)(hn:H' b=none):FpOk X pins H' b:=by
 rF⟨hn,w2t (w0s I.lt hb),I.nofs hb,.inr (w0v I.sz hb),λx c e z=>?_,λp hp z=>?_⟩
 ·~⟨v,q⟩:=I.cell x c e;!absurd (w0s q.lt (by rw[z];!hb)) (w2n _)
 ·!absurd (w0s (Heap.lt_size (I.pin p hp).1) (by rw[z];!hb)) (w2n _)
structure Turn(P:Program)(w:World)(K:PySem.W.Frag)(tg:Expr)(J:It)(fp:List Addr)(it:Addr)(tn:Nat->Heap->Prop):Prop where
 mem:it∈fp
 obj:∀i h,tn i h->∀b∈fp,∃o,h.get? b=some o/\∀v,o.data≠.cell v
 keep:∀i h h',tn i h->(∀b∈fp,∀o,h.get? b=some o->h'.get? b=some o)->tn i h'
 item:∀(X:Cx),X.prog=P->X.w=w->X.K=K->X.calm=true->∀(i:Nat)(pins:List (Addr×Obj))(s:Shared)(σ:St)(H:Hp)(E:Value->Shared->Prop),Inv X pins σ H s->(∀b∈fp,FpOk X pins H b)->tn i s.heap->J.go i H ->
  wpAny (model P w) X.A (pyNext (.ref it)) (λr s1=>∃u,r=some u /\
   wpAny (model P w) X.A (letOwnedTupleGo tg (.ref it) u) (λ_ s2=>∃x H',Inv X pins σ H' s2/\RelV x u/\J.yld i H x H'/\tn (i+1) s2.heap/\∀b∈fp,H' b=none) E s1) E s
 done:∀(X:Cx),X.prog=P->X.w=w->X.K=K->X.calm=true->∀(i:Nat)(pins:List (Addr×Obj))(s:Shared)(σ:St)(H:Hp)(E:Value->Shared->Prop),Inv X pins σ H s->(∀b∈fp,FpOk X pins H b)->tn i s.heap->J.stop i H ->
  wpAny (model P w) X.A (pyNext (.ref it)) (λr s1=>r=none/\Inv X pins σ H s1) E s
 self:∀(A:Around)(i:Nat)(s:Shared)(Q:Value->Shared->Prop)(E:Value->Shared->Prop),tn i s.heap->Q (.ref it) s->wpAny (model P w) A (pyIter (.ref it)) Q E s
abbrev TI:=St->Hp->(It->Hp->Prop)->Prop
nD PIE(X:Cx)(pins:List (Addr×Obj))(σ:St)(tg:Expr)(R:It->Hp->Prop)(itv:Value)(s2:Shared):Prop:=
 ∃(it:Addr)(fp:List Addr)(tn:Nat->Heap->Prop)(J:It)(H':Hp),itv=.ref it/\Inv X pins σ H' s2/\Turn X.prog X.w X.K tg J fp it tn/\tn 0 s2.heap/\(∀b∈fp,FpOk X pins H' b)/\R J H'
nD PI(X:Cx)(tg iter:Expr)(wi:TI):Prop:=
 ∀(pins:List (Addr×Obj))(s:Shared)(σ:St)(H:Hp)(R:It->Hp->Prop),Inv X pins σ H s->wi σ H R ->
  wpAny (model X.prog X.w) X.A (eval iter X.env) (λv s1=>wpAny (model X.prog X.w) X.A (pyIter v) (PIE X pins σ tg R) X.xe s1) X.xe s
theorem x45{M : Model}{E : Value -> Shared -> Prop}{s : Shared}{it : Addr}{o : Obj}{n : String}{vs : Array Value}{Q : Unit -> Shared -> Prop}(ho : s.heap.get? it = some o)(hc : o.cls = .type n)(hd : o.data = .fields vs)
    (hn : ["enumerate", "zip", "dict_itemiterator", "dict_reverseitemiterator", "odict_iterator", "itertools.zip_longest", "itertools.pairwise"].contains n = false)(hQ : Q () s) : wpAny M A (letOwnedTupleGo tg (.ref it) u) Q E s := by
  unfold letOwnedTupleGo
  cases tg <;> first
    | !wpAny_pure hQ
    | (cases u <;> first
        | !wpAny_pure hQ
        | (refine wpAny_bind (wpAny_load ho ?_)
           rw [hc, hd];show wpAny M A (if (["enumerate", "zip", "dict_itemiterator", "dict_reverseitemiterator", "odict_iterator", "itertools.zip_longest", "itertools.pairwise"].contains n && vs[0]? == some (rawInt _)) = true then _ else _) Q E s;rw [if_neg (by intro h; rw [hn, Bool.false_and] at h; @h)];!wpAny_pure hQ))
nD Itl(K:PySem.W.Frag)(a:Addr):It:=
 ⟨λi H=>∃xs x,SqL K H a xs/\xs[i]?=some x,λi H x H'=>H'=H/\∀xs,SqL K H a xs->xs[i]?=some x,λi H=>∃xs,SqL K H a xs/\xs.length<=i⟩
nD Itt(K:PySem.W.Frag)(a:Addr):It:=
 ⟨λi H=>∃xs x,SqT K H a xs/\xs[i]?=some x,λi H x H'=>H'=H/\∀xs,SqT K H a xs->xs[i]?=some x,λi H=>∃xs,SqT K H a xs/\xs.length<=i⟩
nD Itr(lo:Int)(n:Nat):It:=⟨λi _=>i<n,λi H x H'=>H'=H/\x=.int (lo+i),λi _=>n<=i⟩
tm y0p(a it:Addr):Turn P w K tg (Itl K a) [it] it (λi h=>h.IsListIter it a i) where
 mem:=by simp
 obj:=λi h st b hb=>by
  #e:b=it:=by simpa using hb
  subst e;~⟨o,e,c,d⟩:=st
  grind
 keep:=λi h h' st k=>st.at λo e=>k it (by simp) o e
 item:=by
  intro X hP hw hK hc i pins s σ H E I hf st hg;subst hP hw hK;~⟨xs,x,hq,hx⟩:=hg;~⟨its,rv,p,hz⟩:=I.list hq;~⟨u,hu,ru⟩:=rv.get hx;~⟨f0,f1,f2,f3,f4,f5⟩:=hf it (by simp);rF wpAny_pyNext_list_item st p.isList (x:=u) (by simpa using hu) λh' st' sb=>?_
  #I1:Inv X pins σ H {s with heap:=h'}:=I.turned (t':=s.toks) (λb o hb e=>(sb.2 b hb).trans e) f0 f1 f3 f4 f5
  ~⟨o,e,c,d⟩:=id st';!⟨u,rfl,x45 (s:={s with heap:=h'}) e c d (by decide) ⟨x,H,I1,ru,⟨rfl,λys hy=>by rw[I.list_inj hy hq];!hx⟩,st',λb hb=>(hf b hb).1⟩⟩
 done:=by
  intro X hP hw hK hc i pins s σ H E I hf st hg;subst hP hw hK;~⟨xs,hq,hx⟩:=hg;~⟨its,rv,p,hz⟩:=I.list hq;~⟨f0,f1,f2,f3,f4,f5⟩:=hf it (by simp);#hl:=rv.length;!wpAny_pyNext_list_end (I.ok.hd hc) st p.isList (by simp;omega) λh' eb=>⟨rfl,I.turned (t':=s.toks) (λb o hb e=>eb b o hb e) f0 f1 f3 f4 f5⟩
 self:=λ_ _ _ _ _ st h=>wpAny_pyIter_listiter st h
tm x9d(a it:Addr):Turn P w K tg (Itt K a) [it] it (λi h=>h.IsTupleIter it a i) where
 mem:=by simp
 obj:=λi h st b hb=>by
  #e:b=it:=by simpa using hb
  subst e;~⟨o,e,c,d⟩:=st
  grind
 keep:=λi h h' st k=>st.at λo e=>k it (by simp) o e
 item:=by
  intro X hP hw hK hc i pins s σ H E I hf st hg;subst hP hw hK;~⟨xs,x,hq,hx⟩:=hg;~⟨its,rv,p,hz⟩:=I.tuple hq;~⟨u,hu,ru⟩:=rv.get hx;~⟨f0,f1,f2,f3,f4,f5⟩:=hf it (by simp);rF wpAny_pyNext_tuple_item st (show s.heap.IsTuple a its.toArray from p) (x:=u) (by simpa using hu) λh' st' sb=>?_
  #I1:Inv X pins σ H {s with heap:=h'}:=I.turned (t':=s.toks) (λb o hb e=>(sb.2 b hb).trans e) f0 f1 f3 f4 f5
  ~⟨o,e,c,d⟩:=id st';!⟨u,rfl,x45 (s:={s with heap:=h'}) e c d (by decide) ⟨x,H,I1,ru,⟨rfl,λys hy=>by rw[I.tuple_inj hy hq];!hx⟩,st',λb hb=>(hf b hb).1⟩⟩
 done:=by
  intro X hP hw hK hc i pins s σ H E I hf st hg;subst hP hw hK;~⟨xs,hq,hx⟩:=hg;~⟨its,rv,p,hz⟩:=I.tuple hq;~⟨f0,f1,f2,f3,f4,f5⟩:=hf it (by simp);#hl:=rv.length;!wpAny_pyNext_tuple_end (I.ok.hd hc) st (show s.heap.IsTuple a its.toArray from p) (by simp;omega) λh' eb=>⟨rfl,I.turned (t':=s.toks) (λb o hb e=>eb b o hb e) f0 f1 f3 f4 f5⟩
 self:=λ_ _ _ _ _ st h=>wpAny_pyIter_tupleiter st h
tm x9e(it:Addr)(lo:Int)(n:Nat):Turn P w K tg (Itr lo n) [it] it (λi h=>IsRangeIter h it (lo+(i:Nat)*1) ((n:Int)-(i:Nat)) 1) where
 mem:=by simp
 obj:=λi h st b hb=>by
  grind
 keep:=λi h h' st k=>k it (by simp) _ st
 item:=by
  intro X hP hw hK hc i pins s σ H E I hf st hg;subst hP hw hK;~⟨f0,f1,f2,f3,f4,f5⟩:=hf it (by simp);#W:=Walks.range (prog:=X.prog) (w:=X.w) (I.ok.hd hc) it lo 1 n;rF W.item i s _ _ hg st λv h' tk hv st' kk=>?_
  ~⟨t,rfl⟩:=hv;#I1:Inv X pins σ H {s with heap:=h',toks:=tk}:=I.turned (λb o hb e=>kk b o (by simpa using hb) e) f0 f1 f3 f4 f5
  rF⟨_,rfl,x45 (s:={s with heap:=h',toks:=tk}) (n:="range_iterator") st' rfl rfl (by decide) ⟨.int (lo+i),H,I1,⟨t,?_⟩,⟨rfl,rfl⟩,st',λb hb=>(hf b hb).1⟩⟩
  rw[Int.mul_one]
 done:=by
  intro X hP hw hK hc i pins s σ H E I hf st hg;subst hP hw hK;~⟨f0,f1,f2,f3,f4,f5⟩:=hf it (by simp);!wpAny_pyNext_range_end (I.ok.hd hc) st (by #:n<=i:=hg;omega) λh' eb=>⟨rfl,I.turned (t':=s.toks) (λb o hb e=>eb b o hb e) f0 f1 f3 f4 f5⟩
 self:=λ_ _ _ _ _ st h=>wpAny_pyIter_rangeiter st h
tm x5l{R:It->Hp->Prop}{lo hi:Int}{t u v:Tok}{tk:Nat}(I:Inv X pins σ H s)(h1:-(2^62)<=lo)(h2:lo<2^62)(h3:-(2^62)<=hi)(h4:hi<2^62)
  (q:R (Itr lo (hi-lo).toNat) H):wpAny (model X.prog X.w) X.A (pyIter (.ref s.heap.objs.size)) (PIE X pins σ tg R) E {s with heap:=s.heap.push {cls:=.type "range", data:=.fields #[.int lo t,.int hi u,.int 1 v]},toks:=tk}:=by
 rF wpAny_pyIter_range (IsRange.new ..) (small_one h1 h2 h3 h4) ?_;#I1:Inv X pins σ H {s with heap:=s.heap.push {cls:=.type "range", data:=.fields #[.int lo t,.int hi u,.int 1 v]},toks:=tk}:=I.kept λb o e=>Heap.get?_push_of_some _ e
 rF⟨(s.heap.push {cls:=.type "range", data:=.fields #[.int lo t,.int hi u,.int 1 v]}).objs.size,[(s.heap.push {cls:=.type "range", data:=.fields #[.int lo t,.int hi u,.int 1 v]}).objs.size],_,_,H,rfl,
  I1.kept (t':=tk) λb o e=>Heap.get?_push_of_some _ e,x9e _ lo (hi-lo).toNat,?_,λb hb=>?_,q⟩
 ·#e1:lo+((0:Nat):Int)*1=lo:=by simp
  #e2:(((hi-lo).toNat:Nat):Int)-((0:Nat):Int)=Builtin.Range.rangeSize lo hi 1:=by grind [rangeSize_one]
  show IsRangeIter _ _ (lo+((0:Nat):Int)*1) ((((hi-lo).toNat:Nat):Int)-((0:Nat):Int)) 1;rw[e1,e2];!Heap.get?_push_size _ rfl
 ·#e:b=(s.heap.push {cls:=.type "range", data:=.fields #[.int lo t,.int hi u,.int 1 v]}).objs.size:=by simpa using hb
  subst e;!I1.fpOk (w0b _) (I1.hok.fresh (w0b _))
nD iRng1(ta:TA):TI:=λσ H R=>ta σ H λvs H1=>∃j:Int,vs=[.int j]/\-(2^62)<=j/\j<2^62/\R (Itr 0 j.toNat) H1
nD iRng2(ta:TA):TI:=λσ H R=>ta σ H λvs H1=>∃i j:Int,vs=[.int i,.int j]/\(-(2^62)<=i/\i<2^62/\-(2^62)<=j/\j<2^62)/\R (Itr i (j-i).toNat) H1
tm x3p{a:Expr}{ta:TA}(hg:Gl X "range")(hm:X.mg "range"=none)(ha:PA X [a] ta)(hs:starEach [a] X.env=[(false,eval a X.env)]:=by rfl):PI X tg (.Call (.Name "range" p) [a] [] pos) (iRng1 ta):=by
 intro pins s σ H R I h;rF Call_ (q30 I hg hm boot_range (PyProof.Rows.callWith_type1 (thn (ha pos pins s σ H _ I h) λus s1 ⟨vs,H1,I1,r1,q1⟩=>?_) hs rfl))
 ~⟨j,e,q1,q2,q⟩:=q1;subst e;cases r1 with
 |cons r rr=>
  @rr;~⟨t,rfl⟩:=r
  grind [call_range_1,x5l]
tm y0q{a b:Expr}{ta:TA}(hg:Gl X "range")(hm:X.mg "range"=none)(ha:PA X [a,b] ta)(hs:starEach [a,b] X.env=[(false,eval a X.env),(false,eval b X.env)]:=by rfl)(hs2:starEach [b] X.env=[(false,eval b X.env)]:=by rfl):
  PI X tg (.Call (.Name "range" p) [a,b] [] pos) (iRng2 ta):=by
 intro pins s σ H R I h;rF Call_ (q30 I hg hm boot_range (PyProof.Rows.callWith_type1 (thn (ha pos pins s σ H _ I h) λus s1 ⟨vs,H1,I1,r1,q1⟩=>?_) (by rw[hs,hs2]) (by rw[hs2];rfl)))
 ~⟨i,j,e,⟨q1,q2,q3,q4⟩,q⟩:=q1;subst e;cases r1 with
 |cons r rr=>
  cases rr with
  |cons r' rr=>
   @rr;~⟨t,rfl⟩:=r;~⟨t',rfl⟩:=r'
   grind [call_range_2,x5l]
nD tFor(wi:TI)(g:TG)(tb:TS):TS:=λD σ H=>wi σ H λJ H1=>∃W:Nat->Nat->St->Hp->Prop,(∃m,W 0 m σ H1)/\∀i m σ H,W i m σ H ->
 (J.stop i H/\D.nx σ H)\/(J.go i H/\∃N:St->Hp->Prop,(∀σ' H',N σ' H'->∃m',m'<m/\W (i+1) m' σ' H')/\∀x H',J.yld i H x H'->g x σ H' λσ2 H2=>tb {D with nx:=N,ct:=N,bk:=D.nx} σ2 H2)
nD pinsAt(fp:List Addr)(h:Heap):List (Addr×Obj):=fp.filterMap λb=>(h.get? b).map λo=>(b,o)
tm q2p{b:Addr}{o:Obj}(hb:b∈fp)(e:h.get? b=some o):(b,o)∈pinsAt fp h:=w4c.mpr ⟨b,hb,by rw[e];rfl⟩
tm y0r{p:Addr×Obj}(hp:p∈pinsAt fp h):p.1∈fp/\h.get? p.1=some p.2:=by
 ~⟨b,hb,e⟩:=w4c.mp hp;cases q:h.get? b with
 |none=>rw[q]at e;@e
 |some o=>
  grind
tm Inv.pinned(I:Inv X pins σ H s)(hf:∀b∈fp,FpOk X pins H b)(ho:∀b∈fp,∃o,s.heap.get? b=some o/\∀v,o.data≠.cell v):Inv X (pins++pinsAt fp s.heap) σ H s:=
 I.pins_of λp hp=>(w1c.mp hp).elim (λz=>I.pin p (w0c _ z)) λz=>by
  ~⟨hb,e⟩:=y0r z;~⟨f0,f1,f2,_⟩:=hf p.1 hb
  grind
tm Inv.unpinned{pl:List (Addr×Obj)}(I:Inv X (pins++pl) σ H s):Inv X pins σ H s:=I.pins_of λp hp=>I.pin p (w0c _ (w0r _ hp))
tm x1v{iter:Expr}{body:List Stmt}{wi:TI}{g:TG}(hp:PassesOwn (model X.prog X.w) X.A X.env X.xe)(hc:X.calm=true)(hi:PI X tg iter wi)(hg:PG X tg g)(hb:PSs X body tb)
  (hs:∀x,foldedSetIterable iter X.env x=pure x:=by intro _;rfl):PS X (.For tg iter body [] pos) (tFor wi g tb):=by
 intro pins s σ H D I h;rF wpAny_For (thn (hi pins s σ H _ I h) λv s1 h1=>thn h1 λitv s2 h2=>?_) hs
 ~⟨it,fp,tn,J,H2,e,I2,T,st2,f2,W,⟨m0,w0⟩,turn⟩:=h2;subst e;#stat:∀{H':Hp},(∀b∈fp,H' b=none)->∀b∈fp,FpOk X pins H' b:=λhn b hb=>⟨hn b hb,(f2 b hb).2⟩
 rF codeAny_forLoop_any (λn s'=>∃i σ' H',Inv X pins σ' H' s'/\tn i s'.heap/\(∀b∈fp,H' b=none)/\W i n σ' H') ?_ m0 ⟨0,σ,H2,I2,st2,λb hb=>(f2 b hb).1,w0⟩
 rintro n s3 ⟨i,σ3,H3,I3,st3,fr3,w3⟩;rcases turn i n σ3 H3 w3 with⟨stop,qn⟩|⟨go,N,hN,step⟩
 ·rF wpAny_passesOwn hp (thn (T.done X rfl rfl rfl hc i pins s3 σ3 H3 X.xe I3 (stat fr3) st3 stop) λr s4 ⟨hr,I4⟩=>?_)
  subst hr;!wpAny_execs_nil ⟨σ3,H3,I4,qn⟩
 ·rF wpAny_passesOwn hp (thn (T.item X rfl rfl rfl hc i pins s3 σ3 H3 X.xe I3 (stat fr3) st3 go) λr s4 ⟨u,hr,h4⟩=>?_)
  subst hr;rF wpAny_passesOwn hp (thn h4 λ_ s5 ⟨x,H5,I5,r5,y5,st5,fr5⟩=>?_)
  #I5':=I5.pinned (stat fr5) (T.obj _ _ st5);rF wpAny_passesOwn hp (thn (hg _ s5 σ3 H5 x u _ I5' r5 (step x H5 y5)) λ_ s6 ⟨σ6,H6,I6,q6⟩=>?_)
  rF wpAny_passesOwn hp (thn (hb _ s6 σ6 H6 _ I6 q6) λf s7 q7=>?_)
  #again:∀{σ7:St}{H7:Hp},Inv X (pins++pinsAt fp s5.heap) σ7 H7 s7->N σ7 H7->∃m,m<n/\∃i σ' H',Inv X pins σ' H' s7/\tn i s7.heap/\(∀b∈fp,H' b=none)/\W i m σ' H':=λ{σ7 H7} I7 n7=>by
   ~⟨m',hm,w7⟩:=hN σ7 H7 n7;rF⟨m',hm,i+1,σ7,H7,I7.unpinned,T.keep _ _ _ st5 λb hb o e=>(I7.pin (b,o) (w0c _ (w0c _ (q2p hb e)))).1,λb hb=>?_,w7⟩
   ~⟨o,e,d⟩:=T.obj _ _ st5 b hb;!(I7.pin (b,o) (w0c _ (w0c _ (q2p hb e)))).2.1
  cases f with
  |next=>~⟨σ7,H7,I7,n7⟩:=q7;!again I7 n7
  |cont=>~⟨σ7,H7,I7,n7⟩:=q7;!again I7 n7
  |brk=>~⟨σ7,H7,I7,q7⟩:=q7;!⟨σ7,H7,I7.unpinned,q7⟩
  |ret v=>~⟨x7,σ7,H7,I7,r7,q7⟩:=q7;!⟨x7,σ7,H7,I7.unpinned,r7,q7⟩
tm y38{g:TG}{D:Ends}(Pv:Nat->St->Hp->Prop)(h0:Pv 0 σ H)(hl:∀i σ H,i<=xs.length->Pv i σ H->SqL K H a xs)
  (hs:∀i x σ H,xs[i]?=some x->Pv i σ H->g x σ H λσ2 H2=>tb {D with nx:=Pv (i+1),ct:=Pv (i+1),bk:=D.nx} σ2 H2)(hd:∀σ H,Pv xs.length σ H->D.nx σ H):
  ∃W:Nat->Nat->St->Hp->Prop,(∃m,W 0 m σ H)/\∀i m σ H,W i m σ H ->
   ((Itl K a).stop i H/\D.nx σ H)\/((Itl K a).go i H/\∃N:St->Hp->Prop,(∀σ' H',N σ' H'->∃m',m'<m/\W (i+1) m' σ' H')/\∀x H',(Itl K a).yld i H x H'->g x σ H' λσ2 H2=>tb {D with nx:=N,ct:=N,bk:=D.nx} σ2 H2):=by
 rF⟨λi m σ H=>m=xs.length-i/\i<=xs.length/\Pv i σ H,⟨xs.length,by simp,w1g _,h0⟩,?_⟩
 rintro i m σ H ⟨rfl,hi,p⟩;#q:=hl i σ H hi p
 by_cases hlt:i<xs.length
 ·rF .inr ⟨⟨xs,xs[i],q,by simp[hlt]⟩,Pv (i+1),λσ' H' p'=>⟨xs.length-(i+1),by omega,rfl,hlt,p'⟩,λx H' y=>?_⟩
  ~⟨e,y⟩:=y
  grind
 ·#e:i=xs.length:=by omega
  subst e;!.inl ⟨⟨xs,q,w0b _⟩,hd σ H p⟩
tm y7z{g:TG}{D:Ends}(Pv:Nat->St->Hp->Prop)(h0:Pv 0 σ H)(hl:∀i σ H,i<=xs.length->Pv i σ H->SqT K H a xs)
  (hs:∀i x σ H,xs[i]?=some x->Pv i σ H->g x σ H λσ2 H2=>tb {D with nx:=Pv (i+1),ct:=Pv (i+1),bk:=D.nx} σ2 H2)(hd:∀σ H,Pv xs.length σ H->D.nx σ H):
  ∃W:Nat->Nat->St->Hp->Prop,(∃m,W 0 m σ H)/\∀i m σ H,W i m σ H ->
   ((Itt K a).stop i H/\D.nx σ H)\/((Itt K a).go i H/\∃N:St->Hp->Prop,(∀σ' H',N σ' H'->∃m',m'<m/\W (i+1) m' σ' H')/\∀x H',(Itt K a).yld i H x H'->g x σ H' λσ2 H2=>tb {D with nx:=N,ct:=N,bk:=D.nx} σ2 H2):=by
 rF⟨λi m σ H=>m=xs.length-i/\i<=xs.length/\Pv i σ H,⟨xs.length,by simp,w1g _,h0⟩,?_⟩
 rintro i m σ H ⟨rfl,hi,p⟩;#q:=hl i σ H hi p
 by_cases hlt:i<xs.length
 ·rF .inr ⟨⟨xs,xs[i],q,by simp[hlt]⟩,Pv (i+1),λσ' H' p'=>⟨xs.length-(i+1),by omega,rfl,hlt,p'⟩,λx H' y=>?_⟩
  ~⟨e,y⟩:=y
  grind
 ·#e:i=xs.length:=by omega
  subst e;!.inl ⟨⟨xs,q,w0b _⟩,hd σ H p⟩
tm y0s{lo:Int}{n:Nat}{g:TG}{D:Ends}(Pv:Nat->St->Hp->Prop)(h0:Pv 0 σ H)
  (hs:∀i σ H,i<n->Pv i σ H->g (.int (lo+i)) σ H λσ2 H2=>tb {D with nx:=Pv (i+1),ct:=Pv (i+1),bk:=D.nx} σ2 H2)(hd:∀σ H,Pv n σ H->D.nx σ H):
  ∃W:Nat->Nat->St->Hp->Prop,(∃m,W 0 m σ H)/\∀i m σ H,W i m σ H ->
   ((Itr lo n).stop i H/\D.nx σ H)\/((Itr lo n).go i H/\∃N:St->Hp->Prop,(∀σ' H',N σ' H'->∃m',m'<m/\W (i+1) m' σ' H')/\∀x H',(Itr lo n).yld i H x H'->g x σ H' λσ2 H2=>tb {D with nx:=N,ct:=N,bk:=D.nx} σ2 H2):=by
 rF⟨λi m σ H=>m=n-i/\i<=n/\Pv i σ H,⟨n,by simp,w1g _,h0⟩,?_⟩
 rintro i m σ H ⟨rfl,hi,p⟩
 by_cases hlt:i<n
 ·rF .inr ⟨hlt,Pv (i+1),λσ' H' p'=>⟨n-(i+1),by omega,rfl,hlt,p'⟩,λx H' y=>?_⟩
  ~⟨e,y⟩:=y
  grind
 ·#e:i=n:=by omega
  subst e;!.inl ⟨w0b _,hd σ H p⟩
abbrev R2:=V->V->Hp->VK->Prop
variable{r:R2}
nD OpR(X:Cx)(f:Value->Value->Sem Value)(r:R2):Prop:=
 ∀(pins:List (Addr×Obj))(s:Shared)(σ:St)(H:Hp)(x y:V)(v u:Value)(Q:VK),Inv X pins σ H s->RelV x v->RelV y u->r x y H Q ->
  wpAny (model X.prog X.w) X.A (f v u) (EP X pins σ Q) X.xe s
nD UnR(X:Cx)(f:Value->Sem Value)(r:V->Hp->VK->Prop):Prop:=
 ∀(pins:List (Addr×Obj))(s:Shared)(σ:St)(H:Hp)(x:V)(v:Value)(Q:VK),Inv X pins σ H s->RelV x v->r x H Q ->
  wpAny (model X.prog X.w) X.A (f v) (EP X pins σ Q) X.xe s
nD CallR(X:Cx)(f:Value)(r:List V->Hp->VK->Prop):Prop:=
 ∀(pins:List (Addr×Obj))(s:Shared)(σ:St)(H:Hp)(xs:List V)(us:List Value)(Q:VK),Inv X pins σ H s->Vals xs us->r xs H Q ->
  wpAny (model X.prog X.w) X.A (call f us) (EP X pins σ Q) X.xe s
nD TruR(X:Cx)(r:V->Hp->(Bool->Hp->Prop)->Prop):Prop:=
 ∀(pins:List (Addr×Obj))(s:Shared)(σ:St)(H:Hp)(x:V)(v:Value)(Q:Bool->Hp->Prop),Inv X pins σ H s->RelV x v->r x H Q ->
  wpAny (model X.prog X.w) X.A (truthy v) (TP X pins σ Q) X.xe s
nD tOp(r:R2)(ta tb:TE):TE:=λσ H Q=>ta σ H λx H1=>tb σ H1 λy H2=>r x y H2 Q
nD tUn(r:V->Hp->VK->Prop)(ta:TE):TE:=λσ H Q=>ta σ H λx H1=>r x H1 Q
nD rI(C:Int->Int->Prop)(g:Int->Int->V):R2:=λx y H Q=>∃i j,x=.int i/\y=.int j/\C i j/\Q (g i j) H
nD rI0(g:Int->Int->V):R2:=λx y H Q=>∃i j,x=.int i/\y=.int j/\Q (g i j) H
nD rU(g:Int->V):V->Hp->VK->Prop:=λx H Q=>∃i,x=.int i/\Q (g i) H
section
variable{a b:Expr}{tb tc:TE}
tm binT(ha:PE X a ta)(hb:PE X b tb){R:V->V->Hp->Prop}(I:Inv X pins σ H s)
  (h:ta σ H λx H1=>tb σ H1 λy H2=>R x y H2){Q:Value->Shared->Prop}
  (hf:∀v u s2 x y H2,Inv X pins σ H2 s2->RelV x v->RelV y u->R x y H2->wpAny (model X.prog X.w) X.A (f v u) Q X.xe s2):
  wpAny (model X.prog X.w) X.A (eval a X.env) (λv s₁=>wpAny (model X.prog X.w) X.A (eval b X.env) (λu s₂=>wpAny (model X.prog X.w) X.A (f v u) Q X.xe s₂) X.xe s₁) X.xe s:=by
 rF thn (ha pins s σ H _ I h) λv s1 ⟨x,H1,I1,r1,q1⟩=>?_
 rF thn (hb pins s1 σ H1 _ I1 q1) λu s2 ⟨y,H2,I2,r2,q2⟩=>?_
 grind
tm z69{op:Operator}(ho:OpR X (binaryOp op) r)(ha:PE X a ta)(hb:PE X b tb):PE X (.BinOp a op b pos) (tOp r ta tb):=by
 intro pins s σ H Q I h;!wpAny_BinOp (binT ha hb I h λv u s2 x y H2 I2 rx ry q=>ho pins s2 σ H2 x y v u Q I2 rx ry q)
tm z7a{op:UnaryOp}{r:V->Hp->VK->Prop}(ho:UnR X (unaryOp op) r)(ha:PE X a ta):PE X (.UnaryOp op a pos) (tUn r ta):=by
 intro pins s σ H Q I h;!UnaryOp_ (thn (ha pins s σ H _ I h) λv s1 ⟨x,H1,I1,r1,q1⟩=>ho pins s1 σ H1 x v Q I1 r1 q1)
tm opI{C:Int->Int->Prop}{g:Int->Int->Int}
  (rule:∀(i j:Int)(t u:Tok)(s:Shared)(Q:Value->Shared->Prop)(E:Value->Shared->Prop),C i j->Q (.int (g i j) s.toks) {s with toks:=s.toks+1}->wpAny (model X.prog X.w) X.A (f (.int i t) (.int j u)) Q E s):
  OpR X f (rI C λi j=>.int (g i j)):=by
 intro pins s σ H x y v u Q I rx ry h;~⟨i,j,rfl,rfl,hc,q⟩:=h;~⟨t,rfl⟩:=rx;~⟨t',rfl⟩:=ry;!rule i j t t' s _ _ hc ⟨.int (g i j),H,I.tok _,⟨_,rfl⟩,q⟩
tm opI0{g:Int->Int->Int}
  (rule:∀(i j:Int)(t u:Tok)(s:Shared)(Q:Value->Shared->Prop)(E:Value->Shared->Prop),Q (.int (g i j) s.toks) {s with toks:=s.toks+1}->wpAny (model X.prog X.w) X.A (f (.int i t) (.int j u)) Q E s):
  OpR X f (rI0 λi j=>.int (g i j)):=by
 intro pins s σ H x y v u Q I rx ry h;~⟨i,j,rfl,rfl,q⟩:=h;~⟨t,rfl⟩:=rx;~⟨t',rfl⟩:=ry;!rule i j t t' s _ _ ⟨.int (g i j),H,I.tok _,⟨_,rfl⟩,q⟩
tm opB0{g:Int->Int->Bool}
  (rule:∀(i j:Int)(t u:Tok)(s:Shared)(Q:Value->Shared->Prop)(E:Value->Shared->Prop),Q (.bool (g i j)) s->wpAny (model X.prog X.w) X.A (f (.int i t) (.int j u)) Q E s):
  OpR X f (rI0 λi j=>.bl (g i j)):=by
 intro pins s σ H x y v u Q I rx ry h;~⟨i,j,rfl,rfl,q⟩:=h;~⟨t,rfl⟩:=rx;~⟨t',rfl⟩:=ry;!rule i j t t' s _ _ ⟨.bl (g i j),H,I,rfl,q⟩
nD CDiv(i j:Int):Prop:=0<j/\j<1073741824
nD CPow(i j:Int):Prop:=0<=j/\j<=1000000/\i.natAbs<2^64
nD CMul(i j:Int):Prop:=(-(2^64)<i/\i<2^64)\/(-(2^64)<j/\j<2^64)
tm CMul.ok{i j:Int}(h:CMul i j):IntMulOk i j:=by
 rcases h with⟨h1,h2⟩|⟨h1,h2⟩
 all_goals grind [IntMulOk.of_left,intBits_le_64,IntMulOk.of_right]
tm op_add:OpR X (binaryOp .Add) (rI0 λi j=>.int (i+j)):=opI0 λ_ _ _ _ _ _ _ q=>add_int q
tm z21:OpR X (binaryOp .Sub) (rI0 λi j=>.int (i-j)):=opI0 λ_ _ _ _ _ _ _ q=>sub_int q
tm z22:OpR X (binaryOp .Mult) (rI CMul λi j=>.int (i*j)):=opI λ_ _ _ _ _ _ _ hc q=>mul_int q hc.ok
tm y70:OpR X (binaryOp .FloorDiv) (rI CDiv λi j=>.int (i / j)):=opI λi j _ _ _ _ _ hc q=>by
 #h1:(0:Int)<j:=hc.1;#h2:j<1073741824:=hc.2;!floordiv_int oM (by grind) (.inl (PyProof.noPylong_small oM))
tm z23:OpR X (binaryOp .Mod) (rI (λ_ j=>0<j) λi j=>.int (i%j)):=opI λi j _ _ _ _ _ hc q=>by
 #h1:(0:Int)<j:=hc;!mod_int' oM (by grind)
tm z24:OpR X (binaryOp .Pow) (rI CPow λi j=>.int (i^j.toNat)):=opI λ_ _ _ _ _ _ _ hc q=>pow_int_small hc.1 hc.2.1 hc.2.2 q
tm unI{f:Value->Sem Value}{g:Int->Int}
  (rule:∀(i:Int)(t:Tok)(s:Shared)(Q:Value->Shared->Prop)(E:Value->Shared->Prop),Q (.int (g i) s.toks) {s with toks:=s.toks+1}->wpAny (model X.prog X.w) X.A (f (.int i t)) Q E s):
  UnR X f (rU λi=>.int (g i)):=by
 intro pins s σ H x v Q I rx h;~⟨i,rfl,q⟩:=h;~⟨t,rfl⟩:=rx;!rule i t s _ _ ⟨.int (g i),H,I.tok _,⟨_,rfl⟩,q⟩
tm z25:UnR X (unaryOp .USub) (rU λi=>.int (-i)):=unI λ_ _ _ _ _ q=>neg_int q
end
section
variable{a b:Expr}{tb tc:TE}
tm x5m{Q:VK}{k k':Bool}(I:Inv X pins σ H s)(q:Q (.bl k) H)(e:k=k'):EP X pins σ Q (.bool k') s:=by
 subst e;!⟨.bl k,H,I,rfl,q⟩
tm y69:OpR X (compareOp .Lt) (rI0 λi j=>.bl (decide (i<j))):=opB0 λ_ _ _ _ _ _ _ q=>lt_int q
tm y7a:OpR X (compareOp .Gt) (rI0 λi j=>.bl (decide (j<i))):=opB0 λ_ _ _ _ _ _ _ q=>gt_int q
tm z7b:OpR X (compareOp .GtE) (rI0 λi j=>.bl (decide (j<=i))):=opB0 λ_ _ _ _ _ _ _ q=>ge_int q
tm OpR.or{r':R2}(h:OpR X f r)(h':OpR X f r'):OpR X f (λx y H Q=>r x y H Q\/r' x y H Q):=by
 intro pins s σ H x y v u Q I rx ry q;rcases q with q|q
 ·!h pins s σ H x y v u Q I rx ry q
 ·!h' pins s σ H x y v u Q I rx ry q
tm nomark(b:Expr)(h:op≠.In:=by decide)(h2:op≠.NotIn:=by decide):behindInMarks op b=false:=by
 #e1:(op==CmpOp.In)=false:=by grind
 #e2:(op==CmpOp.NotIn)=false:=by grind
 @b<;>simp[behindInMarks,e1,e2]
tm y71(ho:OpR X (compareOp op) r)(ha:PE X a ta)(hb:PE X b tb)(hm:behindInMarks op b=false):PE X (.Compare a [op] [b] pos) (tOp r ta tb):=by
 intro pins s σ H Q I h;!wpAny_Compare1 (binT ha hb I h λv u s2 x y H2 I2 rx ry q=>ho pins s2 σ H2 x y v u Q I2 rx ry q) hm
nD tTest(t:TE):TT:=λσ H Q=>t σ H λx H'=>∃k,x=.bl k/\Q k H'
tm y72(ho:OpR X (compareOp op) r)(ha:PE X a ta)(hb:PE X b tb)(hm:behindInMarks op b=false):PT X (.Compare a [op] [b] pos) (tTest (tOp r ta tb)):=by
 intro pins s σ H Q I h
 rF wpAny_isTrue_Compare1 (thn (ha pins s σ H _ I h) λv s1 ⟨x,H1,I1,r1,q1⟩=>thn (hb pins s1 σ H1 _ I1 q1) λu s2 ⟨y,H2,I2,r2,q2⟩=>
  thn (ho pins s2 σ H2 x y v u _ I2 r1 r2 q2) λc s3 ⟨z,H3,I3,r3,k,e,q3⟩=>?_) hm
 subst e;@r3;!wpAny_truthy_bool ⟨H3,I3,q3⟩
nD TruV(K:PySem.W.Frag)(x:V)(H:Hp)(k:Bool):Prop:=
 match x with
 |.non=>k=false
 |.bl b=>k=b
 |.int i=>k=(i != 0)
 |.str y=>y.length<=sizeLine/\k=((y.length:Int) != 0)
 |.byt y=>y.size<=sizeLine/\k=((y.size:Int) != 0)
 |.ref p=>(∃xs,SqL K H p xs/\k=!xs.isEmpty)\/(∃xs,SqT K H p xs/\k=!xs.isEmpty)\/∃kvs,H p=some (.dK kvs)/\k=!kvs.isEmpty
 |_=>False
tm x9f{κ:Type}{kvs:List (κ×V)}{vs:List (κ×Value)}(r:KV kvs vs):(!vs.isEmpty)=!kvs.isEmpty:=by
 @r<;>rfl
tm x1w{its:List Value}(r:Vals xs its):(!its.toArray.isEmpty)=!xs.isEmpty:=by
 @r<;>simp
tm line63:(sizeLine:Nat)<2^63:=by rw[sizeLine_eq];decide
tm z26:TruR X (λx H Q=>∃k,TruV X.K x H k/\Q k H):=by
 intro pins s σ H x v Q I rx h;~⟨k,e,q⟩:=h;#hl:=line63;#hs:sizeLine=16777216:=sizeLine_eq;cases x with
 |non=>
  @rx;#e':k=false:=e;subst e';!truthy_none ⟨H,I,q⟩
 |bl b=>
  @rx;#e':k=b:=e;subst e';!wpAny_truthy_bool ⟨H,I,q⟩
 |int i=>
  ~⟨t,rfl⟩:=rx;#e':k=(i != 0):=e;subst e';!PySem.P.truthy_int ⟨H,I,q⟩
 |str y=>
  ~⟨t,rfl⟩:=rx;obtain⟨hy,e'⟩:y.length<=sizeLine/\k=((y.length:Int) != 0):=e;subst e';!PySem.P.truthy_str oM ⟨H,I.tok _,q⟩
 |byt y=>
  ~⟨t,rfl⟩:=rx;obtain⟨hy,e'⟩:y.size<=sizeLine/\k=((y.size:Int) != 0):=e;subst e';!PySem.W.truthy_bytes oM ⟨H,I.tok _,q⟩
 |ref p=>
  @rx;#e':(∃xs,SqL X.K H p xs/\k=!xs.isEmpty)\/(∃xs,SqT X.K H p xs/\k=!xs.isEmpty)\/∃kvs,H p=some (.dK kvs)/\k=!kvs.isEmpty:=e;rcases e' with⟨xs,hx,e'⟩|⟨xs,hx,e'⟩|⟨kvs,hx,e'⟩
  ·subst e';~⟨its,r,pl,hz⟩:=I.list hx;#hlen:=r.length;!wpAny_truthy_list pl.isList (by grind) ⟨H,I.tok _,by grind [x1w]⟩
  ·subst e';~⟨its,r,pl,hz⟩:=I.tuple hx;#hlen:=r.length;!truthy_tuple pl (by grind) ⟨H,I.tok _,by grind [x1w]⟩
  ·subst e';obtain⟨hz,hS,vs,r,m⟩:kvs.length<=sizeLine/\(p==sysModules)=false/\∃vs,KV kvs vs/\s.heap.DictOf (mixKind X.prog X.w) p vs:=I.hok p _ hx;#hlen:kvs.length=vs.length:=Paired.length r;!wpAny_truthy_dict hS m oM ⟨H,I.tok _,by grind [x9f]⟩
 |_=>!(show False from e).elim
tm y39(ha:PE X a ta)(he:∀whole,isTrue a X.env whole=(do let v <- whole;standAt a.pos;holding [v] (truthy v))):
  PT X a (λσ H Q=>ta σ H λx H'=>∃k,TruV X.K x H' k/\Q k H'):=by
 intro pins s σ H Q I h;!isTrue_plain (thn (ha pins s σ H _ I h) λv s1 ⟨x,H1,I1,r1,q1⟩=>z26 pins s1 σ H1 x v Q I1 r1 q1) (he _)
tm op_add_str:OpR X (binaryOp .Add) (λx y H Q=>∃i j,x=.str i/\y=.str j/\i.length+j.length<=sizeLine/\Q (.str (i++j)) H):=by
 intro pins s σ H x y v u Q I rx ry h;~⟨i,j,rfl,rfl,hz,q⟩:=h;~⟨t,rfl⟩:=rx;~⟨t',rfl⟩:=ry;!add_str (λt' tk=>⟨.str (i++j),H,I.tok _,⟨_,rfl⟩,q⟩) hz
tm vals1{x:V}(r:Vals [x] us):∃u,us=[u]/\RelV x u:=by
 cases r with
 |cons r1 r2=>@r2;!⟨_,rfl,r1⟩
tm vals2{x y:V}(r:Vals [x,y] us):∃u w',us=[u,w']/\RelV x u/\RelV y w':=by
 cases r with
 |cons r1 r2=>
  cases r2 with
  |cons r3 r4=>@r4;grind
tm y0t(hc:X.calm=true):CallR X (.builtin "max") (λxs H Q=>∃i j,xs=[.int i,.int j]/\Q (.int (if j>i then j else i)) H):=by
 intro pins s σ H xs us Q I r h;~⟨i,j,rfl,q⟩:=h;~⟨u,w',rfl,⟨t,rfl⟩,⟨t',rfl⟩⟩:=vals2 r;rF max_two_ints (I.ok.hd hc) λh' tk k=>⟨_,H,I.kept k,?_,q⟩
 by_cases hj:j>i
 ·rw[if_pos hj,if_pos hj];!⟨_,rfl⟩
 ·rw[if_neg hj,if_neg hj];!⟨_,rfl⟩
tm y0u:CallR X (.type "int") (λxs H Q=>(∃i,xs=[.int i]/\Q (.int i) H)\/∃k,xs=[.bl k]/\Q (.int (if k then 1 else 0)) H):=by
 intro pins s σ H xs us Q I r h;rcases h with⟨i,rfl,q⟩|⟨k,rfl,q⟩
 ·~⟨u,rfl,t,rfl⟩:=vals1 r;!call_int_int ⟨.int i,H,I,⟨_,rfl⟩,q⟩
 ·~⟨u,rfl,r1⟩:=vals1 r;@r1;!call_int_bool ⟨.int (if k then 1 else 0),H,I.tok _,⟨_,rfl⟩,q⟩
nD LenV(K:PySem.W.Frag)(x:V)(H:Hp)(n:Nat):Prop:=
 match x with
 |.str y=>y.length<=sizeLine/\n=y.length
 |.byt y=>y.size<=sizeLine/\n=y.size
 |.ref p=>(∃xs,SqL K H p xs/\n=xs.length)\/∃xs,SqT K H p xs/\n=xs.length
 |_=>False
tm x5n:CallR X (.builtin "len") (λxs H Q=>∃x n,xs=[x]/\LenV X.K x H n/\Q (.int n) H):=by
 intro pins s σ H xs us Q I r h;~⟨x,n,rfl,e,q⟩:=h;~⟨u,rfl,rx⟩:=vals1 r;#hl:=line63;#hs:sizeLine=16777216:=sizeLine_eq;cases x with
 |str y=>
  ~⟨t,rfl⟩:=rx;obtain⟨hy,e'⟩:y.length<=sizeLine/\n=y.length:=e;subst e';!len_str oM ⟨.int _,H,I.tok _,⟨_,rfl⟩,q⟩
 |byt y=>
  ~⟨t,rfl⟩:=rx;obtain⟨hy,e'⟩:y.size<=sizeLine/\n=y.size:=e;subst e';!PySem.W.len_bytes oM ⟨.int _,H,I.tok _,⟨_,rfl⟩,q⟩
 |ref p=>
  @rx;#e':(∃xs,SqL X.K H p xs/\n=xs.length)\/∃xs,SqT X.K H p xs/\n=xs.length:=e;rcases e' with⟨xs,hx,e'⟩|⟨xs,hx,e'⟩
  ·subst e';~⟨its,r',pl,hz⟩:=I.list hx;#hlen:=r'.length;!Calls.call_len_list pl.isList (by grind) ⟨.int xs.length,H,I.tok _,⟨_,by simp only[w2k];rw[hlen]⟩,q⟩
  ·subst e';~⟨its,r',pl,hz⟩:=I.tuple hx;#hlen:=r'.length;!len_tuple pl (by grind) ⟨.int xs.length,H,I.tok _,⟨_,by simp only[w2k];rw[hlen]⟩,q⟩
 |_=>!(show False from e).elim
end
structure ObjM(h:Heap)(x dx C:Addr)(mA:Str->Option Value):Prop where
 obj:h.get? x=some (PySem.W.instObj C dx)
 ns:h.Ns1 dx mA
 ne:dx≠x
tm RelO.some_of{v:V}{o:Option Value}(r:RelO (some v) o):∃u,o=some u/\RelV v u:=by
 cases o with
 |none=>!(show False from r).elim
 |some u=>!⟨u,rfl,r⟩
structure Cls(K:PySem.W.Frag)(C:Addr):Prop where
 pg:PySem.W.plainGet K C Str.empty=true
 hd:PySem.W.hasDictIn K C=true
 po:PySem.W.plainOver K C=true
 sa:findIn K (.ref C) "__setattr__"=some (some (.builtin "object.__setattr__"))
structure Con(K:PySem.W.Frag)(C:Addr)(f:Str)(v:V)(u:Value):Prop where
 at_:findIn K (.ref C) f=some (some u)
 rel:RelV v u
 get:specialIn K u "__get__"=some none
 cp:PySem.W.copiedNames.contains f=false
structure Meth(K:PySem.W.Frag)(C:Addr)(m:Str)(f:Addr):Prop where
 at_:findIn K (.ref C) m=some (some (.ref f))
 fn:PySem.W.isFn K (.ref f)=true
 kp:keepIn K (.ref f)=true
section
variable{Q:Value->Shared->Prop}{c:Value}{b:Bool}
inductive TyOf(K:PySem.W.Frag)(H:Hp):V->Value->Prop where
 |non:TyOf K H .non (.type "NoneType")
 |bl (x:Bool):TyOf K H (.bl x) (.type "bool")
 |int (i:Int):TyOf K H (.int i) (.type "int")
 |str (x:Str):TyOf K H (.str x) (.type "str")
 |flt (x:UInt64):TyOf K H (.flt x) (.type "float")
 |lst {a:Addr} {xs:List V} (e:H a=some (.lst xs)):TyOf K H (.ref a) (.type "list")
 |frz {a:Addr} {o:Obj} {xs:List V} (e:H a=some (.frz o (.lst xs))):TyOf K H (.ref a) (.type "list")
 |tup {a:Addr} {xs:List V} (e:H a=some (.tup xs)):TyOf K H (.ref a) (.type "tuple")
 |dK {a:Addr} {kvs:List (Key×V)} (e:H a=some (.dK kvs)):TyOf K H (.ref a) (.type "dict")
 |dT {a:Addr} {sh:Sh} {kvs:List (Kx×V)} {kas:List Addr} (e:H a=some (.dT sh kvs kas)):TyOf K H (.ref a) (.type "dict")
 |ins {a C dx:Addr} {fs:List (Str×V)} (e:H a=some (.ins C dx fs)) (cl:Cls K C) (ha:findIn K (.ref C) "__class__"=some (some (.builtin "object.__class__")))
   (hn:specialIn K (.builtin "object.__class__") "__get__"=some (some (.builtin "getset_descriptor.__get__"))) (htk:takesIn K (.builtin "object.__class__")=some true)
   (hm:PySem.W.mroIn K C (.type "object")=some true):TyOf K H (.ref a) (.ref C)
end
structure Room(k:Nat)(A:Around):Prop where
 hd:A.handled=none
 dp:A.depth+3*k+5<recursionLimit
 un:A.units+16*k+200<cLine
 gd:A.guards=some []
tm Room.deeper{k:Nat}(r:Room (k+1) A)(env:Env):Room k (A.deeper env):=
 ⟨r.hd,by #:=r.dp;show A.depth+1+3*k+5<_;omega,by #:=r.un;show A.units+3+16*k+200<_;omega,r.gd⟩
tm Room.depth{k:Nat}(r:Room k A):A.depth<recursionLimit:=by #:=r.dp;omega
nD tNil:TA:=λ_ H Q=>Q [] H
nD tCons(ta:TE)(tr:TA):TA:=λσ H Q=>ta σ H λx H1=>tr σ H1 λxs H2=>Q (x::xs) H2
tm x1x:PA X [] tNil:=λ_ _ _ _ H Q I h=>Calls.spliced_nil ⟨[],H,I,.nil,h⟩
tm q5c(ha:PE X e te)(hr:PA X es t)(hs:starEach (e::es) X.env=(false,eval e X.env)::starEach es X.env:=by rfl):PA X (e::es) (tCons te t):=by
 intro pos pins s σ H Q I h;rw[hs];show wpAny _ _ (spliced ((false,eval e X.env)::backTo pos (starEach es X.env))) _ _ s;rF Calls.spliced_cons (thn (ha pins s σ H _ I h) λu s1 ⟨x,H1,I1,r1,q1⟩=>?_)
 !thn (hr pos pins s1 σ H1 _ I1 q1) λus s2 ⟨xs,H2,I2,r2,q2⟩=>⟨x::xs,H2,I2,.cons r1 r2,q2⟩
nD tTup(t:TA):TE:=λσ H Q=>t σ H λxs H1=>xs.length<=sizeLine/\∀p,H1 p=none->Q (.ref p) (upd H1 p (.tup xs))
nD tLst(t:TA):TE:=λσ H Q=>t σ H λxs H1=>xs.length<=sizeLine/\∀p,H1 p=none->Q (.ref p) (upd H1 p (.lst xs))
tm z27{x1}(h:PA X es t):PE X (.Tuple es x1 pos) (tTup t):=by
 intro pins s σ H Q I hq;rF wpAny_Tuple_spliced (thn (h pos pins s σ H _ I hq) λus s1 ⟨xs,H1,I1,r,z,q⟩=>⟨by rw[<- r.length];!z,?_⟩)
 #hf:H1 s1.heap.objs.size=none:=I1.hok.fresh (w0b _);rF⟨.ref s1.heap.objs.size,upd H1 s1.heap.objs.size (.tup xs),I1.laid (t':=s1.toks) (λb u e=>Heap.get?_push_of_some _ e) (w0b _) ?_,rfl,q _ hf⟩
 !⟨z,us,r,⟨_,Heap.get?_push_size _ rfl,rfl,_,rfl⟩,⟨_,Heap.get?_push_size _ rfl,rfl⟩⟩
tm z28(h:PA X es t):PE X (.List es pos) (tLst t):=by
 intro pins s σ H Q I hq;rF wpAny_List_spliced (thn (h pos pins s σ H _ I hq) λus s1 ⟨xs,H1,I1,r,z,q⟩=>⟨by rw[<- r.length];!z,?_⟩)
 #hf:H1 s1.heap.objs.size=none:=I1.hok.fresh (w0b _);rF⟨.ref s1.heap.objs.size,upd H1 s1.heap.objs.size (.lst xs),I1.laid (t':=s1.toks) (λb u e=>Heap.get?_push_of_some _ e) (w0b _) ?_,rfl,q _ hf⟩
 !⟨z,us,0,r,Heap.get?_push_size _ rfl⟩
abbrev Sp:=List V->Hp->VK->XK->Prop
variable{sp:Sp}
abbrev CXT:=List Env->Hp->Shared->XK->Value->Shared->Prop
variable{CX:CXT}
structure Env0(P:Program)(w:World)(K:PySem.W.Frag)(mg:Str->Option Value)(base:Heap)(A:Around)(outer:List Env)(s:Shared)(H:Hp):Prop where
 frames:A.frames=some outer
 mod:Mod K mg base
 bs:∀b o,base.get? b=some o->s.heap.get? b=some o/\H b=none
 bsz:base.objs.size<=s.heap.objs.size
 funs:s.heap.FunFrames base outer
 frf:∀b∈frs outer,H b=none
 hok:HOk P w H s.heap
 bare:AllBare s.gens
 tab:TabOk K H
nD CE(outer:List Env)(P:Program)(w:World)(H:Hp)(s:Shared)(Q:VK)(u:Value)(s':Shared):Prop:=
 ∃v H',s'.os=s.os/\AllBare s'.gens/\Un (frs outer) [] H H' s.heap s'.heap/\HOk P w H' s'.heap/\RelV v u/\Q v H'
nD CR(CX:CXT)(outer:List Env)(P:Program)(w:World)(H:Hp)(s:Shared)(Q:VK)(E:XK)(r:Result)(s':Shared):Prop:=
 match r with
 |.ok (.ret u)=>CE outer P w H s Q u s'
 |.ok _=>False
 |.error e=>CX outer H s E e s'
structure FnOk(P:Program)(w:World)(K:PySem.W.Frag)(mg:Str->Option Value)(base:Heap)(CX:CXT)(k:Nat)(f:Addr)(fd:FuncData)(ps:List Str)(sp:Sp):Prop where
 len:∀vs H Q E,sp vs H Q E->vs.length=ps.length
 run:∀(A:Around)(outer:List Env)(s:Shared)(H:Hp)(args:Args)(us:List Value)(vs:List V)(Q:VK)(E:XK),Room k A->Env0 P w K mg base A outer s H->BindsTo s fd args (ps.zip us)->Vals vs us->sp vs H Q E ->
  codeAny (model P w) A (.call (.ref f) args) (CR CX outer P w H s Q E) s
tm FnOk.imp{k:Nat}{f:Addr}{sp':Sp}(F:FnOk P w K mg base CX k f fd ps sp)
  (h:∀vs H Q E,sp' vs H Q E->sp vs H Q E):FnOk P w K mg base CX k f fd ps sp':=
 ⟨λvs H Q E q=>F.len vs H Q E (h _ _ _ _ q),λA outer s H args us vs Q E hr he hb hv hs=>F.run A outer s H args us vs Q E hr he hb hv (h _ _ _ _ hs)⟩
section
variable{s':Shared}
tm Inv.env0(I:Inv X pins σ H s):Env0 X.prog X.w X.K X.mg X.base X.A X.stack s H:=
 ⟨I.ok.frames,I.ok.mod,I.bs,w0v I.ok.bsz I.sz,I.stack,I.stkFree,I.hok,I.bare,I.ok.tab.un I.base⟩
tm Inv.after{Q:VK}(I:Inv X pins σ H s)(h:CE X.stack X.prog X.w H s Q u s'):EP X pins σ Q u s':=by
 ~⟨v,H',os,bare,un,hok,r,q⟩:=h;~⟨hh,g,d,t,os'⟩:=s';obtain rfl:os'=s.os:=os;!⟨v,H',I.call (h':=hh) (g':=g) (d':=d) (t':=t) (ch:=[]) un hok bare (λb z=>absurd z (by simp)),r,q⟩
end
nD Binds(K:PySem.W.Frag)(fd:FuncData)(ps:List Str)(ds:List Value):Prop:=
 ∀(s:Shared)(us:List Value),K.In s.heap->(us++ds).length=ps.length->BindsTo s fd ⟨us,[]⟩ (ps.zip (us++ds))
tm Binds.all(h:∀us:List Value,us.length=ps.length->bindArgs fd ⟨us,[]⟩=pure (ps.zip us)):Binds K fd ps []:=λs us _ hl=>by
 grind [BindsTo.of_eq]
section
variable{k:Nat}{f C:Addr}{dvs:List V}{ds:List Value}{E:XK}{m:Str}{apos:Pos}{o:Expr}
structure Mk(K:PySem.W.Frag)(C f:Addr):Prop where
 makes:PySem.W.makesIn K C=true
 init:findIn K (.ref C) "__init__"=some (some (.ref f))
 fn:PySem.W.isFn K (.ref f)=true
 kp:keepIn K (.ref C)=true
end
section
variable{k:Nat}{f C:Addr}{ks:List Str}{E:XK}{m:Str}{apos kpos:Pos}{o:Expr}{kws:List Keyword}{tk:TA}{nm:Option Str}
structure KBinds(K:PySem.W.Frag)(fd:FuncData)(ps ks:List Str)(g:List Value->List Value->List Value)(gV:List V->List V->List V):Prop where
 to:∀(s:Shared)(us ws:List Value),K.In s.heap->(g us ws).length=ps.length->BindsTo s fd ⟨us,ks.zip ws⟩ (ps.zip (g us ws))
 rel:∀{vs:List V}{us:List Value}{zs:List V}{ws:List Value},Vals vs us->Vals zs ws->Vals (gV vs zs) (g us ws)
variable{g:List Value->List Value->List Value}{gV:List V->List V->List V}
end
structure FnScope(N P:List Str)(sc:Scope):Prop where
 kind:sc.kind=.function
 co:sc.isCoroutine=false
 gen:sc.isGenerator=false
 nd:N.Nodup
 pre:N.take P.length=P
 par:∀x∈P,sc.names.lookup x=some .local\/sc.names.lookup x=some .cell
 nofree:∀y∈sc.names,y.2≠.free
tm x3q{kindOf:Str->Option NameKind}:∀{binds:List (Str×Value)}{m:Str->Option Value},(∀v,(x,v)∉binds)->bindL kindOf binds m x=m x
 |[],_,_=>rfl
 |(n,v)::r,m,h=>by
  unfold bindL;rw[x3q λw hw=>h w (w0e _ hw)]
  split
  all_goals grind
tm x3r{kindOf:Str->Option NameKind}:∀{binds:List (Str×Value)}{m:Str->Option Value},(∀v,(x,v)∉binds)->bindC kindOf binds m x=m x
 |[],_,_=>rfl
 |(n,v)::r,m,h=>by
  unfold bindC;rw[x3r λw hw=>h w (w0e _ hw)]
  split
  all_goals grind
tm x3s{kindOf:Str->Option NameKind}{x:Str}{v:Value}:∀{P:List Str}{vs:List Value}{i:Nat}{m:Str->Option Value},P.Nodup->P[i]?=some x->vs[i]?=some v->kindOf x=some .local ->
  bindL kindOf (P.zip vs) m x=some v
 |[],_,_,_,_,h,_,_=>by simp at h
 |_::_,[],_,_,_,_,h,_=>by simp at h
 |p::P,w::vs,0,m,nd,h1,h2,hk=>by
  simp at h1 h2;subst h1;subst h2;show bindL kindOf ((p,w)::P.zip vs) m p=_;unfold bindL;rw[x3q λv hv=>(w1v.mp nd).1 (w3w hv).1,if_pos hk]
  simp
 |p::P,w::vs,i+1,m,nd,h1,h2,hk=>by
  show bindL kindOf ((p,w)::P.zip vs) m x=_;unfold bindL;!x3s (i:=i) (w1v.mp nd).2 (by simpa using h1) (by simpa using h2) hk
tm x3t{kindOf:Str->Option NameKind}{x:Str}{v:Value}:∀{P:List Str}{vs:List Value}{i:Nat}{m:Str->Option Value},P.Nodup->P[i]?=some x->vs[i]?=some v->kindOf x≠some .local ->
  bindC kindOf (P.zip vs) m x=some v
 |[],_,_,_,_,h,_,_=>by simp at h
 |_::_,[],_,_,_,_,h,_=>by simp at h
 |p::P,w::vs,0,m,nd,h1,h2,hk=>by
  simp at h1 h2;subst h1;subst h2;show bindC kindOf ((p,w)::P.zip vs) m p=_;unfold bindC;rw[x3r λv hv=>(w1v.mp nd).1 (w3w hv).1,if_neg hk]
  simp
 |p::P,w::vs,i+1,m,nd,h1,h2,hk=>by
  show bindC kindOf ((p,w)::P.zip vs) m x=_;unfold bindC;!x3t (i:=i) (w1v.mp nd).2 (by simpa using h1) (by simpa using h2) hk
nD start(N:List Str)(vs:List V):St:=vs.map some++List.replicate (N.length-vs.length) none
nD cxOf(CX:CXT)(P:Program)(w:World)(K:PySem.W.Frag)(mg:Str->Option Value)(base:Heap)(N:List Str)(qual:Str)(scope:Scope)(f:Addr)(cd:Value)(A:Around)(outer:List Env)(s:Shared)(H:Hp)(E:XK):Cx where
 prog:=P
 w:=w
 K:=K
 mg:=mg
 base:=base
 A:=A.deeper (envOfC qual scope s.heap.objs.size f cd)
 N:=N
 s₀:=s
 H₀:=H
 env:=envOfC qual scope s.heap.objs.size f cd
 outer:=outer
 stack:=envOfC qual scope s.heap.objs.size f cd::outer
 ex:=[]
 calm:=true
 fn:=λ_=>true
 pn:=[]
 xe:=λe s'=>wpAny (model P w) (A.deeper (envOfC qual scope s.heap.objs.size f cd)) (leaving (envOfC qual scope s.heap.objs.size f cd) e) (λ_ s''=>CX outer H s E e s'') (λe' s''=>CX outer H s E e' s'') s'
tm x5o{sc:Scope}{n:Nat}(h:sc.names.lookup x=some .cell):∃c,(cellsFrom n sc.names []).lookup x=some c:=by
 #q:=PySem.W.cellsFrom_some sc.names n [] (.inl h);!w3f.mp q
tm y0v{qual:Str}{scope:Scope}{f:Addr}{cd:Value}{outer:List Env}{s1:Shared}{E:XK}{vs:List V}
  (S:FnScope N ps scope)(hd:A.handled=none)(e0:Env0 P w K mg base A outer s H)(hl:vs.length=ps.length)(r:Vals vs us)
  (x:InCallC s s.heap.objs.size (bindL (envOfC qual scope s.heap.objs.size f cd).kindOf (ps.zip us) λ_=>none) (cellsFrom (s.heap.objs.size+1) scope.names []) (bindC (envOfC qual scope s.heap.objs.size f cd).kindOf (ps.zip us) λ_=>none) s1):
  Inv (cxOf CX P w K mg base N qual scope f cd A outer s H E) [] (start N vs) H s1:=by
 #hpl:ps.length<=N.length:=by #:=congrArg List.length S.pre;grind
 ~⟨h1,tk,rfl,hk⟩:=x.done;#noA:∀b:Addr,b∉(cxOf CX P w K mg base N qual scope f cd A outer s H E).ex:=λb z=>absurd (show b∈([]:List Addr)from z) (by simp)
 rF⟨⟨e0.mod,S.kind,rfl,rfl,w0b _,λy z c h1 h2=>?_,λy hy=>?_,λy c _ h=>?_,λ_=>hd,Around.frames_deeper e0.frames,.inr ⟨rfl,rfl⟩,λb z=>absurd z (noA b),e0.bs,e0.bsz,λb _ _=>noA b,λb z=>absurd z (noA b),e0.funs,e0.frf,e0.tab⟩,
  rfl,e0.bare,Un.kept hk,⟨_,x.toInCall.ns,λi y v h1 h2 h3=>?_⟩,λy c h=>⟨_,x.cell y c h⟩,e0.hok.fresh (w0b _),λy c h=>?_,λp hp=>absurd (show p∈([]:List (Addr×Obj))from hp) (by simp),e0.hok.kept hk,?_⟩
 ·!name_of_addr x.apart (PySem.mem_of_lookup h1) (PySem.mem_of_lookup h2)
 ·#hy:scope.names.lookup y=some .cell\/scope.names.lookup y=some .free:=hy;rcases hy with hy|hy
  ·!x5o hy
  ·!absurd rfl (S.nofree _ (PySem.mem_of_lookup hy))
 ·!w5m (x.above y c (PySem.mem_of_lookup h))
 ·#hi:i<vs.length:=by
   grind [start]
  #ha:vs[i]?=some v:=by
   grind [start]
  ~⟨u,hu,rv⟩:=r.get ha
  #hp:ps[i]?=some y:=by
   rw[<- S.pre,List.getElem?_take_of_lt oM];!h1
  #ndP:ps.Nodup:=by rw[<- S.pre];!S.nd.sublist (w4i _ _)
  rF⟨u,rv,?_⟩;rcases S.par y (w1m hp)with k|k
  ·!.inl ⟨k,x3s ndP hp hu k⟩
  ·~⟨c,e⟩:=x5o (n:=s.heap.objs.size+1) k;rF .inr ⟨.inl k,c,e,?_⟩;#q:=x.cell y c e;rw[x3t ndP hp hu (by show scope.names.lookup y≠_;rw[k];decide)]at q;!q
 ·!e0.hok.fresh (w5m (x.above y c (PySem.mem_of_lookup h)))
 ·unfold start;show _=N.length
  grind
tm z7c{k:Nat}{f:Addr}{name qual:Str}{params:Arguments}{body:List Stmt}{scope:Scope}{dV kV doc pm cdv ct oc:Value}{an od:Option Addr}
  {osl:Array (Option Value)}(lk:K.lookup f=some ⟨oc,od,.func (PySem.W.fnOf name qual params body scope dV kV doc pm an cdv ct),osl⟩)(hcd:PySem.W.codeIn K cdv qual=true)(S:FnScope N ps scope)
  (len:∀vs H Q E,sp vs H Q E->vs.length=ps.length)
  (hbody:∀(A:Around)(outer:List Env)(s:Shared)(H:Hp)(vs:List V)(Q:VK)(E:XK),Room k (A.deeper (envOfC qual scope s.heap.objs.size f cdv))->sp vs H Q E ->
   ∃t,PSs (cxOf CX P w K mg base N qual scope f cdv A outer s H E) body t/\t {nx:=λ_ H'=>Q .non H',rt:=Q} (start N vs) H):
  FnOk P w K mg base CX (k+1) f (PySem.W.fnOf name qual params body scope dV kV doc pm an cdv ct) ps sp:=by
 rF⟨len,λA outer s H args us vs Q E hr e0 hb r hsp=>?_⟩
 #hl:=len _ _ _ _ hsp;#KX:K.In s.heap:=e0.mod.kin.keeps λb o e=>(e0.bs b o e).1
 #lim:s.heap.NoLimit:=e0.mod.nolimit.keeps λb o e=>(e0.bs b o e).1
 #hkind:∀y∈ps.zip us,scope.names.lookup y.1=some .local\/(scope.names.lookup y.1=some .cell/\((cellsFrom (s.heap.objs.size+1) scope.names []).lookup y.1).isSome=true):=fun⟨n,v⟩ hy=>by
  rcases S.par n (w3w hy).1 with q|q
  all_goals grind [W.cellsFrom_some]
 rF codeAny_call_function hr.depth (KX _ _ lk) rfl S.co S.gen rfl (PySem.W.codeRec_of KX hcd) (hb _ _ _ _ ?_)
 rF wpAny_newFunctionEnv_cells S.kind hkind λenv he s1 x=>?_
 subst he;rF⟨lim.keeps x.toInCall.keep,codeAny_func ?_⟩
 ~⟨t,ht,hq⟩:=hbody A outer s H vs Q E (hr.deeper _) hsp;#I:Inv (cxOf CX P w K mg base N qual scope f cdv A outer s H E) [] (start N vs) H s1:=y0v S hr.hd e0 hl r x;rF wpAny_mono (ht [] s1 (start N vs) H _ I hq) (λfl s' hs=>?_) λe s' hs=>hs
 #fin:∀{σ':St}{H':Hp}{v:V}{u:Value},Inv (cxOf CX P w K mg base N qual scope f cdv A outer s H E) [] σ' H' s'->RelV v u->Q v H'->CE outer P w H s Q u s':=
  λ{σ' H' v u} J rv q=>⟨v,H',J.os,J.bare,J.base,J.hok,rv,q⟩
 cases fl with
 |ret u=>
  ~⟨v,σ',H',J,rv,q⟩:=hs;!fin J rv q
 |next=>
  ~⟨σ',H',J,q⟩:=hs;!fin (v:=V.non) (u:=Value.none) J rfl q
 |brk=>
  ~⟨_,_,_,q⟩:=hs;!False.elim q
 |cont=>
  ~⟨_,_,_,q⟩:=hs;!False.elim q
section
variable{id T:String}{r:List V->Hp->VK->Prop}
nD tCB(r:List V->Hp->VK->Prop)(t:TA):TE:=λσ H Q=>t σ H λvs H1=>r vs H1 Q
tm x1b(hc:CallR X (.builtin id) r)(hg:Gl X x)(hm:X.mg x=none)(hv:bootBuiltins x=some (.builtin id))(ha:PA X (e::es) t)(hn:x≠"__name__":=by decide)(hdb:(x==("__debug__":Str))=false:=by decide)
  (he:starEach (e::es) X.env=(false,eval e X.env)::starEach es X.env:=by rfl)(hpl:(backTo pos (starEach es X.env)).any (·.1)=false:=by rfl):PE X (.Call (.Name x p) (e::es) [] pos) (tCB r t):=by
 intro pins s σ H Q I h;rF wpAny_Call_Name_kw (q30 I hg hm hv ?_ hn hdb);!PyProof.Rows.callWith_builtin1 (thn (ha pos pins s σ H _ I h) λus s1 ⟨vs,H1,I1,r1,q1⟩=>hc pins s1 σ H1 vs us Q I1 r1 q1) he hpl
tm x3u(hc:CallR X (.type T) r)(hg:Gl X x)(hm:X.mg x=none)(hv:bootBuiltins x=some (.type T))(ha:PA X (e::es) t)(hn:x≠"__name__":=by decide)(hdb:(x==("__debug__":Str))=false:=by decide)
  (he:starEach (e::es) X.env=(false,eval e X.env)::starEach es X.env:=by rfl)(hpl:(backTo pos (starEach es X.env)).any (·.1)=false:=by rfl):PE X (.Call (.Name x p) (e::es) [] pos) (tCB r t):=by
 intro pins s σ H Q I h;rF wpAny_Call_Name_kw (q30 I hg hm hv ?_ hn hdb);!PyProof.Rows.callWith_type1 (thn (ha pos pins s σ H _ I h) λus s1 ⟨vs,H1,I1,r1,q1⟩=>hc pins s1 σ H1 vs us Q I1 r1 q1) he hpl
end
end L2
namespace HT
open PySem PyProof.Rows
section
variable{prog:Program}{w:World}{A:Around}{E:Value->Shared->Prop}{s:Shared}
tm cat_tup{t b:Addr}{vs ws:List Value}{Q:Value->Shared->Prop}(ht:IsTup s.heap t vs.toArray)(hb:IsTup s.heap b ws.toArray)(hv:vs≠[])
  (h1:ws=[]->Q (.ref t) s)(h2:ws≠[]->Q (.ref s.heap.objs.size) {s with heap:=s.heap.push {cls:=.type "tuple", data:=.seq (vs++ws).toArray}})
  (hsz:vs.length+ws.length<=sizeLine):wpAny (model prog w) A (binaryOp .Add (.ref t) (.ref b)) Q E s:=by
 ~⟨⟨cls,dd,data,sl⟩,ho,hc,n,hd⟩:=id ht;~⟨⟨cls2,dd2,data2,sl2⟩,ho2,hc2,n2,hd2⟩:=id hb;simp only at hc hd hc2 hd2;subst hc hd hc2 hd2;#e:vs.toArray++ws.toArray=(vs++ws).toArray:=by simp
 by_cases hw:ws=[]
 ·!concat_meets ⟨_,ho,rfl⟩ ⟨_,ho2,rfl⟩ noFill_tuple_add seq_tuple_add PySem.F.slot_tuple_add PySem.F.entry_tuple_add (PySem.F.args_tuple_add_2 _ _)
   (tuple_addW1 t b vs.toArray ws.toArray n n2 dd dd2 sl sl2 (by simpa using hv) (by simp[hw])) ⟨ho,ho2,h1 hw⟩
 ·rF concat_meets ⟨_,ho,rfl⟩ ⟨_,ho2,rfl⟩ noFill_tuple_add seq_tuple_add PySem.F.slot_tuple_add PySem.F.entry_tuple_add (PySem.F.args_tuple_add_2 _ _)
   (tuple_addW2 t b vs.toArray ws.toArray n n2 dd dd2 sl sl2 (by simpa using hv) (by simpa using hw) (by grind)) ⟨ho,ho2,?_⟩
  rw[e];!h2 hw
nD sIx(n d:Nat):Option Int->Nat
 |none=>d
 |some v=>if v<0 then(v+(n:Int)).toNat else min v.toNat n
tm sIx_none(n d:Nat):sIx n d none=d:=rfl
tm sIx_nat(n d k:Nat):sIx n d (some (k:Int))=min k n:=by
 show(if(k:Int)<0 then((k:Int)+(n:Int)).toNat else min (k:Int).toNat n)=min k n
 grind
tm z29(n d:Nat)(hd:d<=n)(o:Option Int):sIx n d o<=n:=by
 cases o with
 |none=>!hd
 |some v=>
  show(if v<0 then(v+(n:Int)).toNat else min v.toNat n)<=n
  grind
tm x74(v:Int)(n d:Nat):(if v<0 then max (v+(n:Int)) 0 else min v (n:Int))=((sIx n d (some v):Nat):Int):=by
 show(if v<0 then max (v+(n:Int)) 0 else min v (n:Int))=(((if v<0 then(v+(n:Int)).toNat else min v.toNat n):Nat):Int)
 grind
tm x9g(lo hi:Option Int)(n:Nat):Builtin.Slice.sliceAdjust lo hi 1 (n:Int)=(((sIx n 0 lo:Nat):Int),((sIx n n hi:Nat):Int)):=by
 #h1:¬((1:Int)<0):=by omega
 unfold Builtin.Slice.sliceAdjust;simp only[h1,if_false];rF Prod.ext ?_ ?_
 ·cases lo with
  |none=>rfl
  |some v=>!x74 v n 0
 ·cases hi with
  |none=>rfl
  |some v=>!x74 v n n
tm x9h(i j:Nat):Builtin.Slice.slicePlaces (i:Int) (j:Int) 1=j-i:=by
 unfold Builtin.Slice.slicePlaces
 grind
tm x9i{v:Value}{o:Option Int}{Q:Option Int->Shared->Prop}(p:IsPart v o)(h:Q o s):wpAny (model prog w) A (Builtin.Slice.slicePartIndex v) Q E s:=by
 cases p with
 |none=>!slicePart_none h
 |int i t=>!slicePart_int h
tm q6r{sl:Addr}{vl vu:Value}{lo hi:Option Int}{n:Nat}{Q:Int×Int×Nat->Shared->Prop}(hs:s.heap.IsSliceOf sl vl vu .none)(pl:IsPart vl lo)(pu:IsPart vu hi)
  (h:Q (((sIx n 0 lo:Nat):Int),1,sIx n n hi-sIx n 0 lo) s):wpAny (model prog w) A (Builtin.Slice.sliceApplied (.ref sl) (pure (n:Int))) Q E s:=by
 ~⟨os,hos,hcs,hds⟩:=id hs;unfold Builtin.Slice.sliceApplied Builtin.Slice.sliceFields;rF wpAny_bind (wpAny_bind (wpAny_field hos hds (x:=vl) rfl (wpAny_bind (wpAny_field hos hds (x:=vu) rfl (wpAny_bind (wpAny_field hos hds (x:=.none) rfl (wpAny_pure ?_)))))));rF wpAny_bind (slicePart_none ?_);show wpAny _ _ (if((1:Int)==0)=true then _ else _) _ _ s;rw[if_neg (by decide)]
 grind [wpAny_bind,x9i,wpAny_pure,x9g,x9h]
tm y4a(xs:Array Value)(i k:Nat):((List.range k).filterMap fun(m:Nat)=>xs[((i:Int)+(m:Int)*1).toNat]?).toArray=((xs.toList.drop i).take k).toArray:=by
 #e:(fun(m:Nat)=>xs[((i:Int)+(m:Int)*1).toNat]?)=λm=>xs[i+m]?:=by
  grind
 rw[e];#:=pick_run xs i k;rw[List.filterMap_map]at this;#e2:((λx=>xs[x]?) ∘ λx=>i+x)=λm=>xs[i+m]?:=rfl
 grind
tm getItem_tuple_cut{t sl:Addr}{items:Array Value}{vl vu:Value}{lo hi:Option Int}{Q:Value->Shared->Prop}(ht:IsTup s.heap t items)(hs:s.heap.IsSliceOf sl vl vu .none)(pl:IsPart vl lo)(pu:IsPart vu hi)
  (hw:¬(sIx items.size 0 lo=0/\sIx items.size items.size hi=items.size))
  (h:Q (.ref s.heap.objs.size) {s with heap:=s.heap.push {cls:=.type "tuple", data:=.seq ((items.toList.drop (sIx items.size 0 lo)).take (sIx items.size items.size hi-sIx items.size 0 lo)).toArray}})
  (hsz:items.size<=sizeLine):wpAny (model prog w) A (getItem (.ref t) (.ref sl)) Q E s:=by
 #htake:sizeOk (.seq ((items.toList.drop (sIx items.size 0 lo)).take (sIx items.size items.size hi-sIx items.size 0 lo)).toArray):=by
  show((items.toList.drop (sIx items.size 0 lo)).take (sIx items.size items.size hi-sIx items.size 0 lo)).toArray.size<=sizeLine
  grind
 #hj:sIx items.size items.size hi<=items.size:=z29 _ _ (w0b _) hi;~⟨os,hos,hcs,hds⟩:=id hs;#hTs:s.TypeIs (.ref sl) "slice":=⟨os,hos,hcs⟩;unfold getItem;try with_reducible rF wpAny_holding ?_
 first|rF wpAny_bind (wpAny_pure ?_)|skip
 rF wpAny_bind (wpAny_sequenceKey ht.typeIs (by decide) ?_)
 rF wpAny_bind (wpAny_callSpecial?_slot (name:=Str.ofString "__getitem__") ht.typeIs PyProof.Rows.slot_tuple_getitem
  (wpAny_call_entry PyProof.Rows.slot_tuple_getitem ht.typeIs entry_tuple_getitem ?_ (args_tuple_getitem _ _)))
 show wpAny _ _ (Builtin.Tuple.tupleItemsOf (.ref t) >>= _) _ _ s;rF wpAny_bind (tupleItemsOf_ ht ?_);rF wpAny_bind (wpAny_typeOf hTs ?_);rw[if_pos (by decide)];rF wpAny_bind (q6r hs pl pu ?_)
 #hno:¬((((sIx items.size 0 lo:Nat):Int)==0&&(1:Int)==1&&(sIx items.size items.size hi-sIx items.size 0 lo)==items.size)=true):=by
  grind
 show wpAny _ _ (if(((sIx items.size 0 lo:Nat):Int)==0&&(1:Int)==1&&(sIx items.size items.size hi-sIx items.size 0 lo)==items.size)=true then _ else _) _ _ s;rw[if_neg hno,y4a]
 first
  |!wpAny_bind (m:=Builtin.Tuple.tupleExact _) (wpAny_newObj_type (wpAny_pure ⟨_,rfl,wpAny_pure h⟩) htake)
  |!wpAny_bind (m:=Builtin.Tuple.tupleExact _) (wpAny_newObj_type (wpAny_bind (wpAny_pure (wpAny_pure ⟨_,rfl,wpAny_pure h⟩))) htake)
  |!wpAny_bind (wpAny_bind (m:=Builtin.Tuple.tupleExact _) (wpAny_newObj_type (wpAny_pure (wpAny_pure ⟨_,rfl,wpAny_pure h⟩)) htake))
  |!wpAny_bind (wpAny_bind (m:=Builtin.Tuple.tupleExact _) (wpAny_newObj_type (wpAny_pure ⟨_,rfl,wpAny_pure h⟩) htake))
end
end HT
namespace L2
open PySem PySem.Spec PyProof.Rows
variable{A:Around}{X:Cx}{H:Hp}{pins:List (Addr×Obj)}{xs:List V}{its us:List Value}{n:Nat}{s:Shared}{σ:St}{α:Type}{x:V}{v:Value}
abbrev TO:=St->Hp->(Option Int->Hp->Prop)->Prop
nD PO(X:Cx)(e:Option Expr)(t:TO):Prop:=
 ∀(pins:List (Addr×Obj))(s:Shared)(σ:St)(H:Hp)(Q:Option Int->Hp->Prop),Inv X pins σ H s->t σ H Q ->
  wpAny (model X.prog X.w) X.A (evalPart e X.env) (λu s'=>∃o H',Inv X pins σ H' s'/\IsPart u o/\Q o H') X.xe s
nD tNoPart:TO:=λ_ H Q=>Q none H
nD tPart(t:TE):TO:=λσ H Q=>t σ H λx H1=>∃i,x=.int i/\Q (some i) H1
section
variable{e:Expr}{te:TE}{lo hi:Option Expr}{tl th:TO}{pos p2:Pos}
tm y73:PO X none tNoPart:=by
 intro pins s σ H Q I h;rw[evalPart_none];!wpAny_pure ⟨none,H,I,.none,h⟩
tm y74(h:PE X e te):PO X (some e) (tPart te):=by
 intro pins s σ H Q I hw;rw[evalPart_some];rF thn (h pins s σ H _ I hw) λu s1 ⟨x,H1,I1,r1,q1⟩=>?_
 ~⟨i,rfl,q⟩:=q1;~⟨t,rfl⟩:=r1;!⟨some i,H1,I1,.int i t,q⟩
nD SlR(X:Cx)(r:V->Option Int->Option Int->Hp->VK->Prop):Prop:=
 ∀(pins:List (Addr×Obj))(s:Shared)(σ:St)(H:Hp)(x:V)(v vl vu:Value)(lo hi:Option Int)(sl:Addr)(Q:VK),Inv X pins σ H s->RelV x v->s.heap.IsSliceOf sl vl vu .none->IsPart vl lo->IsPart vu hi->r x lo hi H Q ->
  ∃T id,typeLookup (.type T) "__getitem__"=pure (some (.builtin id))/\s.TypeIs v T/\wpAny (model X.prog X.w) X.A (getItem v (.ref sl)) (EP X pins σ Q) X.xe s
tm SlR.or{r r':V->Option Int->Option Int->Hp->VK->Prop}(h:SlR X r)(h':SlR X r'):SlR X (λx lo hi H Q=>r x lo hi H Q\/r' x lo hi H Q):=by
 intro pins s σ H x v vl vu lo hi sl Q I rx hs pl pu q;rcases q with q|q
 ·!h pins s σ H x v vl vu lo hi sl Q I rx hs pl pu q
 ·!h' pins s σ H x v vl vu lo hi sl Q I rx hs pl pu q
nD tSl(r:V->Option Int->Option Int->Hp->VK->Prop)(te:TE)(tl th:TO):TE:=λσ H Q=>te σ H λx H1=>tl σ H1 λl H2=>th σ H2 λu H3=>r x l u H3 Q
tm y4b{r:V->Option Int->Option Int->Hp->VK->Prop}(hr:SlR X r)(he:PE X e te)(hl:PO X lo tl)(hu:PO X hi th):PE X (.Subscript e (.Slice lo hi none p2) pos) (tSl r te tl th):=by
 intro pins s σ H Q I h;rF Subscript_ (thn (he pins s σ H _ I h) λv s1 ⟨x,H1,I1,r1,q1⟩=>?_)
 rF wpAny_Slice (thn (hl pins s1 σ H1 _ I1 q1) λvl s2 ⟨l,H2,I2,pl,q2⟩=>thn (hu pins s2 σ H2 _ I2 q2) λvu s3 ⟨u,H3,I3,pu,q3⟩=>?_)
 rw[evalPart_none];rF wpAny_pure ?_;#I4:Inv X pins σ H3 {s3 with heap:=s3.heap.push {cls:=.type "slice", data:=.fields #[vl,vu,.none]}}:=I3.kept (t':=s3.toks) λb ob q=>Heap.get?_push_of_some _ q
 ~⟨T,id,hT,ht,hg⟩:=hr pins {s3 with heap:=s3.heap.push {cls:=.type "slice", data:=.fields #[vl,vu,.none]}} σ H3 x v vl vu l u s3.heap.objs.size Q I4 r1 (Heap.IsSliceOf.new ..) pl pu q3;show wpAny (model X.prog X.w) X.A (subscriptTail e (.Slice lo hi none p2) v (.ref s3.heap.objs.size)) (EP X pins σ Q) X.xe {s3 with heap:=s3.heap.push {cls:=.type "slice", data:=.fields #[vl,vu,.none]}};!tail_any (ops:=[.ref s3.heap.objs.size,v]) ht hT hg (by with_unfolding_all rfl)
nD cutV(xs:List V)(lo hi:Option Int):List V:=(xs.drop (HT.sIx xs.length 0 lo)).take (HT.sIx xs.length xs.length hi-HT.sIx xs.length 0 lo)
tm x0w(xs:List V)(lo hi:Option Int):(cutV xs lo hi).length<=xs.length:=by
 grind [cutV]
nD rSlT(K:PySem.W.Frag):V->Option Int->Option Int->Hp->VK->Prop:=λx lo hi H Q=>∃a xs,x=.ref a/\SqT K H a xs /\
 ¬(HT.sIx xs.length 0 lo=0/\HT.sIx xs.length xs.length hi=xs.length)/\∀p,H p=none->Q (.ref p) (upd H p (.tup (cutV xs lo hi)))
tm z3a:SlR X (rSlT X.K):=by
 intro pins s σ H x v vl vu lo hi sl Q I rx hs pl pu h;~⟨a,xs,rfl,hx,hw,q⟩:=h;@rx;~⟨its,r,ht,hz⟩:=I.tuple hx;#hlen:its.toArray.size=xs.length:=by rw[w2k];!r.length.symm
 rF⟨"tuple", _,PyProof.Rows.slot_tuple_getitem.lookup,ht.typeIs,?_⟩;rF HT.getItem_tuple_cut ht hs pl pu (by rw[hlen];!hw) ?_ (by rw[hlen];!hz);rw[hlen];rF⟨.ref s.heap.objs.size,_,I.laid (t':=s.toks) (o:=.tup (cutV xs lo hi)) (λb ob q=>Heap.get?_push_of_some _ q) (w0b _) ?_,rfl,q _ (I.hok.fresh (w0b _))⟩
 !⟨w0v (x0w xs lo hi) hz,_,(r.drop (HT.sIx xs.length 0 lo)).take (HT.sIx xs.length xs.length hi-HT.sIx xs.length 0 lo),IsTup.new _ _,_,Heap.get?_push_size _ rfl,rfl⟩
nD rCatT(K:PySem.W.Frag):R2:=λx y H Q=>∃a b xs ys,x=.ref a/\y=.ref b/\SqT K H a xs/\SqT K H b ys/\xs≠[]/\xs.length+ys.length<=sizeLine /\
 (ys=[]->Q (.ref a) H)/\(ys≠[]->∀p,H p=none->Q (.ref p) (upd H p (.tup (xs++ys))))
tm Vals.nil_iff(r:Vals xs us):us=[]↔xs=[]:=by
 cases r with
 |nil=>simp
 |cons _ _=>simp
tm op_catT:OpR X (binaryOp .Add) (rCatT X.K):=by
 intro pins s σ H x y v u Q I rx ry h;~⟨a,b,xs,ys,rfl,rfl,ha,hb,hx,hz,q1,q2⟩:=h;@rx;@ry;~⟨its,r1,p1,_⟩:=I.tuple ha;~⟨its2,r2,p2,_⟩:=I.tuple hb;rF HT.cat_tup p1 p2 (λz=>hx (r1.nil_iff.mp z)) (λz=>⟨.ref a,H,I,rfl,q1 (r2.nil_iff.mp z)⟩) (λz=>?_) (by grind [Vals.length])
 rF⟨.ref s.heap.objs.size,_,I.laid (t':=s.toks) (o:=.tup (xs++ys)) (λb ob q=>Heap.get?_push_of_some _ q) (w0b _) ?_,rfl,q2 (λw=>z (r2.nil_iff.mpr w)) _ (I.hok.fresh (w0b _))⟩
 !⟨by grind,_,r1.append r2,IsTup.new _ _,_,Heap.get?_push_size _ rfl,rfl⟩
end
nD ixN(n:Nat)(i:Int):Option Nat:=if 0<=i then(if i<n then some i.toNat else none)else if -(n:Int)<=i then some (i+n).toNat else none
nD atI(xs:List α)(i:Int):Option α:=(ixN xs.length i).bind λj=>xs[j]?
tm x75{i:Int}{j:Nat}(h:ixN n i=some j):seqIndex? i n=some j/\j<n/\-(n:Int)<=i/\i<n:=by
 unfold ixN at h
 by_cases h0:0<=i
 ·rw[if_pos h0]at h
  by_cases h1:i<n
  ·rw[if_pos h1]at h
   grind [seqIndex_of]
  grind
 ·rw[if_neg h0]at h
  by_cases h1:-(n:Int)<=i
  ·rw[if_pos h1]at h
   grind [seqIndex_neg]
  grind
tm x23{xs:List α}{i:Int}{v:α}(h:atI xs i=some v):∃j,seqIndex? i xs.length=some j/\xs[j]?=some v/\j<xs.length/\-(xs.length:Int)<=i/\i<xs.length:=by
 grind [atI,ixN,x75]
tm q4j{xs:List α}{j:Nat}{v:α}(h:xs[j]?=some v):atI xs (j:Int)=some v:=by
 #hj:j<xs.length:=(w0m.mp h).1
 simp_all [ixN,atI]
nD PlainIx(b:Expr):Prop:=∀o i,subscripted b false o i=operate [o,i] (getItem o i)
nD IxR(X:Cx)(r:R2):Prop:=
 ∀(value slice:Expr)(pins:List (Addr×Obj))(s:Shared)(σ:St)(H:Hp)(x y:V)(v u:Value)(Q:VK),Inv X pins σ H s->RelV x v->RelV y u->r x y H Q ->
  subscripted slice false v u=operate [v,u] (getItem v u)->wpAny (model X.prog X.w) X.A (subscriptTail value slice v u) (EP X pins σ Q) X.xe s
nD MtR(X:Cx)(id:String)(r:V->List V->Hp->VK->Prop):Prop:=
 ∀(pins:List (Addr×Obj))(s:Shared)(σ:St)(H:Hp)(x:V)(xs:List V)(v:Value)(us:List Value)(Q:VK),Inv X pins σ H s->RelV x v->Vals xs us->r x xs H Q ->
  wpAny (model X.prog X.w) X.A (call (.builtin id) (v::us)) (EP X pins σ Q) X.xe s
section
variable{a b:Expr}{ta tb:TE}{pos:Pos}
tm IxR.or{r r':R2}(h:IxR X r)(h':IxR X r'):IxR X (λx y H Q=>r x y H Q\/r' x y H Q):=by
 intro value slice pins s σ H x y v u Q I rx ry q hs;rcases q with q|q
 ·!h value slice pins s σ H x y v u Q I rx ry q hs
 ·!h' value slice pins s σ H x y v u Q I rx ry q hs
tm x46{r:R2}(hr:IxR X r)(ha:PE X a ta)(hb:PE X b tb)(hs:PlainIx b):PE X (.Subscript a b pos) (tOp r ta tb):=by
 intro pins s σ H Q I h;!Subscript_ (binT ha hb I h λv u s2 x y H2 I2 rx ry q=>hr a b pins s2 σ H2 x y v u Q I2 rx ry q (hs _ _))
nD rIxL(K:PySem.W.Frag):R2:=λx y H Q=>∃p xs i v,x=.ref p/\y=.int i/\SqL K H p xs/\atI xs i=some v/\Q v H
nD rIxT(K:PySem.W.Frag):R2:=λx y H Q=>∃p xs i v,x=.ref p/\y=.int i/\SqT K H p xs/\atI xs i=some v/\Q v H
nD rIxS:R2:=λx y H Q=>∃z i c,x=.str z/\y=.int i/\z.length<=sizeLine/\atI z.cps.toList i=some c/\Q (.str ⟨#[c]⟩) H
tm ix_list:IxR X (rIxL X.K):=by
 intro value slice pins s σ H x y v u Q I rx ry h hs;~⟨p,xs,i,z,rfl,rfl,hq,he,q⟩:=h;@rx;~⟨t,rfl⟩:=ry;~⟨its,r,pl,hz⟩:=I.list hq;~⟨j,h1,h2,h3,h4,h5⟩:=x23 he;~⟨w,ew,rw'⟩:=r.get h2;#hl:=r.length;#hn:=line63;#fin:EP X pins σ Q w s:=⟨z,H,I,rw',q⟩
 by_cases h0:0<=i
 ·#hj:i.toNat=j:=by
   grind [seqIndex_of]
  !item_listR pl.isList h0 oM (by rw[hj];simpa using ew) fin hs
 ·#hj:(i+(its.toArray.size:Int)).toNat=j:=by
   grind [seqIndex_neg]
  !subscriptTail_builtinR (x:=w) pl.isList.typeIs slot_list_getitem.lookup
   (wpAny_getItem_list_neg (Q:=λr s'=>r=w/\EP X pins σ Q r s') pl.isList oM (by grind) oM (by rw[hj];simpa using ew) ⟨rfl,fin⟩) hs
tm ix_tup:IxR X (rIxT X.K):=by
 intro value slice pins s σ H x y v u Q I rx ry h hs;~⟨p,xs,i,z,rfl,rfl,hq,he,q⟩:=h;@rx;~⟨t,rfl⟩:=ry;~⟨its,r,pl,hz⟩:=I.tuple hq;~⟨j,h1,h2,h3,h4,h5⟩:=x23 he;~⟨w,ew,rw'⟩:=r.get h2;#hl:=r.length;#hn:=line63;#fin:EP X pins σ Q w s:=⟨z,H,I,rw',q⟩
 !subscriptTail_builtinR (x:=w) pl.typeIs slot_tuple_getitem.lookup
  (getItem_tuple (j:=j) (Q:=λr s'=>r=w/\EP X pins σ Q r s') pl oM oM (by grind) (by simpa using ew) ⟨rfl,fin⟩) hs
tm z3b:IxR X rIxS:=by
 intro value slice pins s σ H x y v u Q I rx ry h hs;~⟨z,i,c,rfl,rfl,hz,he,q⟩:=h;~⟨t,rfl⟩:=rx;~⟨t',rfl⟩:=ry;~⟨j,h1,h2,h3,h4,h5⟩:=x23 he;#hl:z.cps.toList.length=z.length:=by simp[Str.length]
 rw[hl]at h1 h4 h5;#hn:=line63
 !tail_any (typeIs_str s z t) slot_str_getitem.lookup (getItem_str (c:=c) (by
  grind) (by rw[h1];simpa using h2) ⟨.str ⟨#[c]⟩,H,I.tok _,⟨_,rfl⟩,q⟩) hs
nD rIx(K:PySem.W.Frag):R2:=λx y H Q=>rIxL K x y H Q\/rIxT K x y H Q\/rIxS x y H Q
tm y0w:IxR X (rIx X.K):=ix_list.or (ix_tup.or z3b)
tm x9j(its:List Value)(n j:Nat)(u:Value):Obj.mapSeq (·.setIfInBounds j u) {cls:=.type "list", data:=.seq its.toArray n}={cls:=.type "list", data:=.seq (its.set j u).toArray n}:=by
 simp[Obj.mapSeq]
tm Inv.lst{p:Addr}(I:Inv X pins σ H s)(h:H p=some (.lst xs)):
  ∃(its:List Value)(n:Nat),Vals xs its/\s.heap.get? p=some {cls:=.type "list", data:=.seq its.toArray n}/\xs.length<=sizeLine:=by
 ~⟨z,its,n,r,e⟩:=I.hok p _ h
 grind
tm Inv.lstUpd{p:Addr}{ys:List V}{its':List Value}{n':Nat}{f:Obj->Obj}(I:Inv X pins σ H s)(h:H p=some (.lst xs))
  (ho:s.heap.get? p=some {cls:=.type "list", data:=.seq its.toArray n})(hf:f {cls:=.type "list", data:=.seq its.toArray n}={cls:=.type "list", data:=.seq its'.toArray n'})(r:Vals ys its')(hz:ys.length<=sizeLine)(t:Nat):
  Inv X pins σ (upd H p (.lst ys)) {s with heap:=s.heap.update p f,toks:=t}:=by
 #e:(s.heap.update p f).get? p=some {cls:=.type "list", data:=.seq its'.toArray n'}:=by
  rw[Heap.get?_update_self f ho (by rw[hf]<;>rfl),hf]
 rF I.write (x:=p) (e:=p) (by rw[h];trivial) (.inl rfl) (λb u hb q=>(Heap.get?_update_other _ _ (Ne.symm hb)).trans q) ⟨_,e⟩ ?_
 !⟨hz,its',n',r,e⟩
nD rSetL:V->V->V->Hp->(Hp->Prop)->Prop:=λo i v H Q=>∃p xs k j,o=.ref p/\i=.int k/\H p=some (.lst xs)/\ixN xs.length k=some j/\Q (upd H p (.lst (xs.set j v)))
tm y4c:PSet X rSetL:=by
 intro pins s σ H o i v ov iv u Q I ro ri rv h;~⟨p,xs,k,j,rfl,rfl,hp,hj,q⟩:=h;@ro;~⟨t,rfl⟩:=ri;~⟨its,n,r,ho,hz⟩:=I.lst hp;~⟨h1,h2,h3,h4⟩:=x75 hj;#hl:=r.length;#hn:=line63
 #I':Inv X pins σ (upd H p (.lst (xs.set j v))) {s with heap:=s.heap.update p (Obj.mapSeq (·.setIfInBounds j u))}:=
  I.lstUpd hp ho (x9j its n j u) (r.set rv j) (by grind) s.toks
 grind [seqIndex_of,W.ki_setAt,seqIndex_neg,W.ki_setBack]
tm x5p(lo hi:Option Int)(n:Nat):(sliceBounds lo hi none n).1=((HT.sIx n 0 lo:Nat):Int)/\(sliceBounds lo hi none n).2.1=((HT.sIx n n hi:Nat):Int)/\(sliceBounds lo hi none n).2.2=1:=by
 rF⟨?_,?_,rfl⟩
 ·cases lo with
  |none=>simp[sliceBounds,HT.sIx]
  |some i=>
   simp only[sliceBounds,HT.sIx,Option.getD_none,show(1:Int)>0 by decide,if_true]
   grind
 ·cases hi with
  |none=>simp[sliceBounds,HT.sIx]
  |some i=>
   simp only[sliceBounds,HT.sIx,Option.getD_none,show(1:Int)>0 by decide,if_true]
   grind
tm x4t(its:List Value)(lo hi:Option Int):slicePick its.toArray lo hi none=((its.drop (HT.sIx its.length 0 lo)).take (HT.sIx its.length its.length hi-HT.sIx its.length 0 lo)).toArray:=by
 ~⟨h1,h2,h3⟩:=x5p lo hi its.toArray.size;unfold slicePick;rw[h1,h2,h3];simp only[sliceRange_one,pick_run,w2k]<;>rfl
nD rSlL(K:PySem.W.Frag):V->Option Int->Option Int->Hp->VK->Prop:=λx lo hi H Q=>∃a xs,x=.ref a/\SqL K H a xs/\∀p,H p=none->Q (.ref p) (upd H p (.lst (cutV xs lo hi)))
tm sl_list:SlR X (rSlL X.K):=by
 intro pins s σ H x v vl vu lo hi sl Q I rx hs pl pu h;~⟨a,xs,rfl,hx,q⟩:=h;@rx;~⟨its,r,ht,hz⟩:=I.list hx;#hlen:=r.length;rF⟨"list", _,slot_list_getitem.lookup,ht.isList.typeIs,?_⟩;rF wpAny_getItem_list_slice ht.isList hs pl pu .none (by simp) ?_ (by grind);rw[x4t,<- hlen];rF⟨.ref s.heap.objs.size,_,I.laid (t':=s.toks) (o:=.lst (cutV xs lo hi)) (λb ob q=>Heap.get?_push_of_some _ q) (w0b _) ?_,rfl,q _ (I.hok.fresh (w0b _))⟩
 !⟨w0v (x0w xs lo hi) hz,_,0,(r.drop (HT.sIx xs.length 0 lo)).take (HT.sIx xs.length xs.length hi-HT.sIx xs.length 0 lo),Heap.get?_push_size _ rfl⟩
nD flatV:V->Bool
 |.non=>true
 |.bl _=>true
 |.int _=>true
 |.str _=>true
 |_=>false
nD eqV:V->V->Bool
 |.non,.non=>true
 |.bl a,.bl b=>a==b
 |.bl a,.int b=>(if a then 1 else 0)==b
 |.int a,.bl b=>a==(if b then 1 else 0)
 |.int a,.int b=>a==b
 |.str a,.str b=>a==b
 |_,_=>false
tm z3c{y:V}{u:Value}(ry:RelV y u)(rx:RelV x v)(fy:flatV y=true)(fx:flatV x=true):SeqAt.EqAt A s u v (eqV y x):=by
 cases y with
 |non=>
  @ry;cases x with
  |non=>@rx;!SeqAt.EqAt.same _
  |bl b=>@rx;!SeqAt.EqAt.none_bool b
  |int b=>~⟨t,rfl⟩:=rx;!SeqAt.EqAt.none_int b t
  |str b=>~⟨t,rfl⟩:=rx;!SeqAt.EqAt.none_str b t
  |_=>!absurd (show false=true from fx) w1j
 |bl a=>
  @ry;cases x with
  |non=>@rx;!SeqAt.EqAt.bool_none a
  |bl b=>@rx;!SeqAt.EqAt.bool_bool a b
  |int b=>~⟨t,rfl⟩:=rx;!SeqAt.EqAt.bool_int a b t
  |str b=>~⟨t,rfl⟩:=rx;!SeqAt.EqAt.bool_str a b t
  |_=>!absurd (show false=true from fx) w1j
 |int a=>
  ~⟨t',rfl⟩:=ry;cases x with
  |non=>@rx;!SeqAt.EqAt.int_none a t'
  |bl b=>@rx;!SeqAt.EqAt.int_bool a t' b
  |int b=>~⟨t,rfl⟩:=rx;!SeqAt.EqAt.int_int a t' b t
  |str b=>~⟨t,rfl⟩:=rx;!SeqAt.EqAt.int_str a t' b t
  |_=>!absurd (show false=true from fx) w1j
 |str a=>
  ~⟨t',rfl⟩:=ry;cases x with
  |non=>@rx;!SeqAt.EqAt.str_none a t'
  |bl b=>@rx;!SeqAt.EqAt.str_bool a t' b
  |int b=>~⟨t,rfl⟩:=rx;!SeqAt.EqAt.str_int a t' b t
  |str b=>~⟨t,rfl⟩:=rx;!SeqAt.EqAt.str_str a t' b t
  |_=>!absurd (show false=true from fx) w1j
 |_=>!absurd (show false=true from fy) w1j
nD eqU(x:V)(u:Value):Bool:=match u with
 |.none=>eqV .non x
 |.bool b=>eqV (.bl b) x
 |.int i _=>eqV (.int i) x
 |.str z _=>eqV (.str z) x
 |_=>false
tm y0x{y:V}{u:Value}(r:RelV y u)(f:flatV y=true):eqU x u=eqV y x:=by
 cases y with
 |non=>@r;rfl
 |bl b=>@r;rfl
 |int i=>~⟨t,rfl⟩:=r;rfl
 |str z=>~⟨t,rfl⟩:=r;rfl
 |_=>!absurd (show false=true from f) w1j
tm q7u:∀{xs:List V}{us:List Value},Vals xs us->xs.all flatV=true->us.any (eqU x)=xs.any λy=>eqV y x
 |_,_,.nil,_=>rfl
 |y::xs,u::us,.cons r t,f=>by
  rw[w2p,w0l]at f;rw[w4k,w4k,y0x r f.1,q7u t f.2]
tm q6s(rx:RelV x v)(fx:flatV x=true):∀{xs:List V}{us:List Value},Vals xs us->xs.all flatV=true->∀u∈us,SeqAt.EqAt A s u v (eqU x u)
 |_,_,.nil,_=>λu hu=>by @hu
 |y::xs,u::us,.cons r t,f=>λu' hu=>by
  rw[w2p,w0l]at f;rcases w0d.mp hu with rfl|hu
  ·rw[y0x r f.1];!z3c r rx f.1 fx
  ·!q6s rx fx t f.2 u' hu
nD inV(x:V)(xs:List V):Bool:=xs.any λy=>eqV y x
nD rIn(K:PySem.W.Frag)(neg:Bool):R2:=λx y H Q=>∃p xs,y=.ref p/\(SqL K H p xs\/SqT K H p xs)/\flatV x=true/\xs.all flatV=true/\Q (.bl (if neg then !inV x xs else inV x xs)) H
tm x3v:OpR X (compareOp .In) (rIn X.K false):=by
 intro pins s σ H x y v u Q I rx ry h;~⟨p,xs,rfl,hq,fx,fs,q⟩:=h;@ry;rcases hq with hq|hq
 ·~⟨its,r,pl,hz⟩:=I.list hq;rF SeqAt.in_listAt (eqU x) pl.isList (λw hw=>q6s rx fx r fs w (by simpa using hw)) ⟨.bl _,H,I,rfl,?_⟩
  rw[show its.toArray.any (eqU x)=its.any (eqU x) by simp,q7u r fs];!q
 ·~⟨its,r,pl,hz⟩:=I.tuple hq;rF SeqAt.in_tupleAt (eqU x) pl (λw hw=>q6s rx fx r fs w (by simpa using hw)) ⟨.bl _,H,I,rfl,?_⟩
  rw[show its.toArray.any (eqU x)=its.any (eqU x) by simp,q7u r fs];!q
tm x5q:OpR X (compareOp .NotIn) (rIn X.K true):=by
 intro pins s σ H x y v u Q I rx ry h;~⟨p,xs,rfl,hq,fx,fs,q⟩:=h;@ry;rcases hq with hq|hq
 ·~⟨its,r,pl,hz⟩:=I.list hq;rF SeqAt.notIn_listAt (eqU x) pl.isList (λw hw=>q6s rx fx r fs w (by simpa using hw)) ⟨.bl _,H,I,rfl,?_⟩
  rw[show its.toArray.any (eqU x)=its.any (eqU x) by simp,q7u r fs];!q
 ·~⟨its,r,pl,hz⟩:=I.tuple hq;rF SeqAt.notIn_tupleAt (eqU x) pl (λw hw=>q6s rx fx r fs w (by simpa using hw)) ⟨.bl _,H,I,rfl,?_⟩
  rw[show its.toArray.any (eqU x)=its.any (eqU x) by simp,q7u r fs];!q
tm x5r:CallR X (.type "list") (λxs H Q=>∃p ys,xs=[.ref p]/\(SqL X.K H p ys\/SqT X.K H p ys)/\∀l,H l=none->Q (.ref l) (upd H l (.lst ys))):=by
 intro pins s σ H xs us Q I r h;~⟨p,ys,rfl,hq,q⟩:=h;~⟨u,rfl,rx⟩:=vals1 r;@rx
 #fin:∀(its:List Value),Vals ys its->ys.length<=sizeLine->∀(h':Heap)(c':Nat),(∀b o',s.heap.get? b=some o'->h'.get? b=some o') ->
   h'.get? s.heap.objs.size=some {cls:=.type "list", dict:=none,data:=.seq its.toArray c',slots:=#[]}->EP X pins σ Q (.ref s.heap.objs.size) {s with heap:=h'}:=λits r' hz h' c' kp e=>
  ⟨.ref s.heap.objs.size,_,I.laid (t':=s.toks) kp (w0b _) (show ObjOk X.prog X.w _ h' _ (.lst ys)from⟨hz,its,c',r',e⟩),rfl,q _ (I.hok.fresh (w0b _))⟩
 rcases hq with hq|hq
 ·~⟨its,r',pl,hz⟩:=I.list hq;#hlen:=r'.length;~⟨o,ho,hc,n,hd⟩:=pl.isList
  grind [call_list_seq]
 ·~⟨its,r',pl,hz⟩:=I.tuple hq;#hlen:=r'.length;~⟨o,ho,hc,n,hd⟩:=pl
  grind [call_list_seq]
tm x4u:CallR X (.type "tuple") (λxs H Q=>∃p ys,xs=[.ref p]/\((SqL X.K H p ys/\∀l,H l=none->Q (.ref l) (upd H l (.tup ys)))\/(SqT X.K H p ys/\Q (.ref p) H))):=by
 intro pins s σ H xs us Q I r h;~⟨p,ys,rfl,h⟩:=h;~⟨u,rfl,rx⟩:=vals1 r;@rx;rcases h with⟨hq,q⟩|⟨hq,q⟩
 ·~⟨its,r',pl,hz⟩:=I.list hq;#hlen:=r'.length;rF call_tuple_list pl.isList (λh' kp=>?_) (by grind)
  #I1:Inv X pins σ H {s with heap:=h'}:=I.kept (t':=s.toks) kp
  #I2:Inv X pins σ (upd H h'.objs.size (.tup ys)) {s with heap:=h'.push {cls:=.type "tuple", data:=.seq its.toArray}}:=
   I1.laid (t':=s.toks) (λb o e=>Heap.get?_push_of_some _ e) (w0b _) (show ObjOk X.prog X.w _ _ _ (.tup ys)from⟨hz,its,r',IsTup.new _ _,_,Heap.get?_push_size _ rfl,rfl⟩)
  !⟨.ref h'.objs.size,_,I2,rfl,q _ (I1.hok.fresh (w0b _))⟩
 ·~⟨its,r',pl,hz⟩:=I.tuple hq;!call_tuple_same pl ⟨.ref p,H,I,rfl,q⟩
nD tyV(K:PySem.W.Frag)(T:String)(x:V)(H:Hp):Prop:=match x with
 |.str _=>T="str"
 |.int _=>T="int"
 |.ref p=>(T="list" /\ ∃xs,SqL K H p xs)\/(T="tuple" /\ ∃o,K.lookup p=some o/\o.cls=.type "tuple" /\ o.dict=none) \/
   (T="dict" /\ ((∃kvs,H p=some (.dK kvs))\/∃sh kvs kas,H p=some (.dT sh kvs kas)))\/(T="set" /\ ∃S n,H p=some (.set S n))
 |_=>False
tm y0y{T:String}(I:Inv X pins σ H s)(r:RelV x v)(ty:tyV X.K T x H):
  s.TypeIs v T/\∀a,v=.ref a->∃ob,s.heap.get? a=some ob/\ob.dict=none:=by
 cases x with
 |str z=>
  ~⟨t,rfl⟩:=r;cases(show T="str" from ty)
  grind [typeIs_str]
 |int i=>
  ~⟨t,rfl⟩:=r;cases(show T="int" from ty)
  grind [typeIs_int]
 |ref p=>
  @r;rcases ty with⟨rfl,xs,hq⟩|⟨rfl,o,hk,hc,hd⟩|⟨rfl,hk⟩|⟨rfl,S,n,hk⟩
  ·~⟨its,_,pl,_⟩:=I.list hq;rF⟨pl.isList.typeIs,λa e=>?_⟩
   @e;~⟨o,n,e,c,hd,_⟩:=pl;!⟨o,e,hd⟩
  ·rF⟨⟨o,I.kIn p o hk,hc⟩,λa e=>?_⟩
   @e;!⟨o,I.kIn _ o hk,hd⟩
  ·#z:∃o,s.heap.get? p=some o/\o.ExactDict:=by
    rcases hk with⟨kvs,hk⟩|⟨sh,kvs,kas,hk⟩
    ·~⟨_,_,_,_,o,_,_,e,ex,_⟩:=I.hok p _ hk;!⟨o,e,ex⟩
    ·~⟨_,_,_,_,_,o,_,_,e,ex,_⟩:=I.hok p _ hk;!⟨o,e,ex⟩
   ~⟨o,e,ex⟩:=z;rF⟨⟨o,e,ex.1⟩,λa e2=>?_⟩
   @e2;!⟨o,e,ex.2.1⟩
  ·~⟨o,_,_,_,e,ex,_⟩:=I.hok p _ hk;rF⟨⟨o,e,ex.1⟩,λa e2=>?_⟩
   @e2;!⟨o,e,ex.2.1⟩
 |_=>!False.elim ty
nD tBM0(K:PySem.W.Frag)(T:String)(r:V->List V->Hp->VK->Prop)(to:TE):TE:=λσ H Q=>to σ H λx H1=>tyV K T x H1/\r x [] H1 Q
nD tBM(K:PySem.W.Frag)(T:String)(r:V->List V->Hp->VK->Prop)(to:TE)(t:TA):TE:=λσ H Q=>to σ H λx H1=>tyV K T x H1/\t σ H1 λxs H2=>r x xs H2 Q
variable{o e:Expr}{es:List Expr}{to:TE}{t:TA}{name:Str}{apos cpos:Pos}{T id:String}{r:V->List V->Hp->VK->Prop}
tm z3d(pa:PlainAttrs T)(slot:Slot T name id)(hty:typeOf (.builtin id)=pure (.type "method_descriptor"))(hm:MtR X id r)(ho:PE X o to)
  (hbase:attributeBase o name X.env (eval o X.env)=eval o X.env:=by rfl)(hline:(apos.endLine==cpos.line)=true:=by rfl):PE X (.Call (.Attribute o name apos) [] [] cpos) (tBM0 X.K T r to):=by
 intro pins s σ H Q I h;rF wpAny_Call_method0_late hbase hline (thn (ho pins s σ H _ I h) λv s1 ⟨x,H1,I1,r1,ty,q1⟩=>?_)
 ~⟨h1,h2⟩:=y0y I1 r1 ty;!⟨T,id,pa,slot,hty,h1,h2,Calls.callWith_builtin rfl (PySem.evalArgs_none (hm pins s1 σ H1 x [] v [] Q I1 r1 .nil q1))⟩
tm x47(pa:PlainAttrs T)(slot:Slot T name id)(hty:typeOf (.builtin id)=pure (.type "method_descriptor"))(hm:MtR X id r)(ho:PE X o to)(ha:PA X (e::es) t)
  (hbase:attributeBase o name X.env (eval o X.env)=eval o X.env:=by rfl)
  (hfew:((backTo cpos (starEach (e::es) X.env)).all (λx=>!x.1)&&(backToKw cpos (keywordEach [] X.env)).all (λx=>x.1.isSome)
   && decide ((e::es).length+([]:List Keyword).length+(if([]:List Keyword).isEmpty then 0 else 1)<30))=true:=by rfl)
  (hline:(apos.endLine==cpos.line)=true:=by rfl)(hs:starEach (e::es) X.env=(false,eval e X.env)::starEach es X.env:=by rfl)(hplain:(backTo cpos (starEach es X.env)).any (·.1)=false:=by rfl):
  PE X (.Call (.Attribute o name apos) (e::es) [] cpos) (tBM X.K T r to t):=by
 intro pins s σ H Q I h;rF wpAny_Call_method_late hbase hfew hline rfl (thn (ho pins s σ H _ I h) λv s1 ⟨x,H1,I1,r1,ty,q1⟩=>?_)
 ~⟨h1,h2⟩:=y0y I1 r1 ty;rF⟨T,id,pa,slot,hty,h1,h2,?_⟩;#hA:=ha cpos pins s1 σ H1 _ I1 q1;rw[hs]at hA |-
 rF Calls.callWith_builtin (by grind) (Calls.evalArgs_plain ?_);!thn hA λus s2 ⟨vs,H2,I2,r2,q2⟩=>hm pins s2 σ H2 x vs v us Q I2 r1 r2 q2
/- xs.append(e),list.index on a module's tuple .. are MtR facts of 06m -/
end
nD MtM(X:Cx)(id:String)(r:V->List V->Hp->VK->Prop):Prop:=
 ∀(pins:List (Addr×Obj))(s:Shared)(σ:St)(H:Hp)(x:V)(xs:List V)(v:Value)(us:List Value)(Q:VK),Inv X pins σ H s->RelV x v->Vals xs us->r x xs H Q ->
  wpAny (model X.prog X.w) X.A (call (.builtin id) (v::us)) (EP X pins σ Q) X.xe s
tm Vals.one(h:Vals [x] us):∃u,us=[u]/\RelV x u:=vals1 h
tm Vals.two{y:V}(h:Vals [x,y] us):∃u v,us=[u,v]/\RelV x u/\RelV y v:=vals2 h
tm Vals.zero:∀{us:List Value},Vals [] us->us=[]
 |_,.nil=>rfl
tm Vals.dropLast(h:Vals xs us):Vals xs.dropLast us.dropLast:=by
 induction h with
 |nil=>!.nil
 |cons r t ih=>
  cases t with
  |nil=>!.nil
  |cons q t'=>!.cons r ih
tm Vals.rep(h:Vals xs us):∀k:Nat,Vals (List.replicate k xs).flatten (List.replicate k us).flatten
 |0=>.nil
 |k+1=>by
  rw[w1n,w1n,w2w,w2w];!Vals.append h (Vals.rep h k)
tm x3w(its:List Value):∀(k:Nat)(acc:List Value),
  List.foldl (λx1 x2=>x1++x2) acc.toArray (List.replicate k its.toArray)=(acc++(List.replicate k its).flatten).toArray
 |0,acc=>by simp
 |k+1,acc=>by
  #e:acc.toArray++its.toArray=(acc++its).toArray:=by simp
  #e2:(acc++its)++(List.replicate k its).flatten=acc++(List.replicate (k+1) its).flatten:=by
   grind
  rw[<- e2,<- x3w its k (acc++its),<- e,w1n,w1o]
section
variable{l b:Addr}{ys zs:List V}
tm Inv.lset{its':List Value}{f:Array Value->Array Value}{t':Nat}(I:Inv X pins σ H s)(hH:H l=some (.lst xs))
  (e:s.heap.get? l=some {cls:=.type "list", data:=.seq its.toArray n})(hf:f its.toArray=its'.toArray)(hv:Vals ys its')(hz:ys.length<=sizeLine):
  Inv X pins σ (upd H l (.lst ys)) {s with heap:=s.heap.update l (Obj.mapSeq f),toks:=t'}:=by
 #q:=PySem.IsL.update e f;rw[hf]at q;rF I.write (x:=l) (e:=l) (by rw[hH];!trivial) (.inl rfl) (λb' u hb hu=>(Heap.get?_update_other s.heap (Obj.mapSeq f) (Ne.symm hb)).trans hu) ⟨_,q⟩ ?_
 !⟨hz,its',_,hv,q⟩
tm Inv.lnew{t':Nat}(I:Inv X pins σ H s)(hv:Vals ys its)(hz:ys.length<=sizeLine):
  Inv X pins σ (upd H s.heap.objs.size (.lst ys)) {s with heap:=s.heap.push {cls:=.type "list", data:=.seq its.toArray},toks:=t'}:=
 I.laid (λ_ _ q=>Heap.get?_push_of_some _ q) (w0b _) ⟨hz,its,0,hv,Heap.get?_push_size _ rfl⟩
tm Inv.fresh(I:Inv X pins σ H s):H s.heap.objs.size=none:=I.hok.fresh (w0b _)
tm Inv.lstM(I:Inv X pins σ H s)(hH:H l=some (.lst xs)):xs.length<=sizeLine/\∃(its:List Value)(n:Nat),Vals xs its/\xs.length=its.length/\s.heap.get? l=some {cls:=.type "list", data:=.seq its.toArray n}:=by
 ~⟨z,its,n,r,e⟩:=I.hok l _ hH
 grind [Vals.length]
tm notLongL(h:n<=sizeLine):Builtin.List.listTooLong n=false:=by
 grind [Builtin.List.listTooLong]
end
nD rAppend:V->List V->Hp->VK->Prop:=λx vs H Q=>∃l xs y,x=.ref l/\vs=[y]/\H l=some (.lst xs)/\xs.length<sizeLine/\Q .non (upd H l (.lst (xs++[y])))
tm q8z:MtM X "list.append" rAppend:=by
 intro pins s σ H x vs v us Q I rx rv h;~⟨l,xs,y,rfl,rfl,hH,hz,q⟩:=h;@rx;~⟨u,rfl,ru⟩:=rv.one;~⟨z,its,n,r,hl,e⟩:=I.lstM hH;rF call_meets F.slot_list_append ⟨_,e,rfl⟩ F.entry_list_append (F.args_list_append_2 _ _) (PySem.list_append l its.toArray n u (by grind)) ⟨e,?_⟩;rF⟨.non,_,I.lset (its':=its++[u]) hH e (by simp) (r.append (.cons ru .nil)) ?_,rfl,q⟩
 grind
nD rPop:V->List V->Hp->VK->Prop:=λx vs H Q=>∃l xs y,x=.ref l/\vs=[]/\H l=some (.lst xs)/\xs[xs.length-1]?=some y/\Q y (upd H l (.lst xs.dropLast))
tm z3e:MtM X "list.pop" rPop:=by
 intro pins s σ H x vs v us Q I rx rv h;~⟨l,xs,y,rfl,rfl,hH,hy,q⟩:=h;@rx;#hus:=rv.zero;subst hus;~⟨z,its,n,r,hl,e⟩:=I.lstM hH;~⟨u,hu,ru⟩:=r.get hy
 #hy':its.toArray[its.toArray.size-1]?=some u:=by
  grind
 rF call_meets F.slot_list_pop ⟨_,e,rfl⟩ F.entry_list_pop (F.args_list_pop_1 _) (MeetsSeq.list_pop_last l its.toArray n u hy' (by grind)) ⟨e,?_⟩;rF⟨y,_,I.lset (its':=its.dropLast) hH e ?_ r.dropLast ?_,ru,q⟩
 all_goals grind
tm y75(xs:List α)(k:Nat):(List.replicate k xs).flatten.length=k*xs.length:=by
 simp_all
end L2
namespace Att
open PySem PySem.W PySem.Calls PyProof.Rows
tm x1y{P:Params}{h:Heap}:∀(ns:List Int)(vs:List Value),WellAll P h vs (ns.map WData.int)->IntsAre vs ns:=by
 intro ns
 induction ns with
 |nil=>
  intro vs w;rw[w1w]at w;@w;!.nil
 |cons n ns ih=>
  intro vs w;rw[w0g]at w;cases w with
  |cons a b=>
   @a;!.cons _ _ (ih _ b)
tm y0z{l:OpenLaw}{n:Nat}(hn:l.most=some n){P:Params}{h:Heap}{args:List WData}{vals:List Value}
  (hpre:l.row.toRowW.claim.pre args=true)(hwl:WellAll P h vals args):
  ∃a vs ns,vals=[Value.ref a]/\args=[WData.list (ns.map WData.int)]/\h.get? a=some {cls:=.type "list", data:=.seq vs.toArray}/\IntsAre vs ns/\ns.length<=n:=by
 #hsh:WShape.hasAll [] args [.list .int]=true:=(pre_splitW hpre).1;#hc:l.pre.holds [] {args:=args}=true:=(pre_splitW hpre).2;~⟨d,r,rfl,h1,h2⟩:=hasAllW_cons hsh;~rfl:=hasAllW_nil h2;~⟨xs,rfl,h3⟩:=hasW_list h1;~⟨ns,rfl⟩:=items_int h3
 #hlen:ns.length<=n:=by
  unfold OpenLaw.pre at hc
  #h4:(WTm.not (.lt (.lit (.int (n:Int))) (.len (.arg 0)))).holds [] {args:=[.list (ns.map .int)]}=true:=by
   #h4:=(holds_andW hc).1
   grind
  #h5:=condW_of h4 (w_not (w_lt w_lit (w_len_list (w_arg rfl))))
  grind
 cases hwl with
 |cons w1 w2=>
  @w2;cases w1 with
  |list ho hall=>grind [x1y]
tm y00(l:OpenLaw)(args:List WData):l.row.toRowW.claim.post args (.bool true) args=true:=
 postW_of (r:=l.row.toRowW) (X:=(true==true))
  (show WShape.has [] (.bool true) .bool=true by first|rfl|decide|simp[WShape.has,WShape.arms,WShape.armsAll])
  (show(WTm.eq .res (.lit (.bool true))).value [] {args:=args,res:=some (.bool true),after:=args}=some (.bool (true==true))from w_eq_bool (w_res rfl) w_lit) rfl
tm attach_call{l:OpenLaw}{n:Nat}{q:Program}{loose:List Str}{XP:(Str->Option Value)->Heap->Prop}{YP:World->Heap->Prop}{d:DefRec}
  (hn:l.most=some n)(hdf:d.params.defaults=[])
  (call:∀(w:World)(s₀ s₁:Shared)(mg mb:Str->Option Value)(fa:Addr)(o:Obj)(pm cd doc:Value)(a:Addr)(vs:List Value)(ns:List Int),
   Ground q loose [] XP w s₀ mg mb s₁.heap->YP w s₁.heap ->
   s₁.heap.get? fa=some o->o.data=.func (docDef d.name d.params d.body d.scope pm cd doc)->s₁.heap.CodeRec cd d.name->mg d.name=some (.ref fa) ->
   s₁.heap.get? a=some {cls:=.type "list", data:=.seq vs.toArray}->IntsAre vs ns->ns.length<=n->s₁.gens=#[] ->
   codeAny (model l.prog w) callerA (.call (.ref fa) ⟨[.ref a],[]⟩) (λr s'=>r=.ok (.ret (.bool true))/\OldK s₁.heap s'.heap/\s'.os=s₁.os/\AllBare s'.gens) s₁):
  WalkO q loose XP YP l.row.toRowW d [] (λf vs=>PySem.call f vs):=by
 intro w s₀ s₁ mg mb G Y fa o pm cd doc dV kV ho hd hcd hD hmg hg args vals as hpre hlay hrd hwl hlo;obtain rfl:dV=.none:=Dflts.none hD hdf;obtain rfl:kV=.none:=Dflts.noKw hD;~⟨a,vs,ns,rfl,rfl,hobj,hints,hlen⟩:=y0z hn hpre hwl;rF enter_call (codeAny_mono (call w s₀ s₁ mg mb fa o pm cd doc a vs ns G Y ho (fd_plain hd) hcd hmg hobj hints hlen hg) λr s' hq=>?_)
 ~⟨rfl,h2,h3,h4⟩:=hq;!⟨.inl ⟨.bool true,.bool true,[],rfl,λ_=>rfl,.bool true,y00 l _,λ_=>⟨List.Pairwise.nil,λ_ hm=>(nomatch hm)⟩⟩,h2,h3,h4⟩
section
variable{prog:Program}{w:World}{A:Around}{E:Value->Shared->Prop}{s:Shared}{K:Frag}
nD ledger(h:Heap)(L d:Addr):List (Addr×Obj):=(List.range h.objs.size).filterMap λa=>if a=L\/a=d then none else(h.get? a).map λo=>(a,o)
end
end Att
namespace L2
open PySem PySem.Spec PyProof.Rows
tm x3x:∀{vs:List Value}{ns:List Int},IntsAre vs ns->Vals (ns.map V.int) vs
 |_,_,.nil=>.nil
 |_,_,.cons n t h=>.cons ⟨t,rfl⟩ (x3x h)
nD Only(H:Hp):Prop:=∀b,H b=none\/∃o xs,H b=some (.frz o (.lst xs))
tm y4d{P:Program}{w:World}{K:PySem.W.Frag}{mg mb:Str->Option Value}{CX:CXT}{k:Nat}{fa a:Addr}{fd:FuncData}{x:Str}{sp:Sp}{s₁:Shared}{vs:List Value}{ns:List Int}
  (KX:K.In s₁.heap)(hns:s₁.heap.Ns mainGlobals mg)(hb:s₁.heap.Ns builtinsNs mb)(hbb:∀x:Str,x≠"__name__"->mb x=bootBuiltins x)(hlim:s₁.heap.NoLimit)(hg:s₁.gens=#[])
  (ha:s₁.heap.get? a=some {cls:=.type "list", data:=.seq vs.toArray})(hi:IntsAre vs ns)(hl:ns.length<=sizeLine)(hr:Room k callerA)
  (F:∀base:Heap,K.In base->base.Ns mainGlobals mg->FnOk P w K mg base CX k fa fd [x] sp)(hbind:∀(s:Shared)(u:Value),BindsTo s fd ⟨[u],[]⟩ [(x,u)])
  (hsp:∀H:Hp,Only H->SqL K H a (ns.map V.int)->sp [.ref a] H (λv _=>v=.bl true) λ_ _ _=>False)
  (hCX:∀H e s',CX [] H s₁ (λ_ _ _=>False) e s'->False)(hNM:noMark K=true):
  codeAny (model P w) callerA (.call (.ref fa) ⟨[.ref a],[]⟩) (λr s'=>r=.ok (.ret (.bool true))/\OldK s₁.heap s'.heap/\s'.os=s₁.os/\AllBare s'.gens) s₁:=by
 #rv:=x3x hi;#lenV:=hi.length
 #core:∀H:Hp,Only H->SqL K H a (ns.map V.int)->HOk P w H s₁.heap->(∀b,H b≠none->b=a)->(H a≠none->K.lookup a=none) ->
   codeAny (model P w) callerA (.call (.ref fa) ⟨[.ref a],[]⟩) (λr s'=>r=.ok (.ret (.bool true))/\OldK s₁.heap s'.heap/\s'.os=s₁.os/\AllBare s'.gens) s₁:=by
  intro H hO hS hok hA hK;#base_of:∀{b:Addr}{o:Obj},s₁.heap.get? b=some o->H b=none->(hidT s₁.heap H).get? b=some o:=λe n=>y34 e n
  #noA:∀{b:Addr}{o:Obj}{es:Array DictEntry}{ep:Nat},s₁.heap.get? b=some o->o.data=.dict es ep->H b=none:=λ{b o es ep} e d=>by
   grind
  #nsK:∀{b:Addr}{m:Str->Option Value},s₁.heap.Ns b m->(hidT s₁.heap H).Ns b m:=λ{b m} ⟨o,es,ep,e,d,r⟩=>⟨o,es,ep,base_of e (noA e d),d,r⟩
  #hKb:K.In (hidT s₁.heap H):=λb o e=>base_of (KX b o e) (by
   grind)
  #hM:Mod K mg (hidT s₁.heap H):=⟨hKb,nsK hns,⟨mb,nsK hb,hbb⟩,let ⟨mc,h1,h2⟩:=hlim;⟨mc,nsK h1,h2⟩⟩;#e0:Env0 P w K mg (hidT s₁.heap H) callerA [] s₁ H:=⟨rfl,hM,λb o e=>y7s e,Nat.le_of_eq (y0m _ _),trivial,λb hb=>absurd (show b∈([]:List Addr)from hb) (by simp),hok,.of_eq hg,.vac hNM⟩
  rF codeAny_mono ((F _ hKb (nsK hns)).run callerA [] s₁ H ⟨[.ref a],[]⟩ [.ref a] [.ref a] _ _ hr e0 (hbind s₁ (.ref a)) (.cons rfl .nil) (hsp H hO hS)) λr s' h=>?_
  cases r with
  |error e=>!(hCX H e s' h).elim
  |ok fl=>
   cases fl with
   |next=>!False.elim h
   |brk=>!False.elim h
   |cont=>!False.elim h
   |ret u=>
    ~⟨v,H',os,bare,un,hok',r',q⟩:=h;#q':v=.bl true:=q;subst q';obtain rfl:u=Value.bool true:=r';rF⟨rfl,OldK.of_keep λb o e=>?_,os,bare⟩
    cases q:H b with
    |none=>!un.keep b o e q (by intro z;!absurd (show b∈([]:List Addr)from z) (by simp)) (by simp)
    |some u=>
     rcases hO b with z|⟨ob,xs,z⟩
     ·rw[q]at z;@z
     ·#z2:=un.frzs b ob _ z;~⟨e1,_⟩:=hok b _ z;~⟨e2,_⟩:=hok' b _ z2
      grind
 cases hk:K.lookup a with
 |some o=>
  #e:=KX a o hk;rw[ha]at e;@e;rF core (λ_=>none) (λ_=>.inl rfl) (.inr ⟨_,vs.toArray,_,hk,rfl,rfl,rfl,by grind,by simpa using rv⟩) (λb u z=>by grind) (λb z=>absurd rfl z) λz=>absurd rfl z
 |none=>
  rF core (λb=>if b=a then some (.frz {cls:=.type "list", data:=.seq vs.toArray} (.lst (ns.map V.int)))else none) (λb=>?_) (.inl (.inr ⟨{cls:=.type "list", data:=.seq vs.toArray},if_pos rfl⟩)) (λb u z=>?_) (λb z=>?_) λ_=>hk
  ·grind
  ·by_cases hb:b=a
   ·#z':=(if_pos hb).symm.trans z;@z';subst hb;!⟨ha,by grind,vs,_,rv,ha⟩
   grind
  grind
noncomputable abbrev KOf{K:PySem.W.Frag}{h:Heap}(_:K.In h):PySem.W.Frag:=K
tm x76{l:PySem.W.OpenLaw}{n k:Nat}{q:Program}{loose:List Str}{XP:(Str->Option Value)->Heap->Prop}{YP:World->Heap->Prop}{d:DefRec}{K:Params->PySem.W.Frag}{CX:World->CXT}{sp:World->Sp}{x:Str}
  (hn:l.most=some n)(hn2:n<=sizeLine)(hdf:d.params.defaults=[])(hr:Room k callerA)
  (hY:∀(w:World)(h:Heap),YP w h->(K w.params).In h)
  (F:∀(w:World)(mg:Str->Option Value)(fa:Addr)(h:Heap),(K w.params).In h->h.Ns mainGlobals mg->mg d.name=some (.ref fa) ->
   ∃fd:FuncData,(∀(s:Shared)(u:Value),BindsTo s fd ⟨[u],[]⟩ [(x,u)]) /\
    ∀base:Heap,(K w.params).In base->base.Ns mainGlobals mg->FnOk l.prog w (K w.params) mg base (CX w) k fa fd [x] (sp w))
  (hsp:∀(w:World)(H:Hp)(a:Addr)(ns:List Int),ns.length<=n->Only H->SqL (K w.params) H a (ns.map V.int)->sp w [.ref a] H (λv _=>v=.bl true) λ_ _ _=>False)
  (hCX:∀(w:World)(H:Hp)(s:Shared)(e:Value)(s':Shared),CX w [] H s (λ_ _ _=>False) e s'->False)(hNM:∀w:World,noMark (K w.params)=true):
  PySem.W.WalkO q loose XP YP l.row.toRowW d [] (λf vs=>PySem.call f vs):=by
 rF Att.attach_call hn hdf λw s₀ s₁ mg mb fa o pm cd doc a vs ns G Y ho hd hcd hmg hobj hints hlen hg=>?_
 #KX:=hY w _ Y;~⟨fd,hb,hF⟩:=F w mg fa _ KX G.T.g hmg;!y4d KX G.T.g G.T.b G.T.builtins G.T.nolimit hg hobj hints (w0v hlen hn2) hr hF hb (λH hO hS=>hsp w H a ns hlen hO hS) (λH e s'=>hCX w H s₁ e s') (hNM w)
end L2
/- THE LAST THEOREM (shape; LID, My.* are yours):
   My.Adr: a structure of the addresses that your layer names (classes, functions); My.Txt K t: a structure (Prop) of the equations over K;
   My.txt_mk : {K} {implicit addresses ..} (e1 : nsIn K mainGlobals "law" = some (some (.ref f))) (e2 : K.lookup f = some ⟨oc, od, .func (fnOf "law" "law" params body scope dV kV doc pm an cdv ct), sl⟩) (e3 : codeIn K cdv "law" = true) .. : ∃ t, My.Txt K t
set_option maxRecDepth 100000 in
set_option maxHeartbeats 0 in
tm PySem.Challenge.cw_LID_holds : PySem.Challenge.rw_LID.Holds := by
 w_on; o_law; k_head; (case hw => w_witness2)
 k_fill
 rF L2.x76 (l := PySem.Challenge.rw_LID) (n := 63) (k := 40) (x := "script") (CX := λw => ..) (sp := λ_ => My.sp_law) rfl (by decide) rfl ⟨rfl, by decide, by decide⟩ (λw h Y => PySem.W.kIn_of Y) ?F ?S ?C
 case F =>
  intro w mg fa h KX G hmg
  #T : ∃ t, My.Txt (L2.KOf KX) t := by
   dsimp only [L2.KOf]                          -- K must stand as «<heap const> w.params» for k_is;refine' My.txt_mk ?e1 ?e2 ?e3 ..
   (case e1 => PySem.W.k_is)                    -- in the order: a name -> its address -> its object -> its parts
   (case e2 => PySem.W.k_is)
   ..
  obtain ⟨t, T⟩ := T;#e0 := hmg.symm.trans (PySem.W.mg_of KX G T.law);cases e0                                       -- fa is the law's own address;!⟨_, λs u => .of_eq rfl, λbase kb nb => My.law_fn T kb nb⟩     -- if «.of_eq rfl» comes too early: refine' ⟨_, ?b, λbase kb nb => My.law_fn T kb nb⟩; !λs u => .of_eq rfl
 case S => !λw H a ns hl hO hS => ..
 case C => !..
(the tactic k_is has no namespace: write k_is) -/
namespace L2
open PySem PySem.Spec PyProof.Rows
variable{f:Addr}{X:Cx}{fd:FuncData}{h1:Heap}{H H':Hp}{l:List Env}{es ifs:List Expr}{ps:List Str}{pos:Pos}{P:Program}{K:PySem.W.Frag}{σ:St}{st:Stmt}{x:Str}{cls:Value}{w:World}
nD defArgs(s:Stmt):Arguments:=match s with
 |.FunctionDef _ a _ _ _ _ _ _ _ _=>a
 |_=>{posonlyargs:=[],args:=[],vararg:=none,kwonlyargs:=[],kw_defaults:=[],kwarg:=none,defaults:=[]}
nD defBody(s:Stmt):List Stmt:=match s with
 |.FunctionDef _ _ b _ _ _ _ _ _ _=>b
 |_=>[]
nD defScope(s:Stmt):Scope:=match s with
 |.FunctionDef _ _ _ _ _ _ sc _ _ _=>sc
 |_=>{kind:=.function,names:=[],isGenerator:=false,isCoroutine:=false}
noncomputable abbrev CX0:CXT:=λ_ _ _ _ _ _=>False
noncomputable abbrev E0:XK:=λ_ _ _=>False
structure Fun(K:PySem.W.Frag)(x qual:Str)(st:Stmt)(f:Addr)(fd:FuncData):Prop where
 ex:∃(oc:Value)(od:Option Addr)(kV doc pm:Value)(an:Option Addr)(cdv ct:Value)(osl:Array (Option Value)),
  fd=PySem.W.fnOf x qual (defArgs st) (defBody st) (defScope st) .none kV doc pm an cdv ct/\K.lookup f=some ⟨oc,od,.func fd,osl⟩/\PySem.W.codeIn K cdv qual=true
 kp:keepIn K (.ref f)=true
section
variable{mg:Str->Option Value}{base:Heap}
tm Fun.binds{qual:Str}(F:Fun K x qual st f fd)
  (h:∀(kV doc pm:Value)(an:Option Addr)(cdv ct:Value)(us:List Value),us.length=ps.length->bindArgs (PySem.W.fnOf x qual (defArgs st) (defBody st) (defScope st) .none kV doc pm an cdv ct) ⟨us,[]⟩=pure (ps.zip us)):Binds K fd ps []:=by
 grind [ex,Binds.all]
tm y01{qual:Str}{oc:Value}{od an:Option Addr}{osl:Array (Option Value)}{kV doc pm cdv ct:Value}(l:K.lookup f=some ⟨oc,od,.func (PySem.W.fnOf x qual (defArgs st) (defBody st) (defScope st) .none kV doc pm an cdv ct),osl⟩)
  (c:PySem.W.codeIn K cdv qual=true)(k:keepIn K (.ref f)=true):Fun K x qual st f (PySem.W.fnOf x qual (defArgs st) (defBody st) (defScope st) .none kV doc pm an cdv ct):=⟨⟨oc,od,kV,doc,pm,an,cdv,ct,osl,rfl,l,c⟩,k⟩
end
tm pv(i:Nat)(hN:X.N[i]?=some x:=by rfl)(hv:Vis X.env.scope x:=by walk_at "1")(hd:(x==("__debug__":Str))=false:=by decide)
  (hcd:(x==("__classdict__":Str))=false:=by decide):PE X (.Name x pos) (tVar i):=z2n hN hv hd hcd
nD Same(H H':Hp):Prop:=∀b o,H b=some o->H' b=some o
tm Same.refl(H:Hp):Same H H:=λ_ _ h=>h
tm Same.trans{H1 H2:Hp}(a:Same H H1)(b:Same H1 H2):Same H H2:=λc o h=>b c o (a c o h)
tm Same.free(e:Same H H'){l:Addr}(h:H' l=Option.none):H l=Option.none:=by
 cases q:H l with
 |none=>rfl
 |some o=>
  rw[e l o q]at h;@h
tm Same.seq{a:Addr}{xs:List V}(e:Same H H')(h:SqL K H a xs):SqL K H' a xs:=by
 rcases h with(h|⟨o,h⟩)|h
 ·!.inl (.inl (e _ _ h))
 ·!.inl (.inr ⟨o,e _ _ h⟩)
 ·!.inr h
set_option maxHeartbeats 4000000
tm ObjOk.get(x:ObjOk P w H h a o):∃ob,h.get? a=some ob:=by
 cases o with
 |lst xs=>~⟨_,_,_,_,e⟩:=x;!⟨_,e⟩
 |tup xs=>~⟨_,_,_,p,_⟩:=x;~⟨o,e,_⟩:=p;!⟨o,e⟩
 |dK kvs=>~⟨_,_,_,_,o,_,_,e,_⟩:=x;!⟨_,e⟩
 |dT sh kvs kas=>~⟨_,_,_,_,_,o,_,_,e,_⟩:=x;!⟨_,e⟩
 |set S n=>~⟨o,_,_,_,e,_⟩:=x;!⟨_,e⟩
 |ins C dx fs=>~⟨_,_,_,e,_⟩:=x;!⟨_,e⟩
 |own y=>~⟨_,e⟩:=x;!⟨_,e⟩
 |xd fs=>~⟨_,⟨_,_,_,e,_⟩,_⟩:=x;!⟨_,e⟩
 |rng lo hi=>~⟨_,_,_,e⟩:=x;!⟨_,e⟩
 |frz ob u=>~⟨e,_⟩:=x;!⟨_,e⟩
 |tbl ps=>rcases x with⟨_,_,_,_,e,_⟩|⟨_,_,_,_,_,_,_,_,_,_,_,_,e⟩<;>!⟨_,e⟩
 |met f y=>!⟨_,(show h.get? a=some _ from x)⟩
 |ext φ=>~⟨_,⟨_,e⟩,_⟩:=x;!⟨_,e⟩
structure Fly(outer:List Env)(H H':Hp)(h h':Heap)(e:Addr)(cls:Value)(B:Heap):Prop where
 fl:∃a0,Heap.FlyingW B outer e cls a0 h'
 old:∀b o,h.get? b=some o->H b=none->b∉frs outer->B.get? b=some o
 trk:∀b u o,H' b=some u->h'.get? b=some o->B.get? b=some o
 all:∀b o,h.get? b=some o->b∈frs outer\/∃o',B.get? b=some o'
 new:h.get? e=none
nD CX1(P:Program)(w:World):CXT:=λouter H s E ev s'=>∃(e:Addr)(cls:Value)(H':Hp)(B:Heap),
 ev=.ref e/\s'.os=s.os/\AllBare s'.gens/\Un (frs outer) [] H H' s.heap s'.heap/\HOk P w H' s'.heap/\Fly outer H H' s.heap s'.heap e cls B/\E cls none H'
nD PassX(CX:CXT)(X:Cx)(EE:L2.St->XK):Prop:=∀(pins:List (Addr×Obj))(σ:St)(H:Hp)(s:Shared)(e:Value)(s':Shared),Inv X pins σ H s->CX X.stack H s (EE σ) e s'->X.xe e s'
nD RaisX(X:Cx)(EE:L2.St->XK):Prop:=∀(pins:List (Addr×Obj))(σ:St)(H:Hp)(s:Shared)(e:Addr)(cls:Value)(vs:List Value)(h':Heap),Inv X pins σ H s->Heap.MadeExcOf s.heap h' e cls vs->EE σ cls none H->X.xe (.ref e) {s with heap:=h'}
tm x77
  (I:Inv (cxOf CX P w K mg base N qual scope f cd A outer s₀ H₀ E) pins σ H s)(J:Inv (cxOf CX P w K mg base N qual scope f cd A outer s₀ H₀ E) pins σ H' s')
  (old:∀b o,s.heap.get? b=some o->H b=none->b∉frs (envOfC qual scope s₀.heap.objs.size f cd::outer)->B.get? b=some o)
  (trk:∀b u o,H' b=some u->s'.heap.get? b=some o->B.get? b=some o)
  (all:∀b o,s.heap.get? b=some o->b∈frs (envOfC qual scope s₀.heap.objs.size f cd::outer)\/∃o',B.get? b=some o')
  (new:s.heap.get? e=none)
  (fl:Heap.FlyingW B outer e cls a0 h'')(up:s'.heap.UpToSlots h'')(hE:E cls none H'):
  CX1 P w outer H₀ s₀ E (.ref e) {s' with heap:=h''}:=by
 #neL:∀b o,s₀.heap.get? b=some o->b∉frs outer->b∉frs (envOfC qual scope s₀.heap.objs.size f cd::outer):=λb o q nb hb=>by
  rcases w0d.mp (show b∈s₀.heap.objs.size::frs outer from hb)with z|z
  ·!absurd (Heap.lt_size q) (by grind)
  ·!nb z
 #ex0:∀b:Addr,b∉([]:List Addr):=λb z=>nomatch z
 #slot:∀b o,s₀.heap.get? b=some o->b∈frs outer->∃sl,h''.get? b=some {o with slots:=sl}:=λb o q hb=>by
  ~⟨sl,e1⟩:=J.base.slot b o q (J.ok.frf b hb) hb (ex0 b);~⟨_,o2,e2,nd⟩:=J.funs.mem hb
  rw[e1]at e2;@e2;~⟨sl',e3⟩:=up b _ e1 nd;!⟨sl',e3⟩
 rF⟨e,cls,H',B,rfl,J.os,J.bare,⟨λb o q n hb hx=>?_,λb o q n hb hx=>slot b o q hb,λb o q n hx=>J.base.free b o q n hx,λb o q hx=>?_,J.base.tups,J.base.frzs,J.base.tbls⟩,λa o q=>?_,⟨⟨a0,fl⟩,λb o q n hb=>?_,λb u o q z=>?_,λb o q=>?_,?_⟩,hE⟩
 ·!fl.1 b o (old b o (I.base.keep b o q n hb hx) (I.base.free b o q n hx) (neL b o q hb))
 ·by_cases hb:b∈frs outer
  ·grind
  ·~⟨o1,e1⟩:=I.base.there b o q hx;rcases all b o1 e1 with z|⟨o',z⟩
   ·grind
   ·!⟨o',fl.1 b o' z⟩
 ·rF(J.hok a o q).stay (λb u hb z=>?_) (λ_ z=>z) λ_ _ _ z=>z
  rcases hb with rfl|hb
  ·!fl.1 _ _ (trk b o u q z)
  ·!fl.1 _ _ (trk b _ u hb z)
 ·!old b o (I.base.keep b o q n hb (ex0 b)) (I.base.free b o q n (ex0 b)) (neL b o q hb)
 ·~⟨o1,e1⟩:=(J.hok b u q).get;#e2:=trk b u o1 q e1;#e3:=fl.1 b o1 e2
  grind
 ·~⟨o1,e1⟩:=I.base.there b o q (ex0 b)
  grind
 ·cases q:s₀.heap.get? e with
  |none=>rfl
  |some o=>
   ~⟨o1,e1⟩:=I.base.there e o q (ex0 e)
   grind
tm pass1:PassX (CX1 P w) (cxOf (CX1 P w) P w K mg base N qual scope f cd A outer s₀ H₀ E) (λ_=>E):=by
 intro pins σ H s ev s' I hx;~⟨e,cls,H',B,rfl,hos,hg,un,hok,fly,hE⟩:=hx;#J:=I.call' (ch:=[]) hos un hok hg (λb hb=>nomatch hb)
 ~⟨a0,fl⟩:=fly.fl;rF wpAny_leaves_onW (base:=B) I.ok.frames rfl fl λh'' fl2 up=>?_
 !x77 I J fly.old fly.trk fly.all fly.new fl2 up hE
tm rais1:RaisX (cxOf (CX1 P w) P w K mg base N qual scope f cd A outer s₀ H₀ E) (λ_=>E):=by
 intro pins σ H s e cls vs h' I hx hE;#J:Inv (cxOf (CX1 P w) P w K mg base N qual scope f cd A outer s₀ H₀ E) pins σ H {s with heap:=h'}:=I.kept (t':=s.toks) hx.keeps;#hin:∀env∈(envOfC qual scope s₀.heap.objs.size f cd::outer),∀b,env.frame=some b->b∈frs (envOfC qual scope s₀.heap.objs.size f cd::outer):=λenv he b hb=>w4c.mpr ⟨env,he,hb⟩
 rF wpAny_leaves_madeW (base:=PySem.W.hideAll s.heap (frs (envOfC qual scope s₀.heap.objs.size f cd::outer))) (h:=s.heap) I.ok.frames rfl (λb o q=>PySem.W.of_hideAll _ q) (PySem.W.funFrames_hide I.stack hin) hx λh'' t fl _ _ up=>?_
 rF x77 I J (λb o q _ nb=>hideAll_get _ q nb) (λb u o q z=>?_) (λb o q=>?_) hx.new fl up hE
 ·~⟨o1,e1⟩:=(I.hok b u q).get;#e2:=hx.keeps b o1 e1;#z':h'.get? b=some o:=z;rw[e2]at z';@z';rF hideAll_get _ e1 λhb=>?_
  rw[I.stkFree b hb]at q;@q
 grind [W.hideAll_get]
tm passE:PassX (CX1 P w) X (λ_=>E0):=λ_ _ _ _ _ _ _ h=>by
 ~⟨_,_,_,_,_,_,_,_,_,_,z⟩:=h;!False.elim z
nD tCallX(sp:Sp)(dvs:List V)(EE:L2.St->XK)(t:TA):TE:=λσ H Q=>t σ H λvs H1=>sp (vs++dvs) H1 Q (EE σ)
section
variable{CX:CXT}{k:Nat}{C:Addr}{sp:Sp}{dvs:List V}{ds:List Value}{EE:L2.St->XK}{m:Str}{p:Pos}{e o:Expr}{ta:TE}{t:TA}
tm y76(F:FnOk X.prog X.w X.K X.mg X.base CX k f fd ps sp)(hr:Room k X.A)(hb:Binds X.K fd ps ds)(hd:Vals dvs ds)(hx:PassX CX X EE)
  (I:Inv X pins σ H s)(r:Vals vs us)(h:sp (vs++dvs) H Q (EE σ)):wpAny (model X.prog X.w) X.A (call (.ref f) us) (EP X pins σ Q) X.xe s:=by
 #r2:Vals (vs++dvs) (us++ds):=r.append hd;#hl:(us++ds).length=ps.length:=by rw[<- r2.length];!F.len _ _ _ _ h
 rF wpAny_call (codeAny_mono (F.run X.A X.stack s H ⟨us,[]⟩ (us++ds) (vs++dvs) Q (EE σ) hr I.env0 (hb s us I.kIn hl) r2 h) λr s' hq=>?_)
 cases r with
 |error e=>!hx pins σ H s e s' I hq
 |ok fl=>
  cases fl with
  |ret u=>!I.after hq
  |next=>!False.elim hq
  |brk=>!False.elim hq
  |cont=>!False.elim hq
tm y4e(F:FnOk X.prog X.w X.K X.mg X.base CX k f fd ps sp)(hr:Room k X.A)(hg:Gl X x)(hm:X.mg x=some (.ref f))(hk:keepIn X.K (.ref f)=true)(hb:Binds X.K fd ps ds)(hd:Vals dvs ds)(hx:PassX CX X EE)
  (ha:PA X (e::es) t)(hdb:(x==("__debug__":Str))=false:=by decide)(he:starEach (e::es) X.env=(false,eval e X.env)::starEach es X.env:=by rfl)(hpl:(backTo pos (starEach es X.env)).any (·.1)=false:=by rfl):
  PE X (.Call (.Name x p) (e::es) [] pos) (tCallX sp dvs EE t):=by
 intro pins s σ H Q I h;rF wpAny_Call_Name_kw (q93 I hg hm ?_ hdb);rF PySem.W.callWith_K (h₀:=X.base) I.ok.mod.kin hk (thn (ha pos pins s σ H _ I h) λus s1 ⟨vs,H1,I1,r,q⟩=>⟨I1.kIn,?_⟩) he hpl
 grind [y76]
end
tm Fun.okX(F:Fun K x qual st f fd)(S:FnScope N ps (defScope st))(len:∀vs H Q E,sp vs H Q E->vs.length=ps.length)
  (hbody:∀(cdv:Value)(A:Around)(outer:List Env)(s:Shared)(H:Hp)(vs:List V)(Q:VK)(E:XK),Room k (A.deeper (envOfC qual (defScope st) s.heap.objs.size f cdv))->sp vs H Q E ->
   ∃t,PSs (cxOf (CX1 P w) P w K mg base N qual (defScope st) f cdv A outer s H E) (defBody st) t/\t {nx:=λ_ H'=>Q .non H',rt:=Q} (start N vs) H):FnOk P w K mg base (CX1 P w) (k+1) f fd ps sp:=by
 ~⟨oc,od,kV,doc,pm,an,cdv,ct,osl,rfl,lk,hcd⟩:=F.ex;!z7c lk hcd S len λA outer s H vs Q E hr hsp=>hbody cdv A outer s H vs Q E hr hsp
nD strKeysIn(K:PySem.W.Frag)(a:Addr):Bool:=match K.lookup a with
 |some ⟨_,_,.dict es _,_⟩=>es.toList.all λe=>match e.key with|.str _ _=>true|_=>false
 |_=>false
nD noInitIn(K:PySem.W.Frag)(a:Addr):Bool:=strKeysIn K a&&PySem.W.nsIn K a "__init__"==some none
noncomputable abbrev veMro:List Value:=[.type "ValueError", .type "Exception", .type "BaseException", .type "object"]
nD excIn(K:PySem.W.Frag)(C A:Addr):Bool:=match K.lookup C,K.lookup A with
 |some ⟨.type "type", _,.cls cd,sl⟩,some ⟨_,_,.cls ca,_⟩=>(match sl.toList with
   |[_,_,_,_,some (.builtin n),_]=>n=="ValueError.__new__"&&cd.mro==(.ref C::.ref A::veMro)&&!cd.hasDel&&noInitIn K cd.ns&&noInitIn K ca.ns
   |_=>false)
 |_,_=>false
tm x3y(X:K.In h)(q:noInitIn K a=true):∃m,h.Ns a m/\m "__init__"=none:=by
 unfold noInitIn at q;rw[w0l]at q;~⟨q1,q2⟩:=q;unfold strKeysIn at q1;split at q1
 ·rename_i c d es n sl hl
  #hs:StrKeys es:=λe he=>by
   grind
  rF⟨nsFind es,⟨_,es,n,X _ _ hl,rfl,hs,λ_=>rfl⟩,?_⟩
  #q2:=beq_iff_eq.mp q2
  grind [W.nsIn,nsFind,findBy]
 ·@q1
tm q80(X:K.In h)(q:excIn K C A=true):
  ∃nm qn N bs hdct sn sub ab col dd k0 k1 k2 k3 k5 mN,h.get? C=some (excClassObj nm qn C N bs (.ref A::veMro) hdct sn sub ab col dd k0 k1 k2 k3 k5 "ValueError.__new__")/\h.Ns N mN/\mN "__init__"=none/\OwnTail h veMro (.ref A::veMro):=by
 unfold excIn at q;split at q
 ·rename_i dd cd sl ca0 cad ca csl hC hA;split at q
  ·rename_i k0 k1 k2 k3 n k5 hs;simp only[w0l,beq_iff_eq,w3l]at q;~⟨⟨⟨⟨rfl,hm⟩,hdel⟩,hn⟩,hna⟩:=q;~⟨nm,bs,mro,ns,qn,hd,sn,sub,ab,col,del⟩:=cd;dsimp only at hm hdel hn;subst hm hdel
   #hsl:sl=#[k0,k1,k2,k3,some (.builtin "ValueError.__new__"),k5]:=by
    grind
   subst hsl;~⟨mN,hN,hi⟩:=x3y X hn;~⟨mA,hNA,hiA⟩:=x3y X hna;!⟨nm,qn,ns,bs,hd,sn,sub,ab,col,dd,k0,k1,k2,k3,k5,mN,X _ _ hC,hN,hi,.own (X _ _ hA) hNA hiA .base⟩
  ·@q
 ·@q
nD tRaise(C:Addr)(EE:L2.St->XK)(t:TA):TS:=λ_ σ H=>t σ H λvs H1=>vs.length<=sizeLine/\EE σ (.ref C) none H1
section
variable{C Ac:Addr}{EE:L2.St->XK}{np cpos:Pos}{e:Expr}{t:TA}
tm y4f(hx:RaisX X EE)(hc:X.calm=true)(hg:Gl X x)(hm:X.mg x=some (.ref C))(hC:excIn X.K C Ac=true)(ha:PA X (e::es) t)
  (hdb:(x==("__debug__":Str))=false:=by decide)(he:starEach (e::es) X.env=(false,eval e X.env)::starEach es X.env:=by rfl)(hpl:(backTo cpos (starEach es X.env)).any (·.1)=false:=by rfl):
  PS X (.Raise (some (.Call (.Name x np) (e::es) [] cpos)) none pos) (tRaise C EE t):=by
 intro pins s σ H D I h;~⟨nm,qn,N,bs,hdct,sn,sub,ab,col,dd,k0,k1,k2,k3,k5,mN,hC1,hN,hi,T⟩:=q80 I.kIn hC
 #hpl2:(backTo cpos (starEach (e::es) X.env)).any (·.1)=false:=by
  simp_all [backTo]
 rF wpAny_Raise_call_subT (C:=C) (nm:=nm) (q:=qn) (N:=N) (bs:=bs) (bm:=.ref Ac::veMro) (hdct:=hdct) (sn:=sn) (sub:=sub) (ab:=ab) (col:=col) (dd:=dd) (k0:=k0) (k1:=k1) (k2:=k2) (k3:=k3) (k5:=k5)
  PySem.F.excBase_ValueError (mN:=mN) (by rfl) (I.ok.hd hc) hpl2 hi (q93 I hg hm ⟨rfl,?_⟩ hdb)
 #key:=ha cpos pins s σ H _ I h;rw[he]at key |-
 rF Calls.evalArgs_plain (wpAny_mono key (λus s1 ⟨vs,H1,I1,r,hz,q⟩=>?_) λ_ _ y=>y)
 ~⟨nm',qn',N',bs',hdct',sn',sub',ab',col',dd',k0',k1',k2',k3',k5',mN',hC1',hN',hi',T'⟩:=q80 I1.kIn hC;#kk:∀b o,X.base.get? b=some o->s1.heap.get? b=some o:=I1.bk
 #hCb:X.base.get? C=s1.heap.get? C:=by
  ~⟨_,_,_,_,_,_,_,_,_,_,_,_,_,_,_,_,z,_⟩:=q80 I.ok.mod.kin hC
  grind
 #hCs:s.heap.get? C=s1.heap.get? C:=by
  ~⟨_,_,_,_,_,_,_,_,_,_,_,_,_,_,_,_,z,_⟩:=q80 I.ok.mod.kin hC;rw[I.bk _ _ z];!(kk _ _ z).symm
 #hC2:s1.heap.get? C=some (excClassObj nm qn C N bs (.ref Ac::veMro) hdct sn sub ab col dd k0 k1 k2 k3 k5 "ValueError.__new__"):=hCs ▸ hC1;rw[hC2]at hC1';@hC1';#em:mN' "__init__"=none:=hi'
 #hN2:s1.heap.Ns N mN:=by
  ~⟨o1,es1,ep1,a1,a2,a3,a4⟩:=hN;~⟨_,_,N3,_,_,_,_,_,_,_,_,_,_,_,_,m3,z3,n3,_,_⟩:=q80 I.ok.mod.kin hC;#z4:=I.bk _ _ z3;rw[hC1]at z4;@z4;~⟨o5,es5,ep5,b1,b2,b3,b4⟩:=n3;#c1:=I.bk _ _ b1;rw[a1]at c1;@c1;!⟨_,es1,ep1,I1.bk _ _ b1,a2,a3,a4⟩
 !⟨rfl,by grind [Vals.length],hC2,hN2,T',λh' ea hme=>hx pins σ H1 s1 ea (.ref C) us h' I1 hme q⟩
end
nD excO(e:Addr)(cls:Value):HO:=.ext λh=>∃o vs,h.get? e=some o/\o.cls=cls/\o.data=.fields vs
tm y77{h:Heap}{e:Addr}(x:∃o vs,h.get? e=some o/\o.cls=cls/\o.data=.fields vs):ObjOk P w H h e (excO e cls):=by
 ~⟨o,vs,h1,h2,h3⟩:=x;rF⟨⟨o,vs,h1,h2,h3⟩,⟨o,h1⟩,λg1 g2 ⟨o',vs',q1,q2,q3⟩ k=>⟨o',vs',k o' q1,q2,q3⟩⟩
noncomputable abbrev Cx.tr(X:Cx)(pn:List (Addr×Obj))(xe:Value->Shared->Prop):Cx:={X with pn:=pn,xe:=xe}
noncomputable abbrev Cx.hn(X:Cx)(e:Addr):Cx:={X with A:=X.A.mark (some (.ref e)),calm:=false,xe:=λ_ _=>False}
section
variable{pins pins':List (Addr×Obj)}{s:Shared}{xe:Value->Shared->Prop}{e:Addr}
tm Cx.Ok.tr(ok:X.Ok)(pn:List (Addr×Obj))(xe:Value->Shared->Prop):(X.tr pn xe).Ok:=
 ⟨ok.mod,ok.kind,ok.glob,ok.blt,ok.above,ok.inj,ok.has,ok.cab,ok.hd,ok.frames,ok.stk,ok.exf,ok.bs,ok.bsz,ok.noex,ok.exfs,ok.funs,ok.frf,ok.tab⟩
tm Cx.Ok.untr{pn:List (Addr×Obj)}(ok:(X.tr pn xe).Ok):X.Ok:=
 ⟨ok.mod,ok.kind,ok.glob,ok.blt,ok.above,ok.inj,ok.has,ok.cab,ok.hd,ok.frames,ok.stk,ok.exf,ok.bs,ok.bsz,ok.noex,ok.exfs,ok.funs,ok.frf,ok.tab⟩
tm Cx.Ok.hn(ok:X.Ok)(e:Addr):(X.hn e).Ok:=
 ⟨ok.mod,ok.kind,ok.glob,ok.blt,ok.above,ok.inj,ok.has,ok.cab,(λz=>nomatch z),ok.frames,ok.stk,ok.exf,ok.bs,ok.bsz,ok.noex,ok.exfs,ok.funs,ok.frf,ok.tab⟩
tm Inv.tr(I:Inv X pins σ H s)(xe:Value->Shared->Prop):Inv (X.tr (X.pn++pins) xe) [] σ H s:=
 ⟨I.ok.tr _ xe,I.os,I.bare,I.base,I.loc,I.cell,I.free,I.freeC,λp hp=>I.pin p (by simpa using hp),I.hok,I.len⟩
tm Inv.untr(I:Inv (X.tr (X.pn++pins) xe) pins' σ H s):Inv X pins σ H s:=
 ⟨I.ok.untr,I.os,I.bare,I.base,I.loc,I.cell,I.free,I.freeC,λp hp=>I.pin p (w0r _ hp),I.hok,I.len⟩
tm Inv.hn(I:Inv X pins σ H s)(e:Addr):Inv (X.hn e) pins σ H s:=
 ⟨I.ok.hn e,I.os,I.bare,I.base,I.loc,I.cell,I.free,I.freeC,I.pin,I.hok,I.len⟩
tm Inv.unhn(ok:X.Ok)(I:Inv (X.hn e) pins σ H s):Inv X pins σ H s:=
 ⟨ok,I.os,I.bare,I.base,I.loc,I.cell,I.free,I.freeC,I.pin,I.hok,I.len⟩
tm Fly.un{h2 h3:Heap}{B:Heap}{a0:Value}(un:Un (frs l) [] H H' h1 h2)(fly:Fly l H H' h1 h2 e cls B)(fl:Heap.FlyingW B l e cls a0 h3)(up:h2.UpToSlots h3):Un (frs l) [] H H' h1 h3:=by
 ~⟨a1,fl1⟩:=fly.fl;#ex0:∀b:Addr,b∉([]:List Addr):=λb z=>nomatch z
 #slot:∀b o,h1.get? b=some o->H b=none->b∈frs l->∃sl,h3.get? b=some {o with slots:=sl}:=λb o q n hb=>by
  ~⟨sl,e1⟩:=un.slot b o q n hb (ex0 b);~⟨_,o2,e2,nd⟩:=fl1.2.2.1.mem hb;rw[e1]at e2;@e2;~⟨sl',e3⟩:=up b _ e1 nd;!⟨sl',e3⟩
 rF⟨λb o q n hb hx=>fl.1 b o (fly.old b o q n hb),λb o q n hb hx=>slot b o q n hb,un.free,λb o q hx=>?_,un.tups,un.frzs,un.tbls⟩
 rcases fly.all b o q with hb|⟨o',z⟩
 ·~⟨_,o2,e2,nd⟩:=fl.2.2.1.mem hb;!⟨o2,e2⟩
 ·!⟨o',fl.1 b o' z⟩
tm Fly.hok{h2 h3:Heap}{B:Heap}{a0:Value}(hok:HOk P w H' h2)(fly:Fly l H H' h1 h2 e cls B)(fl:Heap.FlyingW B l e cls a0 h3):HOk P w H' h3:=λa o q=>by
 rF(hok a o q).stay (λb u hb z=>?_) (λ_ z=>z) λ_ _ _ z=>z
 rcases hb with rfl|hb
 ·!fl.1 _ _ (fly.trk b o u q z)
 ·!fl.1 _ _ (fly.trk b _ u hb z)
tm Fly.free{h2:Heap}{B:Heap}(hok:HOk P w H' h2)(fly:Fly l H H' h1 h2 e cls B):H' e=none:=by
 ~⟨a0,fl⟩:=fly.fl;cases q:H' e with
 |none=>rfl
 |some u=>
  ~⟨o,z⟩:=(hok e u q).get;#:=fly.trk e u o q z;rw[fl.2.1]at this;@this
tm Un.taken{fs:List Addr}{h3:Heap}{o:HO}(un:Un fs [] H H' h1 h3)(new:h1.get? e=none)(fr:H' e=none):Un fs [] H (upd H' e o) h1 h3:=by
 rF⟨un.keep,un.slot,λb ob q n hx=>?_,un.there,λb xs q=>?_,λb ob u q=>?_,λb ps q=>?_⟩
 ·#:b≠e:=λz=>by grind
  rw[q0g this];!un.free b ob q n hx
 ·#z:=un.tups b xs q;rw[q0g (q0p z fr)];!z
 ·#z:=un.frzs b ob u q;rw[q0g (q0p z fr)];!z
 ·~⟨more,z⟩:=un.tbls b ps q;!⟨more,by rw[q0g (q0p z fr)];!z⟩
tm HOk.taken{h:Heap}{o:HO}(hok:HOk P w H' h)(fr:H' e=none)(new:ObjOk P w (upd H' e o) h e o):HOk P w (upd H' e o) h:=λb u q=>by
 by_cases hb:b=e
 ·grind [q0k]
 ·rw[q0g hb]at q;!(hok b u q).stay (λ_ _ _ z=>z) (λc z=>by rw[q0g (q0p z fr)];!z) λc xs _ z=>by rw[q0g (q0p z fr)];!z
end
structure RoomH(k:Nat)(A:Around):Prop where
 dp:A.depth+3*k+5<recursionLimit
 un:A.units+16*k+200<cLine
 gd:A.guards=some []
structure FnOkH(P:Program)(w:World)(K:PySem.W.Frag)(mg:Str->Option Value)(base:Heap)(k:Nat)(f:Addr)(fd:FuncData)(ps:List Str)(sp:Sp):Prop where
 len:∀vs H Q E,sp vs H Q E->vs.length=ps.length
 run:∀(A:Around)(outer:List Env)(s:Shared)(H:Hp)(args:Args)(us:List Value)(vs:List V)(Q:VK),RoomH k A->Env0 P w K mg base A outer s H->BindsTo s fd args (ps.zip us)->Vals vs us->sp vs H Q E0 ->
  codeAny (model P w) A (.call (.ref f) args) (CR CX0 outer P w H s Q E0) s
noncomputable abbrev Cx.cp(X:Cx)(Nc:List Str)(scope:Scope)(cl:List (Str×Addr))(C:Addr)(s₀:Shared)(H₀:Hp)(ex:List Addr):Cx:=
 {X with N:=Nc,s₀:=s₀,H₀:=H₀,env:=compEnvC scope cl C X.env,outer:=X.stack,ex:=ex,fn:=λ_=>false,pn:=[],xe:=λ_ _=>False}
tm q6t:∀(names:List (Str×NameKind))(acc:List (Str×Addr)),(∀x∈names,x.2=.free->∃c,env.cells.lookup x.1=some c) ->
  ∃cl,(forIn names acc fun(x:Str×NameKind) (r:List (Str×Addr))=>(if(x.2==NameKind.free)=true then(cellOf env x.1 >>= λa=>pure (ForInStep.yield ((x.1,a)::r)))else pure (ForInStep.yield r):Sem (ForInStep (List (Str×Addr)))))=pure cl /\
   (∀x c,cl.lookup x=some c->acc.lookup x=some c\/env.cells.lookup x=some c)/\(∀x,((x,NameKind.free)∈names\/(acc.lookup x).isSome=true)->(cl.lookup x).isSome=true)
 |[],acc,_=>⟨acc,rfl,λx c h=>.inl h,λx h=>h.elim (λz=>nomatch z) id⟩
 |(n,k)::r,acc,h=>by
  by_cases hk:k=.free
  ·subst hk;~⟨c,hc⟩:=h (n,.free) w0i rfl;~⟨cl,e1,e2,e3⟩:=q6t r ((n,c)::acc) λx hx=>h x (w0e _ hx)
   rF⟨cl,?_,λx d hd=>?_,λx hx=>?_⟩
   ·rw[w2j];#:cellOf env n=pure c:=by unfold cellOf;rw[hc]
    grind
   all_goals grind
  ·~⟨cl,e1,e2,e3⟩:=q6t r acc λx hx=>h x (w0e _ hx)
   grind
tm x1z(h:∀x∈scope.names,x.2=.free->∃c,env.cells.lookup x.1=some c):
  ∃cl,closureFor scope env=pure cl/\(∀x c,cl.lookup x=some c->env.cells.lookup x=some c)/\∀x,(x,NameKind.free)∈scope.names->∃c,cl.lookup x=some c:=by
 ~⟨cl,e1,e2,e3⟩:=q6t scope.names [] h
 grind [Option.isSome_iff_exists,closureFor]
theorem q81{env : Env} : ∀ {names : List (Str × NameKind)} {x : Str}, (∀ y ∈ names, y.2 ≠ .cell) ->
    ((names.map λ(n, k) => if (k == NameKind.free && env.scope.kind == .function && env.kindOf n == some .cell) then (n, NameKind.cell) else (n, k)).lookup x = some .cell \/
     (names.map λ(n, k) => if (k == NameKind.free && env.scope.kind == .function && env.kindOf n == some .cell) then (n, NameKind.cell) else (n, k)).lookup x = some .free) -> (x, NameKind.free) ∈ names
  | [], x, _, h => by grind
  | (n, k) :: r, x, hc, h => by
    #ih := @q81 env r x λy hy => hc y (w0e _ hy)
    grind
tm x3z{prog:Program}{A:Around}{R:Result->Shared->Prop}{s:Shared}{elt target iter:Expr}{scope:Scope}{it acc:Value}{env:Env}(I:Nat->Shared->Prop)
  (turn:∀n s,I n s->wpAny (model prog w) A (pyNext it) (λr s1=>match r with
   |none=>R (.ok .next) s1
   |some v=>wpAny (model prog w) A (letOwnedTupleGo target it v) (λ_ s2=>wpAny (model prog w) A (assign target env v) (λ_ s3=>
     wpAny (model prog w) A (forIn ifs true λc r=>if r=true then do let ok <- isTrue c env (eval c env);pure (ForInStep.yield ok)else pure (ForInStep.yield r)) (λok s4=>
      if ok=true then wpAny (model prog w) A (eval elt env) (λx s5=>wpAny (model prog w) A (call (.builtin "list.append") [acc,x]) (λ_ s6=>∃m,m<n/\I m s6) (λ_ _=>False) s5) (λ_ _=>False) s4
      else ∃m,m<n/\I m s4) (λ_ _=>False) s3) (λ_ _=>False) s2) (λ_ _=>False) s1) (λ_ _=>False) s)
  (n:Nat)(h:I n s):codeAny (model prog w) A (.compLoop (.ListComp elt [⟨target,iter,ifs,0⟩] scope pos) 0 it acc env) R s:=by
 rF codeAny_loop rfl I (λn s hI=>?_) n h
 show wpAny _ A ((compTurn (.ListComp elt [⟨target,iter,ifs,0⟩] scope pos) 0 it acc env).onRaise (λx=>do noteFrame x env;theTreesLotGoes x)) _ _ s
 rF wpAny_noted ?_;rw[compTurn_list];rF wpAny_bind (wpAny_standAt (wpAny_bind (wpAny_mono (turn n s hI) (λr s1 h1=>?_) λ_ _ z=>z.elim)))
 cases r with
 |none=>!wpAny_pure h1
 |some v=>
  rF wpAny_bind (wpAny_mono h1 (λ_ s2 h2=>?_) λ_ _ z=>z.elim)
  rF wpAny_bind (wpAny_mono h2 (λ_ s3 h3=>?_) λ_ _ z=>z.elim)
  rF wpAny_bind (wpAny_mono h3 (λok s4 h4=>?_) λ_ _ z=>z.elim)
  cases ok with
  |false=>!wpAny_pure ⟨rfl,h4⟩
  |true=>!wpAny_bind (wpAny_bind (wpAny_mono h4 (λx s5 h5=>wpAny_bind (wpAny_mono h5 (λ_ s6 h6=>wpAny_pure (wpAny_pure ⟨rfl,h6⟩)) λ_ _ z=>z.elim)) λ_ _ z=>z.elim))
nD pj(js:List Nat)(σ:St):St:=js.map λj=>(σ[j]?).getD none
tm z3f{i:Nat}(h:(pj js σ)[i]?=some (some v)):∃j,js[i]?=some j/\σ[j]?=some (some v):=by
 grind [pj]
nD PTs(X:Cx)(ifs:List Expr)(t:TT):Prop:=
 ∀(pins:List (Addr×Obj))(s:Shared)(σ:St)(H:Hp)(Q:Bool->Hp->Prop),Inv X pins σ H s->t σ H Q ->
  wpAny (model X.prog X.w) X.A (forIn ifs true λc r=>if r=true then do let ok <- isTrue c X.env (eval c X.env);pure (ForInStep.yield ok)else pure (ForInStep.yield r)) (TP X pins σ Q) X.xe s
nD tYes:TT:=λ_ H Q=>Q true H
tm y78:PTs X [] tYes:=λpins s σ H Q I h=>wpAny_tests_nil ⟨H,I,h⟩
tm y79(h:PT X c t):PTs X [c] t:=λpins s σ H Q I hq=>wpAny_tests_one (h pins s σ H Q I hq)
nD Kp(σ σ':St):Prop:=∀(i:Nat) v,σ[i]?=some (some v)->σ'[i]?=some (some v)
tm Kp.one:Kp (List.replicate 1 none++σ) (some v::σ):=λi u h=>by
 grind
nD tComp(wi:TI)(nl:Nat)(js:List Nat)(g:TG)(tc:TT)(te:TE):TE:=λσ H Q=>wi σ H λJ H1=>∀D,H1 D=none->∃W:Nat->Nat->Hp->Prop,(∃m,W 0 m (upd H1 D (.lst [])))/\∀i m H2,W i m H2 ->
 (J.stop i H2/\Q (.ref D) H2)\/(J.go i H2/\∀x H3,J.yld i H2 x H3->g x (List.replicate nl none++pj js σ) H3 λσ4 H4=>Kp (List.replicate nl none++pj js σ) σ4/\tc σ4 H4 λb H5=>
  if b=true then te σ4 H5 λy H6=>∃ys,H6 D=some (.lst ys)/\ys.length<sizeLine/\∃m',m'<m/\W (i+1) m' (upd H6 D (.lst (ys++[y])))else ∃m',m'<m/\W (i+1) m' H5)
section
variable{elt target iter:Expr}{scope:Scope}{wi:TI}{g:TG}{tc:TT}{te:TE}
tm x5s
  (I:Inv X pins σ H s)(hfp:∀b∈fp,FpOk X pins H b)(hob:∀b∈fp,∃o,s.heap.get? b=some o/\∀v,o.data≠.cell v)
  (hk:scope.kind=.function)(hcell:∀y∈scope.names,y.2≠.cell)(hcl:∀x c,cl.lookup x=some c->X.env.cells.lookup x=some c)(hcf:∀x,(x,NameKind.free)∈scope.names->∃c,cl.lookup x=some c)
  (hj:∀(i j:Nat) y,Nf[i]?=some y->js[i]?=some j->X.N[j]?=some y)(hlen:js.length=Nf.length)
  (hNf:∀y∈Nf,(y,NameKind.free)∈scope.names/\Vis X.env.scope y/\X.env.kindOf y≠some .local)
  (hvis:∀y∈Nf,(relabel scope X.env).names.lookup y=some .cell\/(relabel scope X.env).names.lookup y=some .free)
  (hn:h1.Ns (s.heap.objs.size+1) mC)(hs:Heap.SameBut (s.heap.objs.size+1) ((s.heap.push {cls:=.type "list", dict:=none,data:=.seq ([]:List Value).toArray}).push {cls:=.type "dict", data:=.dict #[]}) h1):
  Inv (X.cp (Nl++Nf) scope cl (s.heap.objs.size+1) {s with heap:=s.heap.push {cls:=.type "list", dict:=none,data:=.seq ([]:List Value).toArray}} (upd H s.heap.objs.size (.lst [])) fp) [] (List.replicate Nl.length none++pj js σ) (upd H s.heap.objs.size (.lst [])) {s with heap:=h1,toks:=tk}:=by
 #fD:H s.heap.objs.size=none:=I.hok.fresh (w0b _);#up1:∀b u,s.heap.get? b=some u->(s.heap.push {cls:=.type "list", dict:=none,data:=.seq ([]:List Value).toArray}).get? b=some u:=λb u q=>Heap.get?_push_of_some _ q
 #szp:(s.heap.push {cls:=.type "list", dict:=none,data:=.seq ([]:List Value).toArray}).objs.size=s.heap.objs.size+1:=Heap.size_push ..
 #up2:∀b u,(s.heap.push {cls:=.type "list", dict:=none,data:=.seq ([]:List Value).toArray}).get? b=some u->h1.get? b=some u:=λb u q=>by
  #hlt:=Heap.lt_size q;rw[szp]at hlt;!(hs.2 b (w0w hlt)).trans (Heap.get?_push_of_some _ q)
 #up:∀b u,s.heap.get? b=some u->h1.get? b=some u:=λb u q=>up2 b u (up1 b u q)
 #ltOf:∀b o,s.heap.get? b=some o->b≠s.heap.objs.size:=λb o q=>w0w (Heap.lt_size q)
 #fr0:∀b o,s.heap.get? b=some o->H b=none->upd H s.heap.objs.size (.lst []) b=none:=λb o q n=>by grind [q0g]
 #hasC:∀x,((relabel scope X.env).names.lookup x=some .cell\/(relabel scope X.env).names.lookup x=some .free)->∃c,cl.lookup x=some c:=λx hx=>hcf x (q81 hcell hx)
 #hokD:HOk X.prog X.w (upd H s.heap.objs.size (.lst [])) (s.heap.push {cls:=.type "list", dict:=none,data:=.seq ([]:List Value).toArray}):=
  I.hok.laid up1 (w0b _) ⟨w1g _,[],_,.nil,Heap.get?_push_size _ rfl⟩
 #cellK:∀x c,cl.lookup x=some c->∃v,s.heap.IsCell c v:=λx c e=>I.cell x c (hcl x c e)
 #cellUp:∀c v,s.heap.IsCell c v->h1.IsCell c v:=λc v ⟨o,q,r⟩=>⟨o,up _ _ q,r⟩
 rF⟨⟨I.ok.mod,hk,I.ok.glob,I.ok.blt,(by show(s.heap.push _).objs.size<=_;rw[szp];!w0b _),λx y c e1 e2=>I.ok.inj x y c (hcl x c e1) (hcl y c e2),λx hx=>hasC x hx,(λx c z=>nomatch z),I.ok.hd,I.ok.frames,.inl rfl,λb hb=>⟨?_,λx c e=>?_⟩,λb o q=>?_,?_,λb o q hb=>?_,λb hb hb2=>?_,?_,λb hb=>?_,(I.ok.tab.un I.base).laid fD⟩,
  rfl,I.bare,Un.kept up2,⟨mC,hn,λi y v e1 e2 e3=>?_⟩,λx c e=>?_,?_,λx c e=>?_,λp hp=>(by @hp),hokD.kept up2,?_⟩
 ·~⟨o,q,_⟩:=hob b hb;!w0w (w1q (Heap.lt_size q))
 ·!(hfp b hb).2.2.2.2.1 x c (hcl x c e)
 ·~⟨q1,q2⟩:=I.bs b o q
  grind
 ·show X.base.objs.size<=(s.heap.push _).objs.size;rw[szp];!Nat.le_succ_of_le (w0v I.ok.bsz I.sz)
 ·rcases(hfp b hb).2.2.2.1 with z|z
  ·!I.ok.noex b o q z
  ·~⟨q1,_⟩:=I.ok.bs b o q;!absurd (Heap.lt_size q1) (w4j.mpr z)
 ·rcases w0d.mp (I.stkSub b hb2)with z|z
  ·!(hfp b hb).2.1 z
  ·!(hfp b hb).2.2.1 z
 ·!I.stack.of_keeps λb o q _=>⟨o,up1 _ _ q,rfl⟩
 ·~⟨_,o,q,_⟩:=I.stack.mem hb;!fr0 b o q (I.stkFree b hb)
 ·-- the names
  #e2':(List.replicate Nl.length none++pj js σ)[i]?=some (some v):=e2;#e1':(Nl++Nf)[i]?=some y:=e1
  by_cases hi:i<Nl.length
  ·grind
  ·#hi':Nl.length<=i:=w4j.mp hi;rw[w1d (by simpa using hi')]at e2';rw[w1d hi']at e1';rw[List.length_replicate]at e2';~⟨j,ej,eσ⟩:=z3f e2';#hNy:=hj _ _ _ e1' ej;~⟨hfr,hv,hnl⟩:=hNf y (w1m e1');~⟨m,hm,hl⟩:=I.loc;~⟨u,r,l⟩:=hl j y v hNy eσ hv;rF⟨u,r,?_⟩;rcases l with⟨k,_⟩|⟨k,c,ec,z⟩
   ·!absurd k hnl
   ·~⟨c',ec'⟩:=hcf y hfr;#:=hcl y c' ec';rw[ec]at this;@this;!.inr ⟨hvis y (w1m e1'),c,ec',cellUp _ _ z⟩
 ·~⟨v,z⟩:=cellK x c e
  grind
 ·show upd H s.heap.objs.size (.lst []) (s.heap.objs.size+1)=none;rw[q0g (w4o _)];!I.hok.fresh (w5q _)
 ·~⟨v,o,q,_⟩:=cellK x c e;!fr0 c o q (I.freeC x c (hcl x c e))
 grind [pj]
tm y02{σ':St}
  (I:Inv X pins σ H s)(hfp:∀b∈fp,FpOk X pins H b)
  (J:Inv (X.cp Nc scope cl (s.heap.objs.size+1) {s with heap:=s.heap.push {cls:=.type "list", dict:=none,data:=.seq ([]:List Value).toArray}} (upd H s.heap.objs.size (.lst [])) fp) [] σ' H' s')
  (hs:Heap.SameBut (s.heap.objs.size+1) s'.heap h'):Inv X pins σ H' {s' with heap:=h'}:=by
 #fD:H s.heap.objs.size=none:=I.hok.fresh (w0b _);#up1:∀b u,s.heap.get? b=some u->(s.heap.push {cls:=.type "list", dict:=none,data:=.seq ([]:List Value).toArray}).get? b=some u:=λb u q=>Heap.get?_push_of_some _ q
 #neC:∀b o,s.heap.get? b=some o->b≠s.heap.objs.size+1:=λb o q=>w0w (w1q (Heap.lt_size q))
 #fr0:∀b o,s.heap.get? b=some o->H b=none->upd H s.heap.objs.size (.lst []) b=none:=λb o q n=>by rw[q0g (w0w (Heap.lt_size q))];!n
 #old:∀b u,H b=some u->upd H s.heap.objs.size (.lst []) b=some u:=λb u q=>by rw[q0g (q0p q fD)];!q
 #B:Un (frs X.stack) fp (upd H s.heap.objs.size (.lst [])) H' (s.heap.push {cls:=.type "list", dict:=none,data:=.seq ([]:List Value).toArray}) s'.heap:=J.base;#hC:H' (s.heap.objs.size+1)=none:=J.free;rF I.call' (s':={s' with heap:=h'}) (ch:=fp) (J.os.trans rfl) ⟨λb o q n hb hx=>?_,λb o q n hb hx=>?_,λb o q n hx=>B.free b o (up1 _ _ q) (fr0 b o q n) hx,λb o q hx=>?_,λb xs q=>B.tups b xs (old _ _ q),λb o u q=>B.frzs b o u (old _ _ q),λb ps q=>B.tbls b ps (old _ _ q)⟩ (λa o q=>?_) J.bare λb hb=>?_
 ·!(hs.2 b (neC b o q)).trans (B.keep b o (up1 _ _ q) (fr0 b o q n) hb hx)
 ·~⟨sl,z⟩:=B.slot b o (up1 _ _ q) (fr0 b o q n) hb hx;!⟨sl,(hs.2 b (neC b o q)).trans z⟩
 ·~⟨o',z⟩:=B.there b o (up1 _ _ q) hx;!⟨o',(hs.2 b (neC b o q)).trans z⟩
 ·rF(J.hok a o q).stay (λc v hc z=>(hs.2 c ?_).trans z) (λ_ z=>z) λ_ _ _ z=>z
  grind
 ·~⟨_,f1,f2,f3,f4,f5⟩:=hfp b hb
  grind
tm y8a{Nl Nf:List Str}{js:List Nat}(hc:X.calm=true)(hi:PI X target iter wi)
  (hk:scope.kind=.function)(hcell:∀y∈scope.names,y.2≠.cell)(hnames:∀x∈scope.names,x.2=.local->scope.names.lookup x.1=some .local)
  (hfree:∀x∈scope.names,x.2=.free->X.env.kindOf x.1=some .cell\/X.env.kindOf x.1=some .free)
  (hj:∀(i j:Nat) y,Nf[i]?=some y->js[i]?=some j->X.N[j]?=some y)(hlen:js.length=Nf.length)
  (hNf:∀y∈Nf,(y,NameKind.free)∈scope.names/\Vis X.env.scope y/\X.env.kindOf y≠some .local)
  (hvis:∀y∈Nf,(relabel scope X.env).names.lookup y=some .cell\/(relabel scope X.env).names.lookup y=some .free)
  (hg:∀cl C s₀ H₀ ex,PG (X.cp (Nl++Nf) scope cl C s₀ H₀ ex) target g)(ht:∀cl C s₀ H₀ ex,PTs (X.cp (Nl++Nf) scope cl C s₀ H₀ ex) ifs tc)(he:∀cl C s₀ H₀ ex,PE (X.cp (Nl++Nf) scope cl C s₀ H₀ ex) elt te)
  (hs:∀x,foldedSetIterable iter X.env x=pure x:=by intro _;rfl):
  PE X (.ListComp elt [⟨target,iter,ifs,0⟩] scope pos) (tComp wi Nl.length js g tc te):=by
 intro pins s σ H Q I h;~⟨cl,hclos,hcl,hcf⟩:=x1z (scope:=scope) (env:=X.env) λx hx hf=>I.ok.has x.1 (hfree x hx hf)
 rw[eval_ListComp];rF wpAny_comprehension_free (use:=none) rfl hs hclos hk hnames (thn (hi pins s σ H _ I h) λv s1 h1=>thn h1 λitv s2 h2=>?_)
 ~⟨it,fp,tn,J,H2,e,I2,T,st2,f2,rd⟩:=h2;subst e;rF wpAny_newObj_type (wpAny_newFunctionEnv hcell (by intro y hy;simp at hy) (λh₁ hns₁ hsb₁=>?_) hk)
 dsimp only at hns₁ hsb₁ |-
 #szp:(s2.heap.push {cls:=.type "list", dict:=none,data:=.seq ([]:List Value).toArray}).objs.size=s2.heap.objs.size+1:=Heap.size_push ..;rw[szp]at hns₁ hsb₁ |-
 #fD:H2 s2.heap.objs.size=none:=I2.hok.fresh (w0b _);~⟨W,⟨m0,w0⟩,turn⟩:=rd s2.heap.objs.size fD;#obj2:=T.obj 0 s2.heap st2;#IS:=x5s (Nl:=Nl) (Nf:=Nf) (js:=js) (cl:=cl) (tk:=s2.toks+([]:List (Str×Value)).length) I2 f2 obj2 hk hcell hcl hcf hj hlen hNf hvis hns₁ hsb₁
 #upS:∀b u,s2.heap.get? b=some u->h₁.get? b=some u:=λb u q=>by
  #hlt:=Heap.lt_size q;!(hsb₁.2 b (w0w (w1q hlt))).trans (Heap.get?_push_of_some _ (Heap.get?_push_of_some _ q))
 #stS:tn 0 h₁:=T.keep 0 s2.heap h₁ st2 λb hb o q=>upS b o q
 #noD:∀b∈fp,upd H2 s2.heap.objs.size (.lst []) b=none:=λb hb=>by
  ~⟨o,q,_⟩:=obj2 b hb;rw[q0g (w0w (Heap.lt_size q))];!(f2 b hb).1
 #stat:∀{H':Hp},(∀b∈fp,H' b=none)->∀b∈fp,FpOk (X.cp (Nl++Nf) scope cl (s2.heap.objs.size+1) {s2 with heap:=s2.heap.push {cls:=.type "list", dict:=none,data:=.seq ([]:List Value).toArray}} (upd H2 s2.heap.objs.size (.lst [])) fp) [] H' b:=λhn b hb=>by
  rF⟨hn b hb,(IS.ok.exf b hb).1,IS.ok.exfs b hb,.inl hb,(IS.ok.exf b hb).2,λp hp=>(by @hp)⟩
 #loop:∀s4:Shared,s4={s2 with heap:=h₁,toks:=s2.toks+([]:List (Str×Value)).length} ->
   codeAny (model X.prog X.w) X.A (.compLoop (.ListComp elt [⟨target,iter,ifs,0⟩] scope pos) 0 (.ref it) (.ref s2.heap.objs.size) (compEnvC scope cl (s2.heap.objs.size+1) X.env))
    (compPost (model X.prog X.w) X.A X.xe none (EP X pins σ Q) (.ref s2.heap.objs.size) (s2.heap.objs.size+1)) s4:=by
  rintro s4 rfl;rF x3z (λn s'=>∃i H',Inv (X.cp (Nl++Nf) scope cl (s2.heap.objs.size+1) {s2 with heap:=s2.heap.push {cls:=.type "list", dict:=none,data:=.seq ([]:List Value).toArray}} (upd H2 s2.heap.objs.size (.lst [])) fp) [] (List.replicate Nl.length none++pj js σ) H' s'/\tn i s'.heap/\(∀b∈fp,H' b=none)/\W i n H') ?_ m0 ⟨0,_,IS,stS,noD,w0⟩
  rintro n s3 ⟨i,H3,I3,st3,fr3,w3⟩;rcases turn i n H3 w3 with⟨stop,qn⟩|⟨go,step⟩
  ·rF thn (T.done (X.cp (Nl++Nf) scope cl (s2.heap.objs.size+1) {s2 with heap:=s2.heap.push {cls:=.type "list", dict:=none,data:=.seq ([]:List Value).toArray}} (upd H2 s2.heap.objs.size (.lst [])) fp) rfl rfl rfl hc i [] s3 _ H3 _ I3 (stat fr3) st3 stop) λr s5 ⟨hr,I5⟩=>?_
   subst hr;~⟨m5,hn5,_⟩:=I5.loc;rF⟨m5,hn5,λh' hs'=>⟨.ref s2.heap.objs.size,H3,y02 I2 f2 I5 hs',rfl,qn⟩⟩
  ·rF thn (T.item (X.cp (Nl++Nf) scope cl (s2.heap.objs.size+1) {s2 with heap:=s2.heap.push {cls:=.type "list", dict:=none,data:=.seq ([]:List Value).toArray}} (upd H2 s2.heap.objs.size (.lst [])) fp) rfl rfl rfl hc i [] s3 _ H3 _ I3 (stat fr3) st3 go) λr s5 ⟨u,hr,h5⟩=>?_
   subst hr;rF thn h5 λ_ s6 ⟨x,H6,I6,r6,y6,st6,fr6⟩=>?_
   #I6':=I6.pinned (stat fr6) (T.obj _ _ st6);rF thn (hg _ _ _ _ _ _ s6 _ H6 x u _ I6' r6 (step x H6 y6)) λ_ s7 ⟨σ7,H7,I7,kp,q7⟩=>?_
   rF thn (ht _ _ _ _ _ _ s7 σ7 H7 _ I7 q7) λok s8 ⟨H8,I8,q8⟩=>?_
   #again:∀{σ9:St}{H9:Hp}{s9:Shared},Inv (X.cp (Nl++Nf) scope cl (s2.heap.objs.size+1) {s2 with heap:=s2.heap.push {cls:=.type "list", dict:=none,data:=.seq ([]:List Value).toArray}} (upd H2 s2.heap.objs.size (.lst [])) fp) ([]++pinsAt fp s6.heap) σ9 H9 s9 ->
     Kp (List.replicate Nl.length none++pj js σ) σ9->(∃m',m'<n/\W (i+1) m' H9)->∃m,m<n/\∃i H',Inv (X.cp (Nl++Nf) scope cl (s2.heap.objs.size+1) {s2 with heap:=s2.heap.push {cls:=.type "list", dict:=none,data:=.seq ([]:List Value).toArray}} (upd H2 s2.heap.objs.size (.lst [])) fp) [] (List.replicate Nl.length none++pj js σ) H' s9/\tn i s9.heap/\(∀b∈fp,H' b=none)/\W i m H':=λ{σ9 H9 s9} I9 hw ⟨m',hm,w9⟩=>by
    rF⟨m',hm,i+1,H9,I9.unpinned.weak (by rw[I9.len,<- IS.len]) hw,T.keep _ _ _ st6 λb hb o q=>(I9.pin (b,o) (w0c _ (w0c _ (q2p hb q)))).1,λb hb=>?_,w9⟩
    ~⟨o,q,d⟩:=T.obj _ _ st6 b hb;!(I9.pin (b,o) (w0c _ (w0c _ (q2p hb q)))).2.1
   cases ok with
   |false=>!again I8 kp (by simpa using q8)
   |true=>
    #q8':=by simpa only[if_true]using q8
    rF thn (he _ _ _ _ _ _ s8 σ7 H8 _ I8 q8') λy s9 ⟨yv,H9,I9,r9,ys,hD,hz,q9⟩=>?_
    rF thn (q8z _ s9 σ7 H9 (.ref s2.heap.objs.size) [yv] (.ref s2.heap.objs.size) [y] (λv H'=>v=.non/\H'=upd H9 s2.heap.objs.size (.lst (ys++[yv]))) I9 rfl (.cons r9 .nil) ⟨_,ys,yv,rfl,rfl,hD,hz,rfl,rfl⟩) λ_ s10 ⟨_,H10,I10,_,_,e10⟩=>?_
    subst e10;!again I10 kp q9
 !codeAny_compStart_list (loop _ rfl) (T.self X.A 0 _ _ _ stS (loop _ rfl))
end
tm q6u{env:Env}:∀{names:List (Str×NameKind)}{x:Str},names.lookup x=some .free ->
  (names.map fun(n,k)=>if(k==NameKind.free&&env.scope.kind==.function&&env.kindOf n==some .cell)then(n,NameKind.cell)else(n,k)).lookup x=some .cell \/
  (names.map fun(n,k)=>if(k==NameKind.free&&env.scope.kind==.function&&env.kindOf n==some .cell)then(n,NameKind.cell)else(n,k)).lookup x=some .free
 |[],x,h=>by @h
 |(n,k)::r,x,h=>by
  #ih:=@q6u env r x
  grind
nD compOk(sc scope:Scope)(N Nf:List Str)(js:List Nat):Bool:=
 scope.kind==.function&&scope.names.all (λy=>y.2 != .cell)&&scope.names.all (λy=>y.2 != .local||scope.names.lookup y.1==some .local) &&
 scope.names.all (λy=>y.2 != .free||sc.names.lookup y.1==some .cell||sc.names.lookup y.1==some .free)&&js.length==Nf.length &&
 (List.range js.length).all (λi=>match js[i]?,Nf[i]? with|some j,some y=>N[j]?==some y|_,_=>true) &&
 Nf.all (λy=>scope.names.lookup y==some .free&&(sc.names.lookup y==some .cell||sc.names.lookup y==some .free))
tm x5t{elt target iter:Expr}{scope sc:Scope}{wi:TI}{g:TG}{tc:TT}{te:TE}{Nl Nf N:List Str}{js:List Nat}(hc:X.calm=true)(hi:PI X target iter wi)
  (ok:compOk sc scope N Nf js=true)
  (hg:∀cl C s₀ H₀ ex,PG (X.cp (Nl++Nf) scope cl C s₀ H₀ ex) target g)(ht:∀cl C s₀ H₀ ex,PTs (X.cp (Nl++Nf) scope cl C s₀ H₀ ex) ifs tc)(he:∀cl C s₀ H₀ ex,PE (X.cp (Nl++Nf) scope cl C s₀ H₀ ex) elt te)
  (hsc:X.env.scope=sc:=by rfl)(hN:X.N=N:=by rfl)(hs:∀x,foldedSetIterable iter X.env x=pure x:=by intro _;rfl):
  PE X (.ListComp elt [⟨target,iter,ifs,0⟩] scope pos) (tComp wi Nl.length js g tc te):=by
 unfold compOk at ok;simp only[w0l,w0z,beq_iff_eq,bne_iff_ne,w4r,w1i]at ok;~⟨⟨⟨⟨⟨⟨k1,k2⟩,k3⟩,k4⟩,k5⟩,k6⟩,k7⟩:=ok;#kind:∀x,X.env.kindOf x=sc.names.lookup x:=λx=>by rw[<- hsc];rfl
 rF y8a hc hi k1 k2 (λx hx hl=>(k3 x hx).resolve_left λz=>z hl) (λx hx hf=>?_) (λi j y e1 e2=>?_) k5 (λy hy=>?_) (λy hy=>?_) hg ht he hs
 ·grind
 ·grind
 ·~⟨z1,z2⟩:=k7 y hy;rF⟨PySem.mem_of_lookup z1,?_,?_⟩
  ·rw[hsc];rcases z2 with z|z
   ·!.inr (.inl z)
   ·!.inr (.inr z)
  grind
 ·!q6u (k7 y hy).1
abbrev TF:=Str->St->Hp->(Str->Hp->Prop)->Prop
nD PF(X:Cx)(es:List Expr)(t:TF):Prop:=∀(acc:Str)(pins:List (Addr×Obj))(s:Shared)(σ:St)(H:Hp)(Q:Str->Hp->Prop),Inv X pins σ H s->t acc σ H Q ->
 Joins (model X.prog X.w) X.A X.xe (evalEach es X.env) acc (λout s'=>out.length<=sizeLine/\∃H',Inv X pins σ H' s'/\Q out H') s
nD FmtV:V->Str->Prop
 |.int i,y=>i.natAbs.log2<1920/\y=Str.ofString (toString i)
 |.str z,y=>z.length<=sizeLine/\y=z
 |_,_=>False
tm z3g:PF X [] (λacc _ H Q=>acc.length<=sizeLine/\Q acc H):=λacc pins s σ H Q I h=>⟨h.1,H,I,h.2⟩
tm z3h{j pos}(r:PF X es t):PF X (.Constant (.str x) j pos::es) (λacc σ H Q=>(acc++x).length<=sizeLine/\t (acc++x) σ H Q):=by
 intro acc pins s σ H Q I h;show wpAny _ _ (eval (.Constant (.str x) j pos) X.env) _ _ s;!Calls.Constant_str ⟨x,_,rfl,h.1,r _ pins _ σ H Q (I.tok _) h.2⟩
tm z3i(he:PE X e te)(r:PF X es t):PF X (.FormattedValue e (-1) none pos::es) (λacc σ H Q=>te σ H λv H1=>∃y,FmtV v y/\(acc++y).length<=sizeLine/\t (acc++y) σ H1 Q):=by
 intro acc pins s σ H Q I h;show wpAny _ _ (eval (.FormattedValue e (-1) none pos) X.env) _ _ s;rF wpAny_FormattedValue_plain (thn (he pins s σ H _ I h) λu s1 ⟨v,H1,I1,rv,y,hf,hz,q⟩=>?_)
 cases v with
 |int i=>
  ~⟨tk,e1⟩:=rv;subst e1;~⟨hd,e2⟩:=hf;subst e2;!wpAny_formatField_int hd ⟨_,_,rfl,hz,r _ pins _ σ H1 Q (I1.tok _) q⟩
 |str z=>
  ~⟨tk,e1⟩:=rv;subst e1;~⟨hd,e2⟩:=hf;subst e2;!wpAny_formatField_str ⟨_,_,rfl,hz,r _ pins _ σ H1 Q I1 q⟩ ⟨_,_,rfl,hz,r _ pins _ σ H1 Q (I1.tok _) q⟩ hd
 |_=>!hf.elim
tm y8b{rest:List Expr}(h:PF X (v1::v2::rest) t):PE X (.JoinedStr (v1::v2::rest) pos) (λσ H Q=>t Str.empty σ H λout H'=>Q (.str out) H'):=by
 intro pins s σ H Q I hq;rF wpAny_JoinedStr ?_;#key:=h Str.empty pins s σ H _ I hq
 #mono:∀(l:List (Sem Value))(acc:Str)(R R':Str->Shared->Prop)(s:Shared),(∀o s,R o s->R' o s)->Joins (model X.prog X.w) X.A X.xe l acc R s->Joins (model X.prog X.w) X.A X.xe l acc R' s:=by
  intro l
  induction l with
  |nil=>intro acc R R' s hr h;!hr _ _ h
  |cons x r ih=>intro acc R R' s hr h;!wpAny_mono h (λv s1 ⟨y,tk,e,hz,q⟩=>⟨y,tk,e,hz,ih _ _ _ _ hr q⟩) λ_ _ z=>z
 !mono _ _ _ _ _ (λo s1 ⟨hz,H',I',q⟩=>⟨hz,.str o,H',I'.tok _,⟨_,rfl⟩,q⟩) key
tm y4g(hc:X.calm=true):CallR X (.builtin "all") (λxs H Q=>∃p ys,xs=[.ref p]/\SqL X.K H p ys/\(∀y∈ys,∃b,y=.bl b)/\Q (.bl (ys.all λy=>decide (y=.bl true))) H):=by
 intro pins s σ H xs us Q I r h;~⟨p,ys,rfl,hq,hb,q⟩:=h;~⟨u,rfl,rx⟩:=vals1 r;@rx;~⟨its,r',pl,hz⟩:=I.list hq;#hl:=pl.isList;#hlt:p<s.heap.objs.size:=by ~⟨_,e,_⟩:=hl;!Heap.lt_size e
 #hh:X.A.in1.handled=none:=I.ok.hd hc;rF call_all_walk (wpAny_pyIter_list hl ⟨s.heap.objs.size,[s.heap.objs.size,p],[s.heap.objs.size],_,_,_,λi=>decide (ys[i]?=some (.bl true)),rfl,Walks.list hh s.heap.objs.size p (w0w hlt) its.toArray,⟨⟨_,Heap.get?_push_size _ rfl,rfl,rfl⟩,hl.push _⟩,?_,λh' tk kp=>?_⟩)
 ·intro i v s1 Q1 E1 hv hQ;#hv':its[i]?=some v:=by simpa using hv
  #hi:i<ys.length:=by grind [Vals.length]
  ~⟨u,hu,ru⟩:=r'.get (w0a hi);rw[hv']at hu;@hu;~⟨b,eb⟩:=hb ys[i] (w1l hi);rw[eb]at ru;@ru;rF wpAny_truthy_bool ?_
  simp_all
 ·#e:(List.range its.toArray.size).all (λi=>decide (ys[i]?=some (V.bl true)))=ys.all λy=>decide (y=.bl true):=by
   rw[w2u,w0z,w0z];constructor
   ·intro hA y hy;~⟨i,hi,rfl⟩:=w3x hy;#z:=hA i (by grind [Vals.length])
    grind
   grind [Vals.length,List.getElem_mem]
  rF⟨.bl _,H,I.kept (t':=tk) λb o hbo=>kp b o (λz=>?_) (Heap.get?_push_of_some _ hbo),rfl,e ▸ q⟩
  rw[w1k]at z;!absurd (Heap.lt_size hbo) (by grind)
namespace RevT
open AutoSeq1 (wpAny_loadPart')
end RevT
open PySem PySem.Spec PyProof.Rows
variable{X:Cx}{e:Expr}{EE:L2.St->XK}{es:List Expr}{K:PySem.W.Frag}{t:TA}
structure ExcCls(K:PySem.W.Frag)(D:Addr):Prop where
 ga:findIn K (.ref D) "__getattribute__"=some (some (.builtin "BaseException.__getattribute__"))
 gt:findIn K (.ref D) "__getattr__"=some none
 cl:findIn K (.ref D) "__class__"=some (some (.builtin "object.__class__"))
 gs:specialIn K (.builtin "object.__class__") "__get__"=some (some (.builtin "getset_descriptor.__get__"))
 tk:takesIn K (.builtin "object.__class__")=some true
 mo:PySem.W.mroIn K D (.type "object")=some true
 mb:PySem.W.mroIn K D (.type "BaseException")=some true
 cd:(PySem.W.clsIn K D).isSome=true
nD excClsIn(K:PySem.W.Frag)(D:Addr):Bool:=
 findIn K (.ref D) "__getattribute__"==some (some (.builtin "BaseException.__getattribute__"))&&findIn K (.ref D) "__getattr__"==some none &&
 findIn K (.ref D) "__class__"==some (some (.builtin "object.__class__"))&&specialIn K (.builtin "object.__class__") "__get__"==some (some (.builtin "getset_descriptor.__get__")) &&
 takesIn K (.builtin "object.__class__")==some true&&PySem.W.mroIn K D (.type "object")==some true&&PySem.W.mroIn K D (.type "BaseException")==some true&&(PySem.W.clsIn K D).isSome
tm ExcCls.of(h:excClsIn K D=true):ExcCls K D:=by
 unfold excClsIn at h;simp only[w0l,beq_iff_eq]at h;~⟨⟨⟨⟨⟨⟨⟨h1,h2⟩,h3⟩,h4⟩,h5⟩,h6⟩,h7⟩,h8⟩:=h;!⟨h1,h2,h3,h4,h5,h6,h7,h8⟩
nD ExcAt(e D:Addr)(h:Heap):Prop:=∃o vs,h.get? e=some o/\o.cls=.ref D/\o.data=.fields vs
section
variable{A:Around}{s:Shared}{e:Addr}
open PySem.W Builtin Builtin.ObjectAttr Builtin.Getset_descriptor
tm x10(p:ExcAt e D h):Looks M h (typeOf (.ref e)) (.ref D):=by
 ~⟨o,vs,h1,h2,h3⟩:=p;!h2 ▸ (Looks.ld h1).andThen .now
tm y4h(X:K.In h)(C:ExcCls K D):Looks M h (find (.ref e) (.ref D) "__class__") (.bind (.builtin "getset_descriptor.__get__") (.builtin "object.__class__")):=by
 #L1:=looks_findIn (M:=M) X C.cl;#L2:Looks M h (getOf (some (.builtin "object.__class__"))) (some (.builtin "getset_descriptor.__get__")):=looks_specialIn X C.gs;#L3:=looks_takesIn (M:=M) X C.tk;rF L1.andThen (L2.andThen ?_);!(show Looks M h (dataDescriptor? (some (.builtin "object.__class__")) (some (.builtin "getset_descriptor.__get__"))) (some (.builtin "getset_descriptor.__get__", .builtin "object.__class__"))from L3.andThen .now).andThen (Looks.tag .now)
tm y8c(X:K.In s.heap)(p:ExcAt e D s.heap)(hm:mroIn K D (.type "object")=some true)
  (h:R (.ok (.ret (.ref D))) s):codeAny (model prog w) A (.call (.builtin "getset_descriptor.__get__") ⟨[.builtin "object.__class__", .ref e,tp],[]⟩) R s:=by
 ~⟨hh,g,dr,t,os⟩:=s;#L0:=x10 (M:=model prog w) p;#L1:=looks_mroIn (M:=model prog w) X hm;rF codeAny_call_builtin KF.slot_gs.plain KF.entry_gs (KF.slot_gs.check _ _ _ _ _ _ _ _ KF.type_class (KF.args_gs _ _ _) ?_);unfold Builtin.«getset_descriptor.__get__» descrGet;rw[dga_obj];rF wpAny_bind (wpAny_pure ?_);unfold descrGetter descrCheckInstance descrNameAndClass isInstance;simp only[KF.owner_class]
 repeat lk
 rF⟨Code.quiet_builtin _ (by decide +kernel),codeAny_builtin KF.entry_class ?_⟩;unfold Builtin.«object.__class__» shownTypeOf
 repeat lk
 !h
tm y03{t:Nat}{os:OsState}(X:K.In h)(p:ExcAt e D h)(hm:mroIn K D (.type "BaseException")=some true)(hq:Q () ⟨h,g,d,t,os⟩):
  wpAny M A (checkBuiltinCall "BaseException.__getattribute__" ⟨[.ref e,nameV],[]⟩) Q E ⟨h,g,d,t,os⟩:=by
 #hk:builtinKind "BaseException.__getattribute__"=some .slot:=by decide +kernel
 #hsplit:splitId "BaseException.__getattribute__"=some ("BaseException", "__getattribute__"):=by decide +kernel
 #L0:=x10 (M:=M) p;#L1:=looks_mroIn (M:=M) X hm;#LI:Looks M h (isInstance (.ref e) (.type "BaseException")) true:=L0.andThen L1;#ha:=PySem.F.args_bexc_ga (.ref e) nameV;simp only[checkBuiltinCall,hk,hsplit];rF wpAny_bind (LI.at ?_);rw[if_neg (by decide)];unfold argsOk at ha
 grind [wpAny_pure]
tm y04(X:K.In s.heap)(p:ExcAt e D s.heap)(C:ExcCls K D)(h:Q (some (.ref D)) {s with toks:=s.toks+1}):wpAny (model prog w) A (getAttr? (.ref e) "__class__") Q E s:=by
 ~⟨hh,g,d,t,os⟩:=s;#L0:=x10 (M:=model prog w) p;#L1:=looks_findIn (M:=model prog w) X C.ga;#L2:=looks_findIn (M:=model prog w) X C.gt;#L3:=y4h (M:=model prog w) (e:=e) X C;unfold getAttr? getAttrBy? getAttrBy;rF wpAny_bind (wpAny_mkText (wpAny_bind (wpAny_attempt (wpAny_holding (wpAny_bind (L0.at (wpAny_bind (L1.at ?_))))))));#hx2:(Value.builtin "BaseException.__getattribute__"==Value.builtin "object.__getattribute__")=false:=by decide +kernel
 #hx1:(onTheHeap (Value.ref D)&&Value.builtin "BaseException.__getattribute__"==Value.builtin "object.__getattribute__")=false:=by rw[hx2];rfl
 dsimp only;rw[if_neg (by rw[hx1];decide)];unfold getAttrByItsOwn hookBefore;rw[if_pos (by rfl)];rF wpAny_bind (L2.at ?_);rF wpAny_bind (wpAny_attempt (wpAny_holding ?_));unfold callGetattribute;rw[if_neg (by decide)];unfold boundAndCalled;#f3:=PySem.F.excAttr_ValueError.ga.bind (.ref e);rF wpAny_bind (wpAny_of_eq f3 ?_);rF wpAny_call (codeAny_call_builtin PySem.F.excAttr_ValueError.ga.plain F.entry_bexc_ga (y03 (K:=K) (D:=D) X p C.mb ?_));unfold Builtin.«object.__getattribute__»;rF wpAny_bind (wpAny_of_eq (a:=(Value.ref e,[Value.str (Str.ofString "__class__") t])) (by rfl) ?_);dsimp only;rF wpAny_bind (wpAny_of_eq (a:=Str.ofString "__class__") (by rfl) ?_);rF wpAny_bind (L0.at (wpAny_bind (L3.at ?_)));dsimp only;unfold bindTo;rF wpAny_bind (wpAny_holding (wpAny_call (y8c (K:=K) (D:=D) X p C.mo ?_)));dsimp only;rF wpAny_pure ?_;dsimp only;rF wpAny_of_eq (a:=Value.ref D) (by rfl) ?_;!wpAny_pure h
tm y4i(C:ExcCls K D):KitX K (.ref e) (.ref D) (ExcAt e D) where
 ty:=λ_ _ _ p=>x10 p
 it:=λM h X p=>by
  #hcD:=C.cd;unfold clsIn at hcD;split at hcD
  ·rename_i c' d' cd' sl' ho;intro A' Q' E' s' k q;unfold isType loadHead;!wpAny_bind (wpAny_loadPart (k _ _ (X _ _ ho)) (wpAny_pure q))
  ·@hcD
 ne:=λh tp dd its n sl X htp=>by
  rF w3k.mpr λq=>?_
  #e1:D=tp:=Value.ref.inj (beq_iff_eq.mp q);subst e1;#hcD:=C.cd;unfold clsIn at hcD;split at hcD
  ·rename_i c' d' cd' sl' ho;#z:=(X _ _ ho).symm.trans htp;@z
  ·@hcD
 ca:=λX p k=>y04 X p C k
end
nD ClsV:V->Value->Prop
 |.ty n,c=>c=.type n
 |.ref a,c=>c=.ref a
 |_,_=>False
structure Cal(P:Program)(w:World)(K:PySem.W.Frag)(mg:Str->Option Value)(base:Heap)(k:Nat)(x:Str)(ps:List Str)(sp:Sp):Prop where
 ex:∃f fd,FnOk P w K mg base (CX1 P w) k f fd ps sp/\mg x=some (.ref f)/\keepIn K (.ref f)=true/\Binds K fd ps []
structure CalH(P:Program)(w:World)(K:PySem.W.Frag)(mg:Str->Option Value)(base:Heap)(k:Nat)(x:Str)(ps:List Str)(sp:Sp):Prop where
 ex:∃f fd,FnOkH P w K mg base k f fd ps sp/\mg x=some (.ref f)/\keepIn K (.ref f)=true/\Binds K fd ps []
structure At(K:PySem.W.Frag)(mg:Str->Option Value)(x:Str)(st:Stmt)(ps:List Str):Prop where
 ex:∃f fd,Fun K x x st f fd/\mg x=some (.ref f)/\Binds K fd ps []
tm At.cal{st:Stmt}(F:At K mg x st ps)(S:FnScope N ps (defScope st))(len:∀vs H Q E,sp vs H Q E->vs.length=ps.length)
  (hbody:∀(f:Addr)(cdv:Value)(A:Around)(outer:List Env)(s:Shared)(H:Hp)(vs:List V)(Q:VK)(E:XK),Room k (A.deeper (envOfC x (defScope st) s.heap.objs.size f cdv))->sp vs H Q E ->
   ∃t,PSs (cxOf (CX1 P w) P w K mg base N x (defScope st) f cdv A outer s H E) (defBody st) t/\t {nx:=λ_ H'=>Q .non H',rt:=Q} (start N vs) H):Cal P w K mg base (k+1) x ps sp:=by
 ~⟨f,fd,F,m,b⟩:=F.ex;!⟨f,fd,F.okX S len (hbody f),m,F.kp,b⟩
section
variable{k:Nat}{ps:List Str}{sp:Sp}{x:Str}{p pos:Pos}
tm x5u(C:Cal X.prog X.w X.K X.mg X.base k x ps sp)(hr:Room k X.A)(hx:PassX (CX1 X.prog X.w) X EE)(ha:PA X (e::es) t)(hg:Gl X x:=by rfl)
  (hdb:(x==("__debug__":Str))=false:=by decide)(he:starEach (e::es) X.env=(false,eval e X.env)::starEach es X.env:=by rfl)(hpl:(backTo pos (starEach es X.env)).any (·.1)=false:=by rfl):
  PE X (.Call (.Name x p) (e::es) [] pos) (tCallX sp [] EE t):=by
 ~⟨f,fd,F,m,kp,b⟩:=C.ex;!y4e F hr hg m kp b .nil hx ha hdb he hpl
end
section
variable{te:TE}{pos pos' p:Pos}{x:Str}
tm x11(i:Nat)(hN:X.N.Nodup)(he:PE X e te)(hi:X.N[i]?=some x:=by rfl)(hx:Loc X.env.scope x:=by walk_at "3")(hs:swapsWith e (some (.Name x pos')) pos.line X.env=pure false:=by rfl)(hf:X.fn x=true\/X.env.scope.names.lookup x=some .local:=by walk_at "2"):
  PS X (.Assign [.Name x pos'] e pos) (tAsg te (gName i)):=z20 hN hi hx he hs hf
tm q17(i:Nat)(hN:X.N.Nodup)(hi:X.N[i]?=some x:=by rfl)(hx:Loc X.env.scope x:=by walk_at "3")(hf:X.fn x=true\/X.env.scope.names.lookup x=some .local:=by walk_at "2"):PG X (.Name x pos) (gName i):=y7x hN hi hx hf
tm z3j{o:Expr}{to:TE}{apos:Pos}(ho:PE X o to)(ha:PA X (e::es) t)(hbase:attributeBase o "append" X.env (eval o X.env)=eval o X.env:=by rfl)
  (hfew:((backTo pos (starEach (e::es) X.env)).all (λx=>!x.1)&&(backToKw pos (keywordEach [] X.env)).all (λx=>x.1.isSome)&&decide ((e::es).length+([]:List Keyword).length+(if([]:List Keyword).isEmpty then 0 else 1)<30))=true:=by rfl)
  (hline:(apos.endLine==pos.line)=true:=by rfl)(hs:starEach (e::es) X.env=(false,eval e X.env)::starEach es X.env:=by rfl)(hplain:(backTo pos (starEach es X.env)).any (·.1)=false:=by rfl):
  PE X (.Call (.Attribute o "append" apos) (e::es) [] pos) (tBM X.K "list" rAppend to t):=x47 PySem.F.plainAttrs_list PySem.F.slot_list_append PySem.F.type_list_append q8z ho ha hbase hfew hline hs hplain
end
tm q3a(h:H p=none)(o):Same H (upd H p o):=λb u q=>by rw[q0g (q0p q h)];!q
tm Same.tup(e:Same H H')(h:SqT K H a xs):SqT K H' a xs:=by
 rcases h with(h|⟨o,h⟩)|h
 ·!.inl (.inl (e _ _ h))
 ·!.inl (.inr ⟨o,e _ _ h⟩)
 ·!.inr h
noncomputable abbrev Cs:=List (Addr×Obj)
structure LamScope(ps Nf:List Str)(sc:Scope):Prop where
 kind:sc.kind=.function
 co:sc.isCoroutine=false
 gen:sc.isGenerator=false
 nd:ps.Nodup
 nocell:∀y∈sc.names,y.2≠.cell
 par:∀x∈ps,sc.names.lookup x=some .local
 fr:∀y∈Nf,sc.names.lookup y=some .free
structure LamCells(cl:List (Str×Addr))(Nf:List Str)(sc:Scope)(zs:List V)(h:Heap)(cs:Cs):Prop where
 inj:∀x y c,cl.lookup x=some c->cl.lookup y=some c->x=y
 has:∀x,(x,NameKind.free)∈sc.names->∃c,cl.lookup x=some c
 all:∀x c,cl.lookup x=some c->∃o,cs.lookup c=some o
 cel:∀c o,cs.lookup c=some o->h.get? c=some o/\∃v,o.data=.cell v
 val:∀(i:Nat) y z,Nf[i]?=some y->zs[i]?=some z->∃c o u,cl.lookup y=some c/\cs.lookup c=some o/\o.data=.cell (some u)/\RelV z u
nD BMain(h:Heap)(mg:Str->Option Value):Prop:=∃bm ob,mg "__builtins__"=some (.ref bm)/\bm≠builtinsNs/\h.get? bm=some ob/\ob.cls=.type "module" /\ ob.dict=some builtinsNs/\ob.data=.plain
structure Maker(X:Cx):Prop where
 ex:∃c P a,X.env.code=.ref c/\PySem.W.codeHdIn X.K c P=true/\(a,markO P (X.env.qual++"<lambda>"))∈X.K
 bm:BMain X.base X.mg
structure CellsOf(clos:List (Str×Addr))(Nf:List Str)(scope:Scope)(js:List Nat)(σ:St)(H:Hp)(cs:Cs):Prop where
 inj:∀x y c,clos.lookup x=some c->clos.lookup y=some c->x=y
 has:∀x,(x,NameKind.free)∈scope.names->∃c,clos.lookup x=some c
 all:∀x c,clos.lookup x=some c->∃o,cs.lookup c=some o
 cel:∀c o,cs.lookup c=some o->H c=none/\∃v,o.data=.cell v
 val:∀(i:Nat) y j z,Nf[i]?=some y->js[i]?=some j->σ[j]?=some (some z)->∃c o u,clos.lookup y=some c/\cs.lookup c=some o/\o.data=.cell (some u)/\RelV z u
set_option maxHeartbeats 1000000
nD Sh.isN:Sh->Bool
 |.many .int=>true
 |_=>false
nD Sh.isI:Sh->Bool
 |.int=>true
 |.str=>true
 |_=>false
end L2
namespace D
open PySem L2
variable{G H:Hp}{EE:L2.St->XK}{es:List Expr}{pos pos':Pos}{K:PySem.W.Frag}{σ:St}{x:Str}
noncomputable abbrev Sv:=Int ⊕ Bool
inductive Dd where
 |k (kvs:List (Key×Sv))
set_option genInjectivity true in
inductive W where
 |non|bl (b:Bool)|int (i:Int)|str (x:Str)|tup (xs:List W)|lst (xs:List W)|exc (c:Value)|dic (kvs:Dd)|dw (fz:Bool) (sh:Sh) (ks:List Kx) (ws:List W)
inductive S where
 |no|fr (w:W)|own (io:Option Nat) (ws:List W)|dic (kvs:Dd)|dw (sh:Sh) (ks:List Kx) (ws:List W)
nD sV:Sv->V
 |.inl i=>.int i
 |.inr b=>.bl b
nD kvV{κ:Type}(kvs:List (κ×Sv)):List (κ×V):=kvs.map λp=>(p.1,sV p.2)
nD dO:Dd->HO
 |.k kvs=>.dK (kvV kvs)
nD isDic:HO->Bool
 |.dK _=>true
 |_=>false
tm q79(h:isDic u=false):dO d≠u:=λz=>by
 subst z;@d<;>@h
nD KeysG(G:Hp):List Kx->List Addr->Prop
 |[],[]=>True
 |k::ks,b::bs=>KRep G k (.ref b)/\KeysG G ks bs
 |[],_::_=>False
 |_::_,[]=>False
tm KeysG.mono(e:Same G G'):∀{ks:List Kx}{bs:List Addr},KeysG G ks bs->KeysG G' ks bs
 |[],[],_=>trivial
 |k::ks,b::bs,h=>⟨KRep.keeps (λ_ _ _ z=>e _ _ z) k h.1,KeysG.mono e h.2⟩
 |[],_::_,h=>h.elim
 |_::_,[],h=>h.elim
nD kxK:Kx->Key
 |.int i=>.inl i
 |.str x=>.inr x
 |_=>.inl 0
nD keyI:Sh->Kx->Prop
 |.int,k=>∃i,k=.int i
 |.str,k=>∃x,k=.str x
 |_,_=>False
nD dwO(sh:Sh)(kvs:List (Kx×V))(kas:List Addr):HO:=if sh.isI=true then .dK (kvs.map λp=>(kxK p.1,p.2))else .dT sh kvs kas
nD isDT:HO->Bool
 |.dK _=>true
 |.dT _ _ _=>true
 |_=>false
tm q82(h:isDT u=false):dwO sh kvs kas≠u:=λz=>by
 subst z;unfold dwO at h;split at h<;>@h
tm z7d(h:sh.isI=false):dwO sh kvs kas=.dT sh kvs kas:=if_neg (by grind)
nD KeysS(sh:Sh)(G:Hp)(ks:List Kx)(kas:List Addr):Prop:=if sh.isI=true then ∀k∈ks,keyI sh k else KeysG G ks kas
tm KeysS.mono(e:Same G G')(h:KeysS sh G ks bs):KeysS sh G' ks bs:=by
 unfold KeysS at h |-
 split at h
 ·grind
 ·rename_i hi;rw[if_neg hi];!h.mono e
nD DAt(fz:Bool)(G:Hp)(a:Addr)(sh:Sh)(kvs:List (Kx×V))(kas:List Addr):Prop:=if fz=true then ∃o,G a=some (.frz o (dwO sh kvs kas))else G a=some (dwO sh kvs kas)
tm DAt.ex(h:DAt fz G a sh kvs kas):∃o,G a=some o:=by
 grind [DAt]
tm DAt.mono(e:Same G G')(h:DAt fz G a sh kvs kas):DAt fz G' a sh kvs kas:=by
 cases fz with
 |true=>~⟨o,h⟩:=h;!⟨o,e _ _ h⟩
 |false=>!e _ _ h
inductive RefTo(v:V)(P Q:Addr->List V->Prop):Prop where
 |mk (a:Addr) (xs:List V) (h:v=.ref a) (p:P a xs) (q:Q a xs):RefTo v P Q
inductive ConsOf(xs:List V)(P:V->Prop)(Q:List V->Prop):Prop where
 |mk (x:V) (r:List V) (h:xs=x::r) (p:P x) (q:Q r):ConsOf xs P Q
mutual
def Rep(K:PySem.W.Frag)(G:Hp):W->V->Prop
 |.non,v=>v=.non
 |.bl b,v=>v=.bl b
 |.int i,v=>v=.int i
 |.str x,v=>v=.str x
 |.tup ws,v=>RefTo v (SqT K G) λ_ xs=>Reps K G ws xs
 |.lst ws,v=>RefTo v (SqL K G) λ_ xs=>Reps K G ws xs
 |.exc c,v=>∃e,v=.ref e/\G e=some (excO e c)
 |.dic kvs,v=>∃e,v=.ref e/\G e=some (dO kvs)
 |.dw fz sh ks ws,v=>∃a kvs kas,v=.ref a/\DAt fz G a sh kvs kas/\kvs.map (·.1)=ks/\KeysS sh G ks kas/\Reps K G ws (kvs.map (·.2))
def Reps(K:PySem.W.Frag)(G:Hp):List W->List V->Prop
 |[],xs=>xs=[]
 |w::ws,xs=>ConsOf xs (Rep K G w) (Reps K G ws)
end
mutual
theorem Rep.mono{K:PySem.W.Frag}{G G':Hp}(e:Same G G'):∀(w:W){v:V},Rep K G w v->Rep K G' w v
 |.non,v,h=>h
 |.bl b,v,h=>h
 |.int i,v,h=>h
 |.str x,v,h=>h
 |.tup ws,v,h=>by
  ~⟨a,xs,rfl,q,r⟩:=h;!⟨a,xs,rfl,e.tup q,Reps.mono e ws r⟩
 |.lst ws,v,h=>by
  ~⟨a,xs,rfl,q,r⟩:=h;!⟨a,xs,rfl,e.seq q,Reps.mono e ws r⟩
 |.exc c,v,h=>by
  ~⟨a,rfl,q⟩:=h;!⟨a,rfl,e _ _ q⟩
 |.dic kvs,v,h=>by
  ~⟨a,rfl,q⟩:=h;!⟨a,rfl,e _ _ q⟩
 |.dw fz sh ks ws,v,h=>by
  ~⟨a,kvs,kas,rfl,h1,h2,h3,h4⟩:=h;!⟨a,kvs,kas,rfl,h1.mono e,h2,h3.mono e,Reps.mono e ws h4⟩
theorem Reps.mono{K:PySem.W.Frag}{G G':Hp}(e:Same G G'):∀(ws:List W){xs:List V},Reps K G ws xs->Reps K G' ws xs
 |[],xs,h=>h
 |w::ws,xs,h=>by
  ~⟨x,r,rfl,h1,h2⟩:=h;!⟨x,r,rfl,Rep.mono e w h1,Reps.mono e ws h2⟩
end
tm Reps.length:∀{ws:List W}{xs:List V},Reps K G ws xs->xs.length=ws.length
 |[],xs,h=>by @h;rfl
 |w::ws,xs,h=>by
  ~⟨x,r,rfl,_,h2⟩:=h;simp[Reps.length h2]
tm Reps.get:∀{ws:List W}{xs:List V}{i:Nat}{w:W},Reps K G ws xs->ws[i]?=some w->∃x,xs[i]?=some x/\Rep K G w x
 |[],xs,i,w,h,e=>by simp at e
 |w'::ws,xs,0,w,h,e=>by
  ~⟨x,r,rfl,h1,h2⟩:=h
  grind
 |w'::ws,xs,i+1,w,h,e=>by
  ~⟨x,r,rfl,h1,h2⟩:=h;~⟨y,e1,e2⟩:=Reps.get (i:=i) h2 (by simpa using e)
  grind
tm Reps.getV:∀{ws:List W}{xs:List V}{i:Nat}{x:V},Reps K G ws xs->xs[i]?=some x->∃w,ws[i]?=some w/\Rep K G w x:=λ{ws xs i x} h e=>by
 #hl:=h.length;#hi:i<xs.length:=(w0m.mp e).1;#e2:ws[i]?=some ws[i]:=w0a oM;~⟨y,e3,r⟩:=h.get e2
 grind
tm Reps.append:∀{ws ws':List W}{xs xs':List V},Reps K G ws xs->Reps K G ws' xs'->Reps K G (ws++ws') (xs++xs')
 |[],ws',xs,xs',h,h'=>by @h;!h'
 |w::ws,ws',xs,xs',h,h'=>by
  ~⟨x,r,rfl,h1,h2⟩:=h;!⟨x,r++xs',rfl,h1,Reps.append h2 h'⟩
tm Reps.one{x:L2.V}(h:Rep K G w x):Reps K G [w] [x]:=⟨x,[],rfl,h,rfl⟩
tm Reps.take:∀(n:Nat){ws:List W}{xs:List V},Reps K G ws xs->Reps K G (ws.take n) (xs.take n)
 |0,_,_,_=>rfl
 |n+1,[],_,h=>by @h;rfl
 |n+1,w::ws,_,h=>by
  ~⟨x,r,rfl,h1,h2⟩:=h;!⟨x,r.take n,rfl,h1,Reps.take n h2⟩
tm Reps.drop:∀(n:Nat){ws:List W}{xs:List V},Reps K G ws xs->Reps K G (ws.drop n) (xs.drop n)
 |0,_,_,h=>h
 |n+1,[],_,h=>by @h;rfl
 |n+1,w::ws,_,h=>by
  ~⟨x,r,rfl,h1,h2⟩:=h;!Reps.drop n h2
tm Reps.dropLast(h:Reps K G ws xs):Reps K G ws.dropLast xs.dropLast:=by
 rw[w4s,w4s,h.length];!h.take _
tm Reps.set:∀(i:Nat){ws:List W}{xs:List V}{w:W}{x:V},Reps K G ws xs->Rep K G w x->Reps K G (ws.set i w) (xs.set i x)
 |_,[],_,_,_,h,_=>by @h;rfl
 |0,w'::ws,_,w,x,h,q=>by
  ~⟨y,r,rfl,h1,h2⟩:=h;!⟨x,r,rfl,q,h2⟩
 |i+1,w'::ws,_,w,x,h,q=>by
  ~⟨y,r,rfl,h1,h2⟩:=h;!⟨y,r.set i x,rfl,h1,Reps.set i h2 q⟩
structure Zt where
 H:Hp
 G:Hp
 io:List Addr
variable{Z:Zt}
nD RepsX(K:PySem.W.Frag)(Z:Zt)(G:Hp)(sh:Sh)(ws:List W)(vs:List V):Prop:=Reps K G ws vs
tm RepsX.reps(h:RepsX K Z G sh ws vs):Reps K G ws vs:=h
tm RepsX.of(hs:sh.isN=false)(h:Reps K G ws vs):RepsX K Z G sh ws vs:=h
tm RepsX.move(h:RepsX K Z G sh ws vs)(sg:Same G G')(hz:∀a o,G a=some o->Z.H a=none->Z'.H a=none):RepsX K Z' G' sh ws vs:=Reps.mono sg ws h
inductive DwOk(K:PySem.W.Frag)(Z:Zt)(G H:Hp)(sh:Sh)(ks:List Kx)(ws:List W)(v:Option V):Prop where
 |mk (a:Addr) (kvs:List (Kx×V)) (kas:List Addr) (h1:v=some (.ref a)) (h2:H a=some (dwO sh kvs kas)) (h3:G a=none) (h4:Z.H a=none) (h5:kvs.map (·.1)=ks) (h6:KeysS sh G ks kas) (h7:RepsX K Z G sh ws (kvs.map (·.2))):DwOk K Z G H sh ks ws v
tm DwOk.move{Z':Zt}{G' H':Hp}{sh:Sh}{ks:List Kx}{ws:List W}{v:Option V}(q:DwOk K Z G H sh ks ws v)(sg:Same G G')(hf:∀a kvs kas,H a=some (dwO sh kvs kas)->G a=none->Z.H a=none->H' a=some (dwO sh kvs kas)/\G' a=none/\Z'.H a=none)(hz:∀a o,G a=some o->Z.H a=none->Z'.H a=none:=by intro _ _ _ z;!z):DwOk K Z' G' H' sh ks ws v:=by
 ~⟨a,kvs,kas,h1,h2,h3,h4,h5,h6,h7⟩:=q;~⟨k1,k2,k3⟩:=hf a kvs kas h2 h3 h4;!⟨a,kvs,kas,h1,k1,k2,k3,h5,h6.mono sg,h7.move sg hz⟩
nD IoOk(Z:Zt):Option Nat->Addr->Prop
 |none,a=>Z.H a=none
 |some j,a=>Z.io[j]?=some a
tm IoOk.io(h:IoOk Z b a):a∈Z.io\/Z.H a=none:=by
 cases b with
 |none=>!.inr h
 |some j=>!.inl (w1m h)
inductive OwnOk(K:PySem.W.Frag)(Z:Zt)(G H:Hp)(b:Option Nat)(ws:List W)(v:Option V):Prop where
 |mk (a:Addr) (xs:List V) (h1:v=some (.ref a)) (h2:H a=some (.lst xs)) (h3:G a=none) (h4:IoOk Z b a) (h5:Reps K G ws xs):OwnOk K Z G H b ws v
inductive DicOk(Z:Zt)(G H:Hp)(kvs:Dd)(v:Option V):Prop where
 |mk (a:Addr) (h1:v=some (.ref a)) (h2:H a=some (dO kvs)) (h3:G a=none) (h4:Z.H a=none):DicOk Z G H kvs v
nD SlotOk(K:PySem.W.Frag)(Z:Zt)(G H:Hp):S->Option V->Prop
 |.no,_=>True
 |.fr w,v=>∃u,v=some u/\Rep K G w u
 |.own b ws,v=>OwnOk K Z G H b ws v
 |.dic kvs,v=>DicOk Z G H kvs v
 |.dw sh ks ws,v=>DwOk K Z G H sh ks ws v
structure Rel(K:PySem.W.Frag)(Z:Zt)(G:Hp)(σ:St)(H:Hp)(e:List S):Prop where
 sub:Same G H
 slot:∀(i:Nat)(s:S),e[i]?=some s->SlotOk K Z G H s (σ[i]?.getD none)
 len:e.length=σ.length
 dis:∀(i j:Nat)(b b':Option Nat)(ws ws':List W)(a:Addr),e[i]?=some (.own b ws)->e[j]?=some (.own b' ws')->σ[i]?=some (some (.ref a))->σ[j]?=some (some (.ref a))->i=j
 ent:∀a o,Z.H a=some o->a∉Z.io->H a=some o
 ion:∀a∈Z.io,H a≠none
 gen:∀a,Z.H a≠none->G a=Z.G a
inductive AtG(K:PySem.W.Frag)(Z:Zt)(σ:St)(H:Hp)(P:Hp->List S->Prop):Prop where
 |mk (G:Hp) (e:List S) (r:Rel K Z G σ H e) (h:P G e):AtG K Z σ H P
structure Grow(G H G' H':Hp):Prop where
 hh:Same H H'
 gg:Same G G'
 sub:Same G' H'
 new:∀a,H a≠none->G' a=G a
tm Grow.refl(s:Same G H):Grow G H G H:=⟨.refl _,.refl _,s,λ_ _=>rfl⟩
tm Grow.trans(x:Grow G H G1 H1)(y:Grow G1 H1 G2 H2):Grow G H G2 H2:=
 ⟨x.hh.trans y.hh,x.gg.trans y.gg,y.sub,λa h=>by
  rw[y.new a,x.new a h];cases q:H a with
  |none=>!absurd q h
  |some o=>rw[x.hh a o q];simp⟩
tm y05(e:Same H H')(h:H a≠none):H' a≠none:=by
 cases q:H a with
 |none=>!absurd q h
 |some o=>rw[e a o q];simp
tm Grow.laid(s:Same G H)(h:H D=none)(o):Grow G H (upd G D o) (upd H D o) where
 hh:=q3a h o
 gg:=q3a (s.free h) o
 sub:=λb u e=>by
  by_cases hb:b=D
  ·grind [q0k]
  ·rw[q0g hb]at e |-;!s b u e
 new:=λa ha=>by grind [q0g]
tm Grow.hid(s:Same G H)(h:H D=none)(o):Grow G H G (upd H D o) where
 hh:=q3a h o
 gg:=.refl _
 sub:=λb u e=>by
  #:=s b u e;rw[q0g (q0p this h)];!this
 new:=λa ha=>rfl
tm Rel.grow(r:Rel K Z G σ H e)(g:Grow G H G' H'):Rel K Z G' σ H' e where
 sub:=g.sub
 slot:=λi s h=>by
  #q:=r.slot i s h;cases s with
  |no=>trivial
  |fr w=>
   ~⟨u,h1,h2⟩:=q;!⟨u,h1,Rep.mono g.gg w h2⟩
  |own b ws=>
   ~⟨a,xs,h1,h2,h3,h4,h5⟩:=q;!⟨a,xs,h1,g.hh _ _ h2,by rw[g.new a (by rw[h2];simp)];!h3,h4,Reps.mono g.gg ws h5⟩
  |dic kvs=>
   ~⟨a,h1,h2,h3,h4⟩:=q;!⟨a,h1,g.hh _ _ h2,by rw[g.new a (by rw[h2];simp)];!h3,h4⟩
  |dw sh ks ws=>!DwOk.move q g.gg λl o ys h1 h2 h3=>⟨g.hh _ _ h1,by rw[g.new l (by rw[h1];simp)];!h2,h3⟩
 len:=r.len
 dis:=r.dis
 ent:=λa o h n=>g.hh _ _ (r.ent a o h n)
 ion:=λa h=>y05 g.hh (r.ion a h)
 gen:=λa h=>by
  #:H a≠none:=by
   cases q:Z.H a with
   |none=>!absurd q h
   |some o=>
    by_cases hi:a∈Z.io
    ·!r.ion a hi
    ·rw[r.ent a o q hi];simp
  rw[g.new a this];!r.gen a h
tm Rel.own(r:Rel K Z G σ H e){i:Nat}(h:e[i]?=some (.own b ws)):∃a xs,σ[i]?=some (some (.ref a))/\H a=some (.lst xs)/\G a=none/\(IoOk Z b a)/\Reps K G ws xs:=by
 ~⟨a,xs,h1,h2,h3,h4,h5⟩:=r.slot i _ h
 grind
tm Rel.fr(r:Rel K Z G σ H e){i:Nat}(h:e[i]?=some (.fr w)):∃v,σ[i]?=some (some v)/\Rep K G w v:=by
 ~⟨v,h1,h2⟩:=r.slot i _ h
 grind
tm Rel.at(r:Rel K Z G σ H e){i:Nat}(h:e[i]?=some s)(hs:SlotOk K Z G H s (σ[i]?.getD none)->σ[i]?.getD none=some v):σ[i]?=some (some v):=by
 #h1:=hs (r.slot i _ h)
 grind
tm Rel.mut(r:Rel K Z G σ H e)(h:e[i]?=some (.own b ws))(ha:σ[i]?=some (some (.ref a)))(q:Reps K G ws' xs'):Rel K Z G σ (upd H a (.lst xs')) (e.set i (.own b ws')):=by
 ~⟨a',xs,h1,h2,h3,h4,h5⟩:=r.own h;rw[ha]at h1;@h1;#hi:i<e.length:=(w0m.mp h).1;rF⟨λc o z=>?_,λj s z=>?_,by simpa using r.len,λj k b1 b2 w1 w2 c z1 z2 z3 z4=>?_,λc o z n=>?_,λc z=>?_,r.gen⟩
 ·rw[q0g (q0p z h3)];!r.sub c o z
 ·by_cases hj:j=i
  ·subst hj;rw[w0p hi]at z;@z;!⟨a,xs',by rw[ha];rfl,q0k,h3,h4,q⟩
  ·rw[w0f (λz=>hj z.symm)]at z
   #y:=r.slot j s z;cases s with
   |no=>trivial
   |fr w=>!y
   |own b2 w2=>
    ~⟨c,ys,y1,y2,y3,y4,y5⟩:=y;rF⟨c,ys,y1,?_,y3,y4,y5⟩;rw[q0g];!y2;rintro rfl;~⟨c',_,z1,_⟩:=r.own z;rw[z1]at y1;@y1;!hj (r.dis j i _ _ _ _ _ z h z1 ha)
   |dic kvs=>
    ~⟨c,y1,y2,y3,y4⟩:=y;rF⟨c,y1,?_,y3,y4⟩;rw[q0g (q3q y2 h2 (q79 rfl))];!y2
   |dw sh ks ws=>!DwOk.move y (.refl _) λl o ys k1 k2 k3=>⟨by rw[q0g (q3q k1 h2 (q82 rfl))];!k1,k2,k3⟩
 ·#old:∀(k:Nat)(bb:Option Nat)(ww:List W),(e.set i (S.own b ws'))[k]?=some (.own bb ww)->∃b' w',e[k]?=some (.own b' w'):=λk bb ww z=>by
   grind
  ~⟨_,_,q1⟩:=old _ _ _ z1;~⟨_,_,q2⟩:=old _ _ _ z2;!r.dis _ _ _ _ _ _ _ q1 q2 z3 z4
 ·by_cases hc:c=a
  ·grind [IoOk.io]
  ·rw[q0g hc];!r.ent c o z n
 ·by_cases hc:c=a
  ·grind [q0k]
  ·rw[q0g hc];!r.ion c z
tm Rel.freeze(r:Rel K Z G σ H e)(h:e[i]?=some (.own none ws)):∃v G',σ[i]?=some (some v)/\Same G G'/\Rep K G' (.lst ws) v/\Rel K Z G' σ H (e.set i (.fr (.lst ws))):=by
 ~⟨a,xs,h1,h2,h3,h4,h5⟩:=r.own h;#h4:Z.H a=none:=h4;#sg:Same G (upd G a (.lst xs)):=q3a h3 _;#hi:i<e.length:=(w0m.mp h).1;#rp:Rep K (upd G a (.lst xs)) (.lst ws) (.ref a):=⟨a,xs,rfl,SqL.of q0k,Reps.mono sg ws h5⟩;rF⟨.ref a,upd G a (.lst xs),h1,sg,rp,⟨λc o z=>?_,λj s z=>?_,by simpa using r.len,λj k b1 b2 w1 w2 c z1 z2 z3 z4=>?_,r.ent,r.ion,λc z=>?_⟩⟩
 ·by_cases hc:c=a
  ·grind [q0k]
  ·rw[q0g hc]at z;!r.sub c o z
 ·by_cases hj:j=i
  ·subst hj;rw[w0p hi]at z;@z;!⟨.ref a,by rw[h1];rfl,rp⟩
  ·rw[w0f (λz=>hj z.symm)]at z
   #y:=r.slot j s z;cases s with
   |no=>trivial
   |fr w=>
    ~⟨u,y1,y2⟩:=y;!⟨u,y1,Rep.mono sg w y2⟩
   |own b2 w2=>
    ~⟨c,ys,y1,y2,y3,y4,y5⟩:=y;rF⟨c,ys,y1,y2,?_,y4,Reps.mono sg w2 y5⟩;rw[q0g];!y3;rintro rfl;~⟨c',_,z1,_⟩:=r.own z;rw[z1]at y1;@y1;!hj (r.dis j i _ _ _ _ _ z h z1 h1)
   |dic kvs=>
    ~⟨c,y1,y2,y3,y4⟩:=y;rF⟨c,y1,y2,?_,y4⟩;rw[q0g (q3q y2 h2 (q79 rfl))];!y3
   |dw sh ks ws=>!DwOk.move y sg λl o ys k1 k2 k3=>⟨k1,by rw[q0g (q3q k1 h2 (q82 rfl))];!k2,k3⟩
 ·#old:∀(k:Nat)(bb:Option Nat)(ww:List W),(e.set i (S.fr (W.lst ws)))[k]?=some (.own bb ww)->e[k]?=some (.own bb ww):=λk bb ww z=>by
   grind
  !r.dis _ _ _ _ _ _ _ (old _ _ _ z1) (old _ _ _ z2) z3 z4
 ·by_cases hc:c=a
  ·grind
  ·rw[q0g hc];!r.gen c z
nD Free(σ:St)(e:List S)(a:Addr):Prop:=∀(j:Nat)(b:Option Nat)(ws:List W),e[j]?=some (.own b ws)->σ[j]?≠some (some (.ref a))
tm Rel.set(r:Rel K Z G σ H e)(q:Rep K G w v):Rel K Z G (σ.set i (some v)) H (e.set i (.fr w)):=by
 rF⟨r.sub,λj s z=>?_,by simpa using r.len,λj k b1 b2 w1 w2 c z1 z2 z3 z4=>?_,r.ent,r.ion,r.gen⟩
 ·by_cases hj:j=i
  ·subst hj
   #hi:j<e.length:=by
    grind
   rw[w0p hi]at z;@z;rw[w0p (by rw[<- r.len];!hi)];!⟨v,rfl,q⟩
  ·rw[w0f (λz=>hj z.symm)]at z |-
   !r.slot j s z
 ·#old:∀(k:Nat)(bb:Option Nat)(ww:List W),(e.set i (S.fr w))[k]?=some (.own bb ww)->k≠i/\e[k]?=some (.own bb ww):=λk bb ww z=>by
   grind
  ~⟨n1,q1⟩:=old _ _ _ z1;~⟨n2,q2⟩:=old _ _ _ z2;rw[w0f (λz=>n1 z.symm)]at z3
  rw[w0f (λz=>n2 z.symm)]at z4
  !r.dis _ _ _ _ _ _ _ q1 q2 z3 z4
tm Rel.setOwn(r:Rel K Z G σ H e)(h2:H a=some (.lst xs))(h3:G a=none)(h4:Z.H a=none)(hf:Free σ e a)(q:Reps K G ws xs):Rel K Z G (σ.set i (some (.ref a))) H (e.set i (.own none ws)):=by
 rF⟨r.sub,λj s z=>?_,by simpa using r.len,λj k b1 b2 w1 w2 c z1 z2 z3 z4=>?_,r.ent,r.ion,r.gen⟩
 ·by_cases hj:j=i
  ·subst hj
   #hi:j<e.length:=by
    grind
   rw[w0p hi]at z;@z;rw[w0p (by rw[<- r.len];!hi)];!⟨a,xs,rfl,h2,h3,h4,q⟩
  ·rw[w0f (λz=>hj z.symm)]at z |-
   !r.slot j s z
 ·#both:∀(k:Nat)(bb:Option Nat)(ww:List W),(e.set i (S.own none ws))[k]?=some (.own bb ww)->(σ.set i (some (.ref a)))[k]?=some (some (.ref c))->(k=i/\c=a)\/(k≠i/\e[k]?=some (.own bb ww)/\σ[k]?=some (some (.ref c))/\c≠a):=λk bb ww z y=>by
   by_cases hk:k=i
   ·grind
   ·rw[w0f (λz=>hk z.symm)]at z y
    !.inr ⟨hk,z,y,λe=>hf k bb ww z (by rw[y,e])⟩
  rcases both _ _ _ z1 z3 with⟨e1,c1⟩|⟨n1,q1,p1,c1⟩<;>rcases both _ _ _ z2 z4 with⟨e2,c2⟩|⟨n2,q2,p2,c2⟩
  ·rw[e1,e2]
  ·!absurd c1 c2
  ·!absurd c2 c1
  ·!r.dis _ _ _ _ _ _ _ q1 q2 p1 p2
inductive R(α:Type) where
 |ok (a:α) (e:List S)|ex (c:Value) (e:List S)|no
noncomputable abbrev Den(α:Type):=List S->R α
variable{dA:Den (List W)}
nD R.bind{α β:Type}:R α->(α->List S->R β)->R β
 |.ok a e,k=>k a e
 |.ex c e,_=>.ex c e
 |.no,_=>.no
nD R.holds(r:R α)(P:α->List S->Prop)(E:Value->List S->Prop):Prop:=match r with
 |.ok a e=>P a e
 |.ex c e=>E c e
 |.no=>False
tm R.holds_bind{r:R α}{P:β->List S->Prop}:(r.bind k).holds P E↔r.holds (λa e=>(k a e).holds P E) E:=by
 @r<;>rfl
tm R.holds.imp{r:R α}(h:r.holds P E)(p:∀a e,P a e->P' a e)(x:∀c e,E c e->E' c e):r.holds P' E':=by
 cases r with
 |ok a e=>!p a e h
 |ex c e=>!x c e h
 |no=>!h
nD ofOpt(o:Option α)(e:List S):R α:=match o with
 |some a=>.ok a e
 |none=>.no
tm ofOpt_holds{P:α->List S->Prop}:(ofOpt o e).holds P E↔∃a,o=some a/\P a e:=by
 cases o with
 |none=>!⟨λh=>h.elim,fun⟨_,h,_⟩=>nomatch h⟩
 |some a=>!⟨λh=>⟨a,rfl,h⟩,fun⟨_,h,q⟩=>by @h;!q⟩
inductive SR where
 |nx (e:List S)|rt (s:S) (e:List S)|bk (e:List S)|ct (e:List S)|ex (c:Value) (e:List S)|no
section
variable(K:PySem.W.Frag)(Z:Zt)(EE:L2.St->XK)
abbrev XH(σ:St)(G:Hp):Value->List S->Prop:=λc e'=>∀G' H',Rel K Z G' σ H' e'->Same G G'->EE σ c none H'
nD liftE(d:Den W):TE:=λσ H Q=>AtG K Z σ H λG e=>(d e).holds (λw e'=>∀G' v H',Rel K Z G' σ H' e'->Same G G'->Rep K G' w v->Q v H') (XH K Z EE σ G)
nD liftA(d:Den (List W)):TA:=λσ H Q=>AtG K Z σ H λG e=>(d e).holds (λws e'=>∀G' vs H',Rel K Z G' σ H' e'->Same G G'->Reps K G' ws vs->Q vs H') (XH K Z EE σ G)
nD liftT(d:Den Bool):TT:=λσ H Q=>AtG K Z σ H λG e=>(d e).holds (λb e'=>∀G' H',Rel K Z G' σ H' e'->Same G G'->Q b H') (XH K Z EE σ G)
nD liftF(d:Den (List W)):TE:=λσ H Q=>AtG K Z σ H λG e=>(d e).holds (λws e'=>∀G' a xs H',Rel K Z G' σ H' e'->Same G G'->H' a=some (.lst xs)->G' a=none->Z.H a=none->Free σ e' a->Reps K G' ws xs->Q (.ref a) H') (XH K Z EE σ G)
nD PostS(D:Ends)(G:Hp):SR->Prop
 |.nx e'=>∀G' σ' H',Rel K Z G' σ' H' e'->Same G G'->D.nx σ' H'
 |.bk e'=>∀G' σ' H',Rel K Z G' σ' H' e'->Same G G'->D.bk σ' H'
 |.ct e'=>∀G' σ' H',Rel K Z G' σ' H' e'->Same G G'->D.ct σ' H'
 |.rt s e'=>∀G' σ' v H',Rel K Z G' σ' H' e'->Same G G'->SlotOk K Z G' H' s (some v)->D.rt v H'
 |.ex c e'=>∀G' σ' H',Rel K Z G' σ' H' e'->Same G G'->EE σ' c none H'
 |.no=>False
nD liftS(d:List S->SR):TS:=λD σ H=>AtG K Z σ H λG e=>PostS K Z EE D G (d e)
end
section
variable(Z:Zt)(X:Cx)(EE:L2.St->XK)
nD DE(e:Expr)(d:Den W):Prop:=PE X e (liftE X.K Z EE d)
nD DF(e:Expr)(d:Den (List W)):Prop:=PE X e (liftF X.K Z EE d)
nD DT(e:Expr)(d:Den Bool):Prop:=PT X e (liftT X.K Z EE d)
nD DW(e:Expr)(d:Den Bool):Prop:=PW X e (liftT X.K Z EE d)
nD DA(es:List Expr)(d:Den (List W)):Prop:=PA X es (liftA X.K Z EE d)
nD DS(st:Stmt)(d:List S->SR):Prop:=PS X st (liftS X.K Z EE d)
nD DSs(sts:List Stmt)(d:List S->SR):Prop:=PSs X sts (liftS X.K Z EE d)
end
tm PE.mono(h:PE X e t)(i:∀σ H Q,t' σ H Q->t σ H Q):PE X e t':=λpins s σ H Q I q=>h pins s σ H Q I (i σ H Q q)
tm PT.mono(h:PT X e t)(i:∀σ H Q,t' σ H Q->t σ H Q):PT X e t':=λpins s σ H Q I q=>h pins s σ H Q I (i σ H Q q)
tm PW.mono(h:PW X e t)(i:∀σ H Q,t' σ H Q->t σ H Q):PW X e t':=λwh pins s σ H Q I q=>h wh pins s σ H Q I (i σ H Q q)
tm PA.mono(h:PA X es t)(i:∀σ H Q,t' σ H Q->t σ H Q):PA X es t':=λp pins s σ H Q I q=>h p pins s σ H Q I (i σ H Q q)
tm PS.mono(h:PS X st t)(i:∀D σ H,t' D σ H->t D σ H):PS X st t':=λpins s σ H D I q=>h pins s σ H D I (i D σ H q)
tm PSs.mono(h:PSs X st t)(i:∀D σ H,t' D σ H->t D σ H):PSs X st t':=λpins s σ H D I q=>h pins s σ H D I (i D σ H q)
section
variable(K:PySem.W.Frag)
nD Op2(r:R2)(f:W->W->Option W):Prop:=∀(G H:Hp)(x y:V)(wx wy w:W)(Q:VK),Same G H->Rep K G wx x->Rep K G wy y->f wx wy=some w->(∀G' v H',Grow G H G' H'->Rep K G' w v->Q v H')->r x y H Q
nD Op1(r:V->Hp->VK->Prop)(f:W->Option W):Prop:=∀(G H:Hp)(x:V)(wx w:W)(Q:VK),Same G H->Rep K G wx x->f wx=some w->(∀G' v H',Grow G H G' H'->Rep K G' w v->Q v H')->r x H Q
nD OpN(r:List V->Hp->VK->Prop)(f:List W->Option W):Prop:=∀(G H:Hp)(xs:List V)(ws:List W)(w:W)(Q:VK),Same G H->Reps K G ws xs->f ws=some w->(∀G' v H',Grow G H G' H'->Rep K G' w v->Q v H')->r xs H Q
end
nD dC(w:W):Den W:=λe=>.ok w e
nD dVar(i:Nat):Den W:=λe=>match e[i]? with
 |some (.fr w)=>.ok w e
 |some (.own none ws)=>.ok (.lst ws) (e.set i (.fr (.lst ws)))
 |_=>.no
nD dOp(f:W->W->Option W)(da db:Den W):Den W:=λe=>(da e).bind λx e1=>(db e1).bind λy e2=>ofOpt (f x y) e2
nD dUn(f:W->Option W)(da:Den W):Den W:=λe=>(da e).bind λx e1=>ofOpt (f x) e1
nD dTest(da:Den W):Den Bool:=λe=>(da e).bind λx e1=>match x with
 |.bl k=>.ok k e1
 |_=>.no
nD truW:W->Option Bool
 |.non=>some false
 |.bl b=>some b
 |.int i=>some (i != 0)
 |.str x=>if x.length<=16777216 then some ((x.length:Int) != 0)else none
 |.tup xs=>some (!xs.isEmpty)
 |.lst xs=>some (!xs.isEmpty)
 |.exc _=>none
 |.dic _=>none
 |.dw _ _ _ _=>none
nD dTru(da:Den W):Den Bool:=λe=>(da e).bind λx e1=>ofOpt (truW x) e1
nD dAnd(a b:Den Bool):Den Bool:=λe=>(a e).bind λx e1=>if x=true then b e1 else .ok false e1
nD dOr(a b:Den Bool):Den Bool:=λe=>(a e).bind λx e1=>if x=true then .ok true e1 else b e1
nD dNot(a:Den Bool):Den Bool:=λe=>(a e).bind λx e1=>.ok (!x) e1
nD dAndV(a b:Den W):Den W:=λe=>(a e).bind λx e1=>match x with
 |.bl true=>b e1
 |.bl false=>.ok (.bl false) e1
 |_=>.no
nD dOrV(a b:Den W):Den W:=λe=>(a e).bind λx e1=>match x with
 |.bl true=>.ok (.bl true) e1
 |.bl false=>b e1
 |_=>.no
nD dIf(c:Den Bool)(a b:Den W):Den W:=λe=>(c e).bind λx e1=>if x=true then a e1 else b e1
nD dNil:Den (List W):=λe=>.ok [] e
nD dCons(a:Den W)(r:Den (List W)):Den (List W):=λe=>(a e).bind λx e1=>(r e1).bind λxs e2=>.ok (x::xs) e2
nD dTup(a:Den (List W)):Den W:=λe=>(a e).bind λxs e1=>if xs.length<=16777216 then .ok (.tup xs) e1 else .no
nD dLst(a:Den (List W)):Den (List W):=λe=>(a e).bind λxs e1=>if xs.length<=16777216 then .ok xs e1 else .no
nD dFz(a:Den (List W)):Den W:=λe=>(a e).bind λxs e1=>.ok (.lst xs) e1
nD dFn(f:List W->Option W)(a:Den (List W)):Den W:=λe=>(a e).bind λxs e1=>ofOpt (f xs) e1
section
variable{X:Cx}{a b c e:Expr}{da db:Den W}{ta:Den Bool}
tm XH.trans{G1:Hp}(s:Same G G1){c:Value}{e:List S}(h:XH K Z EE σ G c e):XH K Z EE σ G1 c e:=λG' H' r q=>h G' H' r (s.trans q)
tm q0c{j pos}:DE Z X EE (.Constant (.int i) j pos) (dC (.int i)):=PE.mono z2o λσ H Q ⟨G,e,r,h⟩=>h G (.int i) H r (.refl _) rfl
tm q6b{j pos}:DE Z X EE (.Constant (.bool i) j pos) (dC (.bl i)):=PE.mono z65 λσ H Q ⟨G,e,r,h⟩=>h G (.bl i) H r (.refl _) rfl
tm q31{j pos}:DE Z X EE (.Constant .none j pos) (dC .non):=PE.mono z2p λσ H Q ⟨G,e,r,h⟩=>h G .non H r (.refl _) rfl
tm q0f{j pos}:DE Z X EE (.Constant (.str i) j pos) (dC (.str i)):=PE.mono y0o λσ H Q ⟨G,e,r,h⟩=>h G (.str i) H r (.refl _) rfl
tm y4j:∀σ H Q,liftE K Z EE (dVar i) σ H Q->tVar i σ H Q:=by
 rintro σ H Q ⟨G,e,r,h⟩;unfold dVar at h;split at h
 ·rename_i w hw;~⟨v,h1,h2⟩:=r.fr hw;!⟨v,h1,h G v H r (.refl _) h2⟩
 ·rename_i ws hw;~⟨v,G',h1,h2,h3,h4⟩:=r.freeze hw;!⟨v,h1,h G' v H h4 h2 h3⟩
 ·!h.elim
tm dv(i:Nat)(hN:X.N[i]?=some x:=by rfl)(hv:Vis X.env.scope x:=by walk_at "1")(hd:(x==("__debug__":Str))=false:=by decide)
  (hcd:(x==("__classdict__":Str))=false:=by decide):DE Z X EE (.Name x pos) (dVar i):=PE.mono (pv i hN hv hd hcd) y4j
tm q4k(hf:Op2 K r f):∀σ H Q,liftE K Z EE (dOp f da db) σ H Q->tOp r (liftE K Z EE da) (liftE K Z EE db) σ H Q:=by
 rintro σ H Q ⟨G,e,rel,h⟩;simp only[dOp,R.holds_bind,ofOpt_holds]at h;rF⟨G,e,rel,h.imp (λx e1 h G1 v1 H1 r1 s1 p1=>?_) λ_ _ h=>h⟩
 rF⟨G1,e1,r1,h.imp (λy e2 h G2 v2 H2 r2 s2 p2=>?_) λ_ _ h=>XH.trans s1 h⟩
 ~⟨w,hw,h⟩:=h;!hf G2 H2 v1 v2 x y w Q r2.sub (Rep.mono s2 x p1) p2 hw λG' v H' g p=>h G' v H' (r2.grow g) ((s1.trans s2).trans g.gg) p
tm q7f(ho:OpR X (binaryOp op) r)(hf:Op2 X.K r f)(ha:DE Z X EE a da)(hb:DE Z X EE b db):DE Z X EE (.BinOp a op b pos) (dOp f da db):=PE.mono (z69 ho ha hb) (q4k hf)
tm q83(ho:OpR X (compareOp op) r)(hf:Op2 X.K r f)(ha:DE Z X EE a da)(hb:DE Z X EE b db)(hm:behindInMarks op b=false):DE Z X EE (.Compare a [op] [b] pos) (dOp f da db):=PE.mono (y71 ho ha hb hm) (q4k hf)
tm x30(h:liftT K Z EE (dTest da) σ H Q):liftE K Z EE da σ H (λx H'=>∃k,x=.bl k/\Q k H'):=by
 ~⟨G,e,rel,h⟩:=h;simp only[dTest,R.holds_bind]at h;rF⟨G,e,rel,h.imp (λx e1 h G1 v1 H1 r1 s1 p1=>?_) λ_ _ h=>h⟩
 cases x with
 |bl k=>
  cases(show v1=V.bl k from p1);!⟨k,rfl,h G1 H1 r1 s1⟩
 |_=>!h.elim
tm q4u(ho:OpR X (compareOp op) r)(hf:Op2 X.K r f)(ha:DE Z X EE a da)(hb:DE Z X EE b db)(hm:behindInMarks op b=false):DT Z X EE (.Compare a [op] [b] pos) (dTest (dOp f da db)):=
 PT.mono (y72 ho ha hb hm) λσ H Q h=>q4k hf σ H _ (x30 h)
tm y8d(hf:Op1 K r f):∀σ H Q,liftE K Z EE (dUn f da) σ H Q->tUn r (liftE K Z EE da) σ H Q:=by
 rintro σ H Q ⟨G,e,rel,h⟩;simp only[dUn,R.holds_bind,ofOpt_holds]at h;rF⟨G,e,rel,h.imp (λx e1 h G1 v1 H1 r1 s1 p1=>?_) λ_ _ h=>h⟩
 ~⟨w,hw,h⟩:=h;!hf G1 H1 v1 x w Q r1.sub p1 hw λG' v H' g p=>h G' v H' (r1.grow g) (s1.trans g.gg) p
tm z7e(ho:UnR X (unaryOp op) r)(hf:Op1 X.K r f)(ha:DE Z X EE a da):DE Z X EE (.UnaryOp op a pos) (dUn f da):=PE.mono (z7a ho ha) (y8d hf)
tm z3k(s:Same G H)(h:Rep K G w v)(e:truW w=some k):TruV K v H k:=by
 cases w with
 |non=>cases(show v=.non from h);@e;rfl
 |bl b=>cases(show v=.bl b from h);@e;rfl
 |int i=>cases(show v=.int i from h);@e;rfl
 |str x=>
  cases(show v=.str x from h);simp only[truW]at e;split at e
  ·@e;!⟨by grind [sizeLine_eq],rfl⟩
  ·@e
 |tup ws=>
  ~⟨p,xs,rfl,q,r⟩:=h;@e;rF .inr (.inl ⟨xs,s.tup q,?_⟩);#:=r.length
  grind
 |lst ws=>
  ~⟨p,xs,rfl,q,r⟩:=h;@e;rF .inl ⟨xs,s.seq q,?_⟩;#:=r.length
  grind
 |exc _=>@e
 |dic _=>@e
 |dw _ _ _ _=>@e
tm q3b(ha:DE Z X EE a da)(he:∀whole,isTrue a X.env whole=(do let v <- whole;standAt a.pos;holding [v] (truthy v)):=by intro _;rfl):DT Z X EE a (dTru da):=by
 rF PT.mono (y39 ha he) ?_;rintro σ H Q ⟨G,e,rel,h⟩;simp only[dTru,R.holds_bind,ofOpt_holds]at h;rF⟨G,e,rel,h.imp (λx e1 h G1 v1 H1 r1 s1 p1=>?_) λ_ _ h=>h⟩
 ~⟨k,hk,h⟩:=h;!⟨k,z3k r1.sub p1 hk,h G1 H1 r1 s1⟩
tm y4k:∀σ H Q,liftT K Z EE (dAnd ta tb) σ H Q->tAnd (liftT K Z EE ta) (liftT K Z EE tb) σ H Q:=by
 rintro σ H Q ⟨G,e,rel,h⟩;simp only[dAnd,R.holds_bind]at h;rF⟨G,e,rel,h.imp (λx e1 h G1 H1 r1 s1=>?_) λ_ _ h=>h⟩
 cases x with
 |true=>!⟨G1,e1,r1,R.holds.imp (show(tb e1).holds _ _ from h) (λy e2 h G2 H2 r2 s2=>h G2 H2 r2 (s1.trans s2)) λ_ _ h=>XH.trans s1 h⟩
 |false=>!(show ∀G' H',_->_->Q false H' from h) G1 H1 r1 s1
tm y8e:∀σ H Q,liftT K Z EE (dOr ta tb) σ H Q->tOr (liftT K Z EE ta) (liftT K Z EE tb) σ H Q:=by
 rintro σ H Q ⟨G,e,rel,h⟩;simp only[dOr,R.holds_bind]at h;rF⟨G,e,rel,h.imp (λx e1 h G1 H1 r1 s1=>?_) λ_ _ h=>h⟩
 cases x with
 |false=>!⟨G1,e1,r1,R.holds.imp (show(tb e1).holds _ _ from h) (λy e2 h G2 H2 r2 s2=>h G2 H2 r2 (s1.trans s2)) λ_ _ h=>XH.trans s1 h⟩
 |true=>!(show ∀G' H',_->_->Q true H' from h) G1 H1 r1 s1
tm q2z(ha:DT Z X EE a ta):DW Z X EE (.BoolOp .And [a] pos) ta:=y7u ha
tm q6v(ha:DT Z X EE a ta):DW Z X EE (.BoolOp .Or [a] pos) ta:=z2s ha
tm q11{rest:List Expr}(ha:DT Z X EE a ta)(hb:DW Z X EE (.BoolOp .And (b::rest) pos) tb):DW Z X EE (.BoolOp .And (a::b::rest) pos) (dAnd ta tb):=PW.mono (z2t ha hb) y4k
tm q6c{rest:List Expr}(ha:DT Z X EE a ta)(hb:DW Z X EE (.BoolOp .Or (b::rest) pos) tb):DW Z X EE (.BoolOp .Or (a::b::rest) pos) (dOr ta tb):=PW.mono (z66 ha hb) y8e
tm dt_w(h:DW Z X EE a ta):DT Z X EE a ta:=PW.pt h
tm q84(ha:DT Z X EE a ta):DT Z X EE (.UnaryOp .Not a pos) (dNot ta):=by
 rF PT.mono (z2u ha) ?_;rintro σ H Q ⟨G,e,rel,h⟩;simp only[dNot,R.holds_bind]at h;!⟨G,e,rel,h.imp (λx e1 h G1 H1 r1 s1=>h G1 H1 r1 s1) λ_ _ h=>h⟩
tm x12{op}(h:DE Z X EE a da):DE Z X EE (.BoolOp op [a] pos) da:=z2v h
tm x5v{rest:List Expr}(ha:DE Z X EE a da)(hb:DE Z X EE (.BoolOp .And (b::rest) pos) db):DE Z X EE (.BoolOp .And (a::b::rest) pos) (dAndV da db):=by
 rF PE.mono (z2w ha hb) ?_;rintro σ H Q ⟨G,e,rel,h⟩;simp only[dAndV,R.holds_bind]at h;rF⟨G,e,rel,h.imp (λx e1 h G1 v1 H1 r1 s1 p1=>?_) λ_ _ h=>h⟩
 cases x with
 |bl k=>
  cases(show v1=V.bl k from p1);cases k with
  |true=>!⟨true,rfl,⟨G1,e1,r1,R.holds.imp (show(db e1).holds _ _ from h) (λy e2 h G2 v2 H2 r2 s2 p2=>h G2 v2 H2 r2 (s1.trans s2) p2) λ_ _ h=>XH.trans s1 h⟩⟩
  |false=>!⟨false,rfl,(show ∀G' v H',_->_->v=V.bl false->Q v H' from h) G1 _ H1 r1 s1 rfl⟩
 |_=>!h.elim
tm y7b{rest:List Expr}(ha:DE Z X EE a da)(hb:DE Z X EE (.BoolOp .Or (b::rest) pos) db):DE Z X EE (.BoolOp .Or (a::b::rest) pos) (dOrV da db):=by
 rF PE.mono (z67 ha hb) ?_;rintro σ H Q ⟨G,e,rel,h⟩;simp only[dOrV,R.holds_bind]at h;rF⟨G,e,rel,h.imp (λx e1 h G1 v1 H1 r1 s1 p1=>?_) λ_ _ h=>h⟩
 cases x with
 |bl k=>
  cases(show v1=V.bl k from p1);cases k with
  |false=>!⟨false,rfl,⟨G1,e1,r1,R.holds.imp (show(db e1).holds _ _ from h) (λy e2 h G2 v2 H2 r2 s2 p2=>h G2 v2 H2 r2 (s1.trans s2) p2) λ_ _ h=>XH.trans s1 h⟩⟩
  |true=>!⟨true,rfl,(show ∀G' v H',_->_->v=V.bl true->Q v H' from h) G1 _ H1 r1 s1 rfl⟩
 |_=>!h.elim
tm x48(hc:DT Z X EE c dc)(ha:DE Z X EE a da)(hb:DE Z X EE b db):DE Z X EE (.IfExp c a b pos) (dIf dc da db):=by
 rF PE.mono (y35 hc ha hb) ?_;rintro σ H Q ⟨G,e,rel,h⟩;simp only[dIf,R.holds_bind]at h;rF⟨G,e,rel,h.imp (λx e1 h G1 H1 r1 s1=>?_) λ_ _ h=>h⟩
 cases x with
 |true=>!⟨G1,e1,r1,R.holds.imp (show(da e1).holds _ _ from h) (λy e2 h G2 v2 H2 r2 s2 p2=>h G2 v2 H2 r2 (s1.trans s2) p2) λ_ _ h=>XH.trans s1 h⟩
 |false=>!⟨G1,e1,r1,R.holds.imp (show(db e1).holds _ _ from h) (λy e2 h G2 v2 H2 r2 s2 p2=>h G2 v2 H2 r2 (s1.trans s2) p2) λ_ _ h=>XH.trans s1 h⟩
tm q0b:DA Z X EE [] dNil:=PA.mono x1x λσ H Q ⟨G,e,r,h⟩=>h G [] H r (.refl _) rfl
tm q0a(ha:DE Z X EE e da)(hr:DA Z X EE es dA)(hs:starEach (e::es) X.env=(false,eval e X.env)::starEach es X.env:=by rfl):DA Z X EE (e::es) (dCons da dA):=by
 rF PA.mono (q5c ha hr hs) ?_;rintro σ H Q ⟨G,e,rel,h⟩;simp only[dCons,R.holds_bind]at h;rF⟨G,e,rel,h.imp (λx e1 h G1 v1 H1 r1 s1 p1=>?_) λ_ _ h=>h⟩
 rF⟨G1,e1,r1,h.imp (λxs e2 h G2 vs H2 r2 s2 p2=>?_) λ_ _ h=>XH.trans s1 h⟩
 !h G2 (v1::vs) H2 r2 (s1.trans s2) ⟨v1,vs,rfl,Rep.mono s2 x p1,p2⟩
tm q0r{x1}(h:DA Z X EE es dA):DE Z X EE (.Tuple es x1 pos) (dTup dA):=by
 rF PE.mono (z27 h) ?_;rintro σ H Q ⟨G,e,rel,h⟩;simp only[dTup,R.holds_bind]at h;rF⟨G,e,rel,h.imp (λws e1 h G1 vs H1 r1 s1 p1=>?_) λ_ _ h=>h⟩
 split at h
 ·rename_i hl;rF⟨by rw[p1.length,sizeLine_eq];!hl,λp hp=>?_⟩
  #g:=Grow.laid r1.sub hp (.tup vs);!(show ∀G' v H',_->_->Rep X.K G' (.tup ws) v->Q v H' from h) _ (.ref p) _ (r1.grow g) (s1.trans g.gg) ⟨p,vs,rfl,SqT.of q0k,Reps.mono g.gg ws p1⟩
 ·!h.elim
tm x1c{e:List S}(r:Rel K Z G σ H e){p:Addr}(hp:H p=none):Free σ e p:=λj b ws h q=>by
 ~⟨a,xs,h1,h2,_⟩:=r.own h;rw[q]at h1;@h1;rw[hp]at h2;@h2
tm q7v{e:List S}(r:Rel K Z G σ H e){p:Addr}(hp:H p=none):Z.H p=none:=by
 cases q:Z.H p with
 |none=>rfl
 |some o=>
  by_cases hi:p∈Z.io
  ·!absurd hp (r.ion p hi)
  ·rw[r.ent p o q hi]at hp;@hp
tm x1d{e:List S}{ws:List W}{vs:List V}{Q:VK}{G0:Hp}(r:Rel K Z G σ H e)(s:Same G0 G)(p1:Reps K G ws vs)
  (h:∀G' a xs H',Rel K Z G' σ H' e->Same G0 G'->H' a=some (.lst xs)->G' a=none->Z.H a=none->Free σ e a->Reps K G' ws xs->Q (.ref a) H'):∀p,H p=none->Q (.ref p) (upd H p (.lst vs)):=λp hp=>by
 #g:=Grow.hid r.sub hp (.lst vs);!h G p vs _ (r.grow g) s q0k (r.sub.free hp) (q7v r hp) (x1c r hp) p1
tm q00(h:DA Z X EE es dA):DF Z X EE (.List es pos) (dLst dA):=by
 rF PE.mono (z28 h) ?_;rintro σ H Q ⟨G,e,rel,h⟩;simp only[dLst,R.holds_bind]at h;rF⟨G,e,rel,h.imp (λws e1 h G1 vs H1 r1 s1 p1=>?_) λ_ _ h=>h⟩
 split at h
 ·rename_i hl;!⟨by rw[p1.length,sizeLine_eq];!hl,x1d r1 s1 p1 h⟩
 ·!h.elim
tm Rel.seen{e:List S}(r:Rel K Z G σ H e){a:Addr}{xs:List V}(h:H a=some (.lst xs))(hg:G a=none)(hz:Z.H a=none)(hf:Free σ e a):Same G (upd G a (.lst xs))/\Rel K Z (upd G a (.lst xs)) σ H e:=by
 #sg:Same G (upd G a (.lst xs)):=q3a hg _;rF⟨sg,⟨λc o z=>?_,λj s z=>?_,r.len,r.dis,r.ent,r.ion,λc z=>?_⟩⟩
 ·by_cases hc:c=a
  ·subst hc;rw[q0k]at z;@z;!h
  ·rw[q0g hc]at z;!r.sub c o z
 ·#y:=r.slot j s z;cases s with
  |no=>trivial
  |fr w=>
   ~⟨u,y1,y2⟩:=y;!⟨u,y1,Rep.mono sg w y2⟩
  |own b2 w2=>
   ~⟨c,ys,y1,y2,y3,y4,y5⟩:=y;rF⟨c,ys,y1,y2,?_,y4,Reps.mono sg w2 y5⟩;rw[q0g];!y3;rintro rfl;~⟨c',_,z1,_⟩:=r.own z;rw[z1]at y1;@y1;!hf j b2 w2 z z1
  |dic kvs=>
   ~⟨c,y1,y2,y3,y4⟩:=y;rF⟨c,y1,y2,?_,y4⟩;rw[q0g (q3q y2 h (q79 rfl))];!y3
  |dw sh ks ws=>!DwOk.move y sg λl o ys k1 k2 k3=>⟨k1,by rw[q0g (q3q k1 h (q82 rfl))];!k2,k3⟩
 ·by_cases hc:c=a
  ·subst hc;!absurd hz z
  ·rw[q0g hc];!r.gen c z
tm q12(h:DF Z X EE e dA):DE Z X EE e (dFz dA):=by
 rF PE.mono h ?_;rintro σ H Q ⟨G,e,rel,h⟩;simp only[dFz,R.holds_bind]at h;rF⟨G,e,rel,h.imp (λws e1 h G1 a xs H1 r1 s1 q1 q2 q3 q4 p1=>?_) λ_ _ h=>h⟩
 ~⟨sg,rg⟩:=r1.seen q1 q2 q3 q4;!(show ∀G' v H',_->_->Rep X.K G' (.lst ws) v->Q v H' from h) _ (.ref a) _ rg (s1.trans sg) ⟨a,xs,rfl,SqL.of q0k,Reps.mono sg ws p1⟩
tm x78(hf:OpN K r f):∀σ H Q,liftE K Z EE (dFn f dA) σ H Q->tCB r (liftA K Z EE dA) σ H Q:=by
 rintro σ H Q ⟨G,e,rel,h⟩;simp only[dFn,R.holds_bind,ofOpt_holds]at h;rF⟨G,e,rel,h.imp (λws e1 h G1 vs H1 r1 s1 p1=>?_) λ_ _ h=>h⟩
 ~⟨w,hw,h⟩:=h;!hf G1 H1 vs ws w Q r1.sub p1 hw λG' v H' g p=>h G' v H' (r1.grow g) (s1.trans g.gg) p
tm x5w{id:String}{p:Pos}{r:List V->Hp->VK->Prop}{f:List W->Option W}(hc:CallR X (.builtin id) r)(hf:OpN X.K r f)(hv:bootBuiltins x=some (.builtin id))(hm:X.mg x=none)(ha:DA Z X EE (e::es) dA)(hg:Gl X x:=by rfl)(hn:x≠"__name__":=by decide)(hdb:(x==("__debug__":Str))=false:=by decide)
  (he:starEach (e::es) X.env=(false,eval e X.env)::starEach es X.env:=by rfl)(hpl:(backTo pos (starEach es X.env)).any (·.1)=false:=by rfl):DE Z X EE (.Call (.Name x p) (e::es) [] pos) (dFn f dA):=
 PE.mono (x1b hc hg hm hv ha hn hdb he hpl) (x78 hf)
tm y06{T:String}{p:Pos}{r:List V->Hp->VK->Prop}{f:List W->Option W}(hc:CallR X (.type T) r)(hf:OpN X.K r f)(hv:bootBuiltins x=some (.type T))(hm:X.mg x=none)(ha:DA Z X EE (e::es) dA)(hg:Gl X x:=by rfl)(hn:x≠"__name__":=by decide)(hdb:(x==("__debug__":Str))=false:=by decide)
  (he:starEach (e::es) X.env=(false,eval e X.env)::starEach es X.env:=by rfl)(hpl:(backTo pos (starEach es X.env)).any (·.1)=false:=by rfl):DE Z X EE (.Call (.Name x p) (e::es) [] pos) (dFn f dA):=
 PE.mono (x3u hc hg hm hv ha hn hdb he hpl) (x78 hf)
end
nD dNx:List S->SR:=λe=>.nx e
nD dSeq(a b:List S->SR):List S->SR:=λe=>match a e with
 |.nx e'=>b e'
 |r=>r
nD R.stm(r:R α)(k:α->List S->SR):SR:=match r with
 |.ok a e=>k a e
 |.ex c e=>.ex c e
 |.no=>.no
nD dDrop(d:Den W):List S->SR:=λe=>(d e).stm λ_ e'=>.nx e'
nD dRet(d:Den W):List S->SR:=λe=>(d e).stm λw e'=>.rt (.fr w) e'
nD dRetF(d:Den (List W)):List S->SR:=λe=>(d e).stm λws e'=>.rt (.own none ws) e'
nD dRetO(i:Nat):List S->SR:=λe=>match e[i]? with
 |some (.own none ws)=>.rt (.own none ws) e
 |some (.fr w)=>.rt (.fr w) e
 |_=>.no
nD dIfS(c:Den Bool)(a b:List S->SR):List S->SR:=λe=>(c e).stm λx e1=>if x=true then a e1 else b e1
nD dSet(i:Nat)(d:Den W):List S->SR:=λe=>(d e).stm λw e'=>.nx (e'.set i (.fr w))
nD dSetO(i:Nat)(d:Den (List W)):List S->SR:=λe=>(d e).stm λws e'=>.nx (e'.set i (.own none ws))
nD forD(i:Nat)(b:List S->SR):List W->List S->SR
 |[],e=>.nx e
 |w::ws,e=>match b (e.set i (.fr w))with
  |.nx e'=>forD i b ws e'
  |.ct e'=>forD i b ws e'
  |.bk e'=>.nx e'
  |.rt s e'=>.rt s e'
  |.ex c e'=>.ex c e'
  |.no=>.no
nD whileD(c:Den Bool)(b:List S->SR):Nat->List S->SR
 |0,_=>.no
 |n+1,e=>(c e).stm λx e1=>if x=true then(match b e1 with
  |.nx e'=>whileD c b n e'
  |.ct e'=>whileD c b n e'
  |.bk e'=>.nx e'
  |.rt s e'=>.rt s e'
  |.ex c e'=>.ex c e'
  |.no=>.no)else .nx e1
nD seqW:W->Option (List W)
 |.tup ws=>some ws
 |.lst ws=>some ws
 |_=>none
nD dFor(i:Nat)(d:Den W)(b:List S->SR):List S->SR:=λe=>(d e).stm λw e1=>match seqW w with
 |some ws=>forD i b ws e1
 |none=>.no
nD rangeW(lo hi:Int):List W:=(List.range (hi-lo).toNat).map λk=>.int (lo+(k:Nat))
nD okI(j:Int):Bool:=Nat.ble j.natAbs 4611686018427387903
tm q4v(h:okI j=true):-(2^62)<=j/\j<2^62:=by
 #z:j.natAbs<=4611686018427387903:=w3p h
 grind
tm q32(h1:-1000000000<=j)(h2:j<=1000000000):okI j=true:=w4t oM
nD rng1:List W->Option (List W)
 |[.int j]=>if okI j=true then some (rangeW 0 j)else none
 |_=>none
nD rng2:List W->Option (List W)
 |[.int i,.int j]=>if okI i=true/\okI j=true then some (rangeW i j)else none
 |_=>none
nD dForR(i:Nat)(g:List W->Option (List W))(d:Den (List W))(b:List S->SR):List S->SR:=λe=>(d e).stm λw e1=>match g w with
 |some ws=>forD i b ws e1
 |none=>.no
section
variable{X:Cx}{a c e:Expr}{st:Stmt}{rest body:List Stmt}{d:Den W}{s1 s2:List S->SR}
tm PostS.trans(s:Same G G1):∀{r:SR},PostS K Z EE D G r->PostS K Z EE D G1 r
 |.nx e',h=>λG' σ' H' r q=>h G' σ' H' r (s.trans q)
 |.bk e',h=>λG' σ' H' r q=>h G' σ' H' r (s.trans q)
 |.ct e',h=>λG' σ' H' r q=>h G' σ' H' r (s.trans q)
 |.rt w e',h=>λG' σ' v H' r q=>h G' σ' v H' r (s.trans q)
 |.ex c e',h=>λG' σ' H' r q=>h G' σ' H' r (s.trans q)
 |.no,h=>h
tm q0w{r:R α}(h:PostS K Z EE D G (r.stm k)):r.holds (λa e'=>PostS K Z EE D G (k a e')) (XH K Z EE σ G):=by
 cases r with
 |ok a e=>!h
 |ex c e=>!λG' H' r q=>h G' σ H' r q
 |no=>!h
tm q0o:DSs Z X EE [] dNx:=PSs.mono y7v λD σ H ⟨G,e,r,h⟩=>h G σ H r (.refl _)
tm y4l:∀D σ H,liftS K Z EE (dSeq s1 s2) D σ H->tSeq (liftS K Z EE s1) (liftS K Z EE s2) D σ H:=by
 rintro D σ H ⟨G,e,rel,h⟩;rF⟨G,e,rel,?_⟩;unfold dSeq at h;cases q:s1 e with
 |nx e'=>rw[q]at h;!λG' σ' H' r s=>⟨G',e',r,PostS.trans s h⟩
 |bk e'=>rw[q]at h;!h
 |ct e'=>rw[q]at h;!h
 |rt w e'=>rw[q]at h;!h
 |ex c e'=>rw[q]at h;!h
 |no=>rw[q]at h;!h
tm q0d(h1:DS Z X EE st s1)(h2:DSs Z X EE rest s2):DSs Z X EE (st::rest) (dSeq s1 s2):=PSs.mono (y36 h1 h2) y4l
tm q0e(h1:DS Z X EE st s1):DSs Z X EE [st] s1:=y7w h1
tm x24(he:DE Z X EE e d)(hs:swapsWith e none pos.line X.env=pure false:=by rfl):DS Z X EE (.Expr e pos) (dDrop d):=by
 rF PS.mono (q7t he hs) ?_;rintro D σ H ⟨G,e,rel,h⟩;!⟨G,e,rel,(q0w h).imp (λw e1 h G1 v1 H1 r1 s1 p1=>h G1 σ H1 r1 s1) λ_ _ h=>h⟩
tm q0n(he:DE Z X EE e d):DS Z X EE (.Return (some e) pos) (dRet d):=by
 rF PS.mono (q8y he) ?_;rintro D σ H ⟨G,e,rel,h⟩;!⟨G,e,rel,(q0w h).imp (λw e1 h G1 v1 H1 r1 s1 p1=>h G1 σ v1 H1 r1 s1 ⟨v1,rfl,p1⟩) λ_ _ h=>h⟩
tm y8f(he:DF Z X EE e dA):DS Z X EE (.Return (some e) pos) (dRetF dA):=by
 rF PS.mono (q8y he) ?_;rintro D σ H ⟨G,e,rel,h⟩;!⟨G,e,rel,(q0w h).imp (λw e1 h G1 a xs H1 r1 s1 q1 q2 q3 q4 p1=>h G1 σ (.ref a) H1 r1 s1 ⟨a,xs,rfl,q1,q2,q3,p1⟩) λ_ _ h=>h⟩
tm x79(i:Nat){p:Pos}(hN:X.N[i]?=some x:=by rfl)(hv:Vis X.env.scope x:=by walk_at "1")(hd:(x==("__debug__":Str))=false:=by decide)
  (hcd:(x==("__classdict__":Str))=false:=by decide):DS Z X EE (.Return (some (.Name x p)) pos) (dRetO i):=by
 rF PS.mono (q8y (pv i hN hv hd hcd)) ?_;rintro D σ H ⟨G,e,rel,h⟩;unfold dRetO at h;split at h
 ·rename_i ws hw;~⟨a,xs,h1,h2,h3,h4,h5⟩:=rel.own hw;!⟨.ref a,h1,h G σ _ H rel (.refl _) ⟨a,xs,rfl,h2,h3,h4,h5⟩⟩
 ·rename_i w hw;~⟨v,h1,h2⟩:=rel.fr hw;!⟨v,h1,h G σ _ H rel (.refl _) ⟨v,rfl,h2⟩⟩
 ·!h.elim
tm y4m:∀D σ H,liftS K Z EE (dIfS dc s1 s2) D σ H->tIfS (liftT K Z EE dc) (liftS K Z EE s1) (liftS K Z EE s2) D σ H:=by
 rintro D σ H ⟨G,e,rel,h⟩;rF⟨G,e,rel,(q0w h).imp (λx e1 h G1 H1 r1 q1=>?_) λ_ _ h=>h⟩
 cases x with
 |true=>!⟨G1,e1,r1,PostS.trans q1 h⟩
 |false=>!⟨G1,e1,r1,PostS.trans q1 h⟩
tm q0q(hc:DT Z X EE c dc)(ha:DSs Z X EE p s1)(hb:DSs Z X EE q s2):DS Z X EE (.If c p q pos) (dIfS dc s1 s2):=PS.mono (z68 hc ha hb) y4m
tm q0i(i:Nat)(hN:X.N.Nodup)(he:DE Z X EE e d)(hi:X.N[i]?=some x:=by rfl)(hx:Loc X.env.scope x:=by walk_at "3")(hs:swapsWith e (some (.Name x pos')) pos.line X.env=pure false:=by rfl)(hf:X.fn x=true\/X.env.scope.names.lookup x=some .local:=by walk_at "2"):
  DS Z X EE (.Assign [.Name x pos'] e pos) (dSet i d):=by
 rF PS.mono (x11 i hN he hi hx hs hf) ?_;rintro D σ H ⟨G,e,rel,h⟩;!⟨G,e,rel,(q0w h).imp (λw e1 h G1 v1 H1 r1 q1 p1=>h G1 _ H1 (r1.set p1) q1) λ_ _ h=>h⟩
tm q33(i:Nat)(hN:X.N.Nodup)(he:DF Z X EE e dA)(hi:X.N[i]?=some x:=by rfl)(hx:Loc X.env.scope x:=by walk_at "3")(hs:swapsWith e (some (.Name x pos')) pos.line X.env=pure false:=by rfl)(hf:X.fn x=true\/X.env.scope.names.lookup x=some .local:=by walk_at "2"):
  DS Z X EE (.Assign [.Name x pos'] e pos) (dSetO i dA):=by
 rF PS.mono (x11 i hN he hi hx hs hf) ?_;rintro D σ H ⟨G,e,rel,h⟩;!⟨G,e,rel,(q0w h).imp (λw e1 h G1 a xs H1 r1 s1 q1 q2 q3 q4 p1=>h G1 _ H1 (r1.setOwn q1 q2 q3 q4 p1) s1) λ_ _ h=>h⟩
tm x1e(n)(hp:PassesOwn (model X.prog X.w) X.A X.env X.xe)(hc:DT Z X EE c dc)(hb:DSs Z X EE body s1):DS Z X EE (.While c body [] pos) (whileD dc s1 n):=by
 rF PS.mono (y37 hp hc hb) ?_;rintro D σ H ⟨G,e,rel,h⟩;rF⟨λm σ' H'=>∃G' e',Rel X.K Z G' σ' H' e'/\Same G G'/\PostS X.K Z EE D G (whileD dc s1 m e'),⟨n,G,e,rel,.refl _,h⟩,?_⟩
 rintro m σ1 H1 ⟨G1,e1,r1,q1,h⟩;cases m with
 |zero=>!h.elim
 |succ m=>
  rF⟨G1,e1,r1,(q0w (σ:=σ1) h).imp (λx e2 h G2 H2 r2 q2=>?_) λ_ _ h=>XH.trans q1 h⟩
  cases x with
  |false=>!h G2 σ1 H2 r2 (q1.trans q2)
  |true=>
   rF⟨λσ' H'=>∃G' e',Rel X.K Z G' σ' H' e'/\Same G G'/\PostS X.K Z EE D G (whileD dc s1 m e'),λσ' H' q=>⟨m,Nat.lt_succ_self _,q⟩,⟨G2,e2,r2,?_⟩⟩
   #sg:=q1.trans q2;#h:PostS X.K Z EE D G (match s1 e2 with|.nx e'=>whileD dc s1 m e'|.ct e'=>whileD dc s1 m e'|.bk e'=>.nx e'|.rt s e'=>.rt s e'|.ex c e'=>.ex c e'|.no=>.no):=h;cases q:s1 e2 with
   |nx e'=>rw[q]at h;!λG' σ' H' r s=>⟨G',e',r,sg.trans s,h⟩
   |ct e'=>rw[q]at h;!λG' σ' H' r s=>⟨G',e',r,sg.trans s,h⟩
   |bk e'=>rw[q]at h;!λG' σ' H' r s=>h G' σ' H' r (sg.trans s)
   |rt w e'=>rw[q]at h;!λG' σ' v H' r s=>h G' σ' v H' r (sg.trans s)
   |ex c e'=>rw[q]at h;!λG' σ' H' r s=>h G' σ' H' r (sg.trans s)
   |no=>rw[q]at h;!h
tm y4n{x:L2.V}(r1:Rel K Z G1 σ H e1)(q1:Same G G1)(p:Rep K G1 w x)(h:PostS K Z EE D G (forD i s1 (w::ws) e1))
  (hN:∀G' σ' H' e',Rel K Z G' σ' H' e'->Same G G'->PostS K Z EE D G (forD i s1 ws e')->N σ' H'):gName i x σ H λσ2 H2=>liftS K Z EE s1 {D with nx:=N,ct:=N,bk:=D.nx} σ2 H2:=by
 rF⟨G1,e1.set i (.fr w),r1.set p,?_⟩;unfold forD at h;cases q:s1 (e1.set i (.fr w))with
 |nx e'=>rw[q]at h;!λG' σ' H' r s=>hN G' σ' H' e' r (q1.trans s) h
 |ct e'=>rw[q]at h;!λG' σ' H' r s=>hN G' σ' H' e' r (q1.trans s) h
 |bk e'=>rw[q]at h;!λG' σ' H' r s=>h G' σ' H' r (q1.trans s)
 |rt w e'=>rw[q]at h;!λG' σ' v H' r s=>h G' σ' v H' r (q1.trans s)
 |ex c e'=>rw[q]at h;!λG' σ' H' r s=>h G' σ' H' r (q1.trans s)
 |no=>rw[q]at h;!h
nD iSeq(K:PySem.W.Frag)(tl:TE):TI:=λσ H R=>tl σ H λx H1=>∃a,x=.ref a/\(((∃xs,SqL K H1 a xs)/\R (Itl K a) H1)\/((∃xs,SqT K H1 a xs)/\R (Itt K a) H1))
tm x13(hl:PE X l tl):PI X tg l (iSeq X.K tl):=by
 intro pins s σ H R I h;rF thn (hl pins s σ H _ I h) λv s1 ⟨x,H1,I1,r1,q1⟩=>?_
 ~⟨a,e,q⟩:=q1;subst e;@r1;rcases q with⟨⟨xs,hq⟩,q⟩|⟨⟨xs,hq⟩,q⟩
 ·~⟨its,rv,p,hz⟩:=I1.list hq;rF wpAny_pyIter_list p.isList ?_;rF⟨s1.heap.objs.size,[s1.heap.objs.size],_,_,H1,rfl,I1.kept (t':=s1.toks) λb o e=>Heap.get?_push_of_some _ e,y0p a _,⟨_,Heap.get?_push_size _ rfl,rfl,rfl⟩,λb hb=>?_,q⟩
  #e:b=s1.heap.objs.size:=by simpa using hb
  subst e;!I1.fpOk (w0b _) (I1.hok.fresh (w0b _))
 ·~⟨its,rv,p,hz⟩:=I1.tuple hq;rF wpAny_pyIter_tuple (show s1.heap.IsTuple a its.toArray from p) ?_;rF⟨s1.heap.objs.size,[s1.heap.objs.size],_,_,H1,rfl,I1.kept (t':=s1.toks) λb o e=>Heap.get?_push_of_some _ e,x9d a _,⟨_,Heap.get?_push_size _ rfl,rfl,rfl⟩,λb hb=>?_,q⟩
  #e:b=s1.heap.objs.size:=by simpa using hb
  subst e;!I1.fpOk (w0b _) (I1.hok.fresh (w0b _))
tm x31{α:Type}{ws:List α}{w:α}(h:ws[k]?=some w):ws.drop k=w::ws.drop (k+1):=by
 grind [List.drop_eq_getElem_cons]
tm x8a(r1:Rel K Z G1 σ H1 e1)(rp:Reps K G1 ws xs)(h:PostS K Z EE D G1 (forD i s1 ws e1))(SQ:Hp->Prop)(hSQ:∀G' H',Same G1 G'->Same G' H'->SQ H'):
  ∃Pv:Nat->St->Hp->Prop,Pv 0 σ H1/\(∀j σ H,j<=xs.length->Pv j σ H->SQ H)/\(∀(j:Nat) x σ H,xs[j]?=some x->Pv j σ H->gName i x σ H λσ2 H2=>liftS K Z EE s1 {D with nx:=Pv (j+1),ct:=Pv (j+1),bk:=D.nx} σ2 H2)/\∀σ H,Pv xs.length σ H->D.nx σ H:=by
 rF⟨λj σ' H'=>∃G' e',Rel K Z G' σ' H' e'/\Same G1 G'/\PostS K Z EE D G1 (forD i s1 (ws.drop j) e'),⟨G1,e1,r1,.refl _,h⟩,?_,?_,?_⟩
 ·rintro j σ' H' _ ⟨G',e',r',s',_⟩;!hSQ G' H' s' r'.sub
 ·rintro j x σ' H' hx ⟨G',e',r',s',h⟩;~⟨w,hw,pw⟩:=rp.getV hx;rw[x31 hw]at h;!y4n r' s' (Rep.mono s' w pw) h λG'' σ'' H'' e'' r'' s'' h''=>⟨G'',e'',r'',s'',h''⟩
 ·rintro σ' H' ⟨G',e',r',s',h⟩;rw[rp.length,w3s]at h;!h G' σ' H' r' s'
tm q85(i:Nat)(hN:X.N.Nodup)(hp:PassesOwn (model X.prog X.w) X.A X.env X.xe)(hc:X.calm=true)(hl:DE Z X EE e d)(hb:DSs Z X EE body s1)
  (hi:X.N[i]?=some x:=by rfl)(hx:Loc X.env.scope x:=by walk_at "3")(hf:X.fn x=true\/X.env.scope.names.lookup x=some .local:=by walk_at "2")(hs:∀x,foldedSetIterable e X.env x=pure x:=by intro _;rfl):
  DS Z X EE (.For (.Name x pos') e body [] pos) (dFor i d s1):=by
 rF PS.mono (x1v hp hc (x13 hl) (q17 i hN hi hx hf) hb hs) ?_;rintro D σ H ⟨G,e,rel,h⟩;rF⟨G,e,rel,(q0w h).imp (λw e1 h G1 v1 H1 r1 q1 p1=>?_) λ_ _ h=>h⟩
 #key:=λws xs (rp:Reps X.K G1 ws xs) (h:PostS X.K Z EE D G (forD i s1 ws e1))=>x8a (i:=i) (D:=D) r1 rp (PostS.trans q1 h)
 cases w with
 |tup ws=>
  ~⟨a,xs,rfl,hq,rp⟩:=p1;rF⟨a,rfl,.inr ⟨⟨xs,r1.sub.tup hq⟩,?_⟩⟩;~⟨Pv,h0,h1,h2,h3⟩:=key ws xs rp h (λH'=>SqT X.K H' a xs) (λG' H' s s'=>Same.tup s' (Same.tup s hq))
  !y7z Pv h0 h1 h2 h3
 |lst ws=>
  ~⟨a,xs,rfl,hq,rp⟩:=p1;rF⟨a,rfl,.inl ⟨⟨xs,r1.sub.seq hq⟩,?_⟩⟩;~⟨Pv,h0,h1,h2,h3⟩:=key ws xs rp h (λH'=>SqL X.K H' a xs) (λG' H' s s'=>Same.seq s' (Same.seq s hq))
  !y38 Pv h0 h1 h2 h3
 |_=>!h.elim
tm x14:Reps K G (rangeW lo hi) ((List.range (hi-lo).toNat).map λk=>V.int (lo+(k:Nat))):=by
 unfold rangeW;generalize List.range (hi-lo).toNat=l
 induction l with
 |nil=>rfl
 |cons k l ih=>!⟨_,_,rfl,rfl,ih⟩
tm x8b(r1:Rel K Z G1 σ H1 e1)(h:PostS K Z EE D G1 (forD i s1 (rangeW lo hi) e1)):
  ∃W:Nat->Nat->St->Hp->Prop,(∃m,W 0 m σ H1)/\∀j m σ H,W j m σ H ->
   ((Itr lo (hi-lo).toNat).stop j H/\D.nx σ H)\/((Itr lo (hi-lo).toNat).go j H/\∃N:St->Hp->Prop,(∀σ' H',N σ' H'->∃m',m'<m/\W (j+1) m' σ' H')/\∀x H',(Itr lo (hi-lo).toNat).yld j H x H'->gName i x σ H' λσ2 H2=>liftS K Z EE s1 {D with nx:=N,ct:=N,bk:=D.nx} σ2 H2):=by
 ~⟨Pv,h0,h1,h2,h3⟩:=x8a (i:=i) (D:=D) r1 (x14 (lo:=lo) (hi:=hi)) h (λ_=>True) (λ_ _ _ _=>trivial)
 rF y0s Pv h0 (λj σ' H' hj p=>h2 j _ σ' H' ?_ p) (λσ' H' p=>h3 σ' H' (by simpa using p))
 simp[hj]
tm q94(i:Nat){p p1 p2:Pos}(hN:X.N.Nodup)(hp:PassesOwn (model X.prog X.w) X.A X.env X.xe)(hc:X.calm=true)(hm:X.mg "range"=none)(ha:DA Z X EE [a] dA)(hb:DSs Z X EE body s1)
  (hi:X.N[i]?=some x:=by rfl)(hx:Loc X.env.scope x:=by walk_at "3")(hf:X.fn x=true\/X.env.scope.names.lookup x=some .local:=by walk_at "2")(hg:Gl X "range":=by rfl)(hs1:starEach [a] X.env=[(false,eval a X.env)]:=by rfl)(hs:∀x,foldedSetIterable (.Call (.Name "range" p1) [a] [] p2) X.env x=pure x:=by intro _;rfl):
  DS Z X EE (.For (.Name x p) (.Call (.Name "range" p1) [a] [] p2) body [] pos) (dForR i rng1 dA s1):=by
 rF PS.mono (x1v hp hc (x3p hg hm ha hs1) (q17 i hN hi hx hf) hb hs) ?_;rintro D σ H ⟨G,e,rel,h⟩;rF⟨G,e,rel,(q0w h).imp (λws e1 h G1 vs H1 r1 q1 p1=>?_) λ_ _ h=>h⟩
 unfold rng1 at h;split at h
 ·rename_i hh;split at hh
  ·rename_i j;split at hh
   ·rename_i hj;@hh;~⟨y,r,rfl,e1,e2⟩:=p1;cases(show y=V.int j from e1);cases(show r=[]from e2);rF⟨j,rfl,(q4v hj).1,(q4v hj).2,?_⟩;#z:=x8b (i:=i) (D:=D) r1 (PostS.trans q1 h)
    rwa [Int.sub_zero]at z
   ·@hh
  ·@hh
 ·!h.elim
tm y8g(i:Nat){p p1 p2:Pos}(hN:X.N.Nodup)(hp:PassesOwn (model X.prog X.w) X.A X.env X.xe)(hc:X.calm=true)(hm:X.mg "range"=none)(ha:DA Z X EE [a,c] dA)(hb:DSs Z X EE body s1)
  (hi:X.N[i]?=some x:=by rfl)(hx:Loc X.env.scope x:=by walk_at "3")(hf:X.fn x=true\/X.env.scope.names.lookup x=some .local:=by walk_at "2")(hg:Gl X "range":=by rfl)(hs1:starEach [a,c] X.env=[(false,eval a X.env),(false,eval c X.env)]:=by rfl)(hs2:starEach [c] X.env=[(false,eval c X.env)]:=by rfl)(hs:∀x,foldedSetIterable (.Call (.Name "range" p1) [a,c] [] p2) X.env x=pure x:=by intro _;rfl):
  DS Z X EE (.For (.Name x p) (.Call (.Name "range" p1) [a,c] [] p2) body [] pos) (dForR i rng2 dA s1):=by
 rF PS.mono (x1v hp hc (y0q hg hm ha hs1 hs2) (q17 i hN hi hx hf) hb hs) ?_;rintro D σ H ⟨G,e,rel,h⟩;rF⟨G,e,rel,(q0w h).imp (λws e1 h G1 vs H1 r1 q1 p1=>?_) λ_ _ h=>h⟩
 unfold rng2 at h;split at h
 ·rename_i hh;split at hh
  ·rename_i j k;split at hh
   ·rename_i hj;@hh;~⟨y,r,rfl,e1,y2,r2,rfl,e2,e3⟩:=p1;cases(show y=V.int j from e1);cases(show y2=V.int k from e2);cases(show r2=[]from e3);!⟨j,k,rfl,⟨(q4v hj.1).1,(q4v hj.1).2,(q4v hj.2).1,(q4v hj.2).2⟩,x8b (i:=i) (D:=D) r1 (PostS.trans q1 h)⟩
   ·@hh
  ·@hh
 ·!h.elim
end
open PyProof.Rows (envOfC)
inductive FR where
 |ok (s:S)|ex (c:Value)|no
nD spF(K:PySem.W.Frag)(F:List W->FR):Sp:=λvs H Q E=>∃G ws,Same G H/\Reps K G ws vs/\match F ws with
 |.ok s=>∀G' H' v,Grow G H G' H'->SlotOk K ⟨H,G,[]⟩ G' H' s (some v)->Q v H'
 |.ex c=>∀H',Same H H'->E c none H'
 |.no=>False
nD SR.fn:SR->FR
 |.nx _=>.ok (.fr .non)
 |.rt s _=>.ok s
 |.ex c _=>.ex c
 |_=>.no
nD init(n:Nat)(ws:List W):List S:=ws.map .fr++List.replicate (n-ws.length) .no
tm x5x(s:Same G H)(r:Reps K G ws vs):Rel K ⟨H,G,[]⟩ G (L2.start N vs) H (init N.length ws):=by
 #hl:=r.length
 #hfr:∀(i:Nat)(s:S),(init N.length ws)[i]?=some s->(s=.no)\/∃w,s=.fr w/\ws[i]?=some w:=λi s h=>by
  grind [init]
 rF⟨s,λi t h=>?_,?_,λi j b b' w1 w2 a h1 h2 _ _=>?_,λa o h _=>h,(λa h=>nomatch h),λa _=>rfl⟩
 ·rcases hfr i t h with rfl|⟨w,rfl,h1⟩
  ·trivial
  ·~⟨v,h2,h3⟩:=r.get h1;rF⟨v,?_,h3⟩
   grind [L2.start]
 all_goals grind [init,L2.start]
tm Rel.toGrow(r:Rel K ⟨H,G,[]⟩ G' σ H' e)(s:Same G G'):Grow G H G' H':=
 ⟨λa o h=>r.ent a o h (by simp),s,r.sub,λa h=>r.gen a h⟩
tm x5y(h:spF K F vs H Q E):∃G ws,F ws≠.no/\Reps K G ws vs:=by
 ~⟨G,ws,_,r,h⟩:=h
 grind
tm x8c{F:List W->FR}(he:r.fn=F ws)(h:match F ws with
  |.ok s=>∀G' H' v,Grow G H G' H'->SlotOk K ⟨H,G,[]⟩ G' H' s (some v)->Q v H'
  |.ex c=>∀H',Same H H'->E c none H'
  |.no=>False):PostS K ⟨H,G,[]⟩ (λ_=>E) {nx:=λ_ H'=>Q .non H',rt:=Q} G r:=by
 rw[<- he]at h;cases r with
 |nx e=>!λG' σ' H' r s=>h G' H' .non (r.toGrow s) ⟨.non,rfl,rfl⟩
 |rt s e=>!λG' σ' v H' r q p=>h G' H' v (r.toGrow q) p
 |ex c e=>!λG' σ' H' r s=>h H' (r.toGrow s).hh
 |bk e=>!h.elim
 |ct e=>!h.elim
 |no=>!h.elim
tm con(A:At K mg x st ps)(sc:FnScope N ps (defScope st))(len:∀ws,F ws≠.no->ws.length=ps.length)
  (hb:∀ws,F ws≠.no->∀(f:Addr)(cdv:Value)(A:Around)(outer:List Env)(s:Shared)(H:Hp)(E:XK)(Z:Zt),Room k (A.deeper (envOfC x (defScope st) s.heap.objs.size f cdv)) ->
   ∃d,DSs Z (cxOf (CX1 P w) P w K mg base N x (defScope st) f cdv A outer s H E) (λ_=>E) (defBody st) d/\(d (init N.length ws)).fn=F ws):Cal P w K mg base (k+1) x ps (spF K F):=by
 rF A.cal sc (λvs H Q E h=>?_) (λf cdv A outer s H vs Q E hr h=>?_)
 ·grind [x5y,Reps.length]
 ·#hn0:=h;~⟨G,ws,sg,rp,h⟩:=h;#hn:F ws≠.no:=λz=>by rw[z]at h;!h
  ~⟨d,hd,he⟩:=hb ws hn f cdv A outer s H E ⟨H,G,[]⟩ hr;!⟨_,hd,G,init N.length ws,x5x sg rp,x8c he h⟩
nD dCall(F:List W->FR)(dA:Den (List W)):Den W:=λe=>(dA e).bind λws e1=>match F ws with
 |.ok (.fr w)=>.ok w e1
 |.ok (.own none ws')=>.ok (.lst ws') e1
 |.ok (.dic kvs)=>.ok (.dic kvs) e1
 |.ex c=>.ex c e1
 |_=>.no
section
variable{X:Cx}{e:Expr}{p:Pos}{k:Nat}{ps:List Str}{F:List W->FR}
tm x5z(r1:Rel K Z G1 σ H1 e1)(g:Grow G1 H1 G' H')(q:SlotOk K ⟨H1,G1,[]⟩ G' H' s (some v))(hs:s=.fr w\/∃ws,s=.own none ws/\w=.lst ws):
  ∃G'',Rel K Z G'' σ H' e1/\Same G1 G''/\Rep K G'' w v:=by
 rcases hs with rfl|⟨ws,rfl,rfl⟩
 ·~⟨u,h1,h2⟩:=q;@h1;!⟨G',r1.grow g,g.gg,h2⟩
 ·~⟨a,xs,h1,h2,h3,h4,h5⟩:=q;@h1;#hn:H1 a=none:=h4;~⟨sg,rg⟩:=(r1.grow g).seen h2 h3 (q7v r1 hn) (x1c r1 hn);!⟨_,rg,g.gg.trans sg,⟨a,xs,rfl,SqL.of q0k,Reps.mono sg ws h5⟩⟩
tm y07(r1:Rel K Z G1 σ H1 e1)(g:Grow G1 H1 G' H')(q:SlotOk K ⟨H1,G1,[]⟩ G' H' (.dic kvs) (some v)):
  ∃G'',Rel K Z G'' σ H' e1/\Same G1 G''/\Rep K G'' (.dic kvs) v:=by
 ~⟨a,h1,h2,h3,h4⟩:=q;@h1;#hn:H1 a=none:=h4;#r:=r1.grow g;#sg:Same G' (upd G' a (dO kvs)):=q3a h3 _;rF⟨upd G' a (dO kvs),⟨λc o z=>?_,λj s z=>?_,r.len,r.dis,r.ent,r.ion,λc z=>?_⟩,g.gg.trans sg,⟨a,rfl,q0k⟩⟩
 ·by_cases hc:c=a
  ·grind [q0k]
  ·rw[q0g hc]at z;!r.sub c o z
 ·#y:=r.slot j s z;#y1:=r1.slot j s z;cases s with
  |no=>trivial
  |fr w=>
   ~⟨u,y1,y2⟩:=y;!⟨u,y1,Rep.mono sg w y2⟩
  |own b2 w2=>
   ~⟨c,ys,x1,x2,x3,x4,x5⟩:=y;rF⟨c,ys,x1,x2,?_,x4,Reps.mono sg w2 x5⟩;rw[q0g (q3q x2 h2 (λz=>q79 rfl z.symm))];!x3
  |dic kv=>
   ~⟨c,x1,x2,x3,x4⟩:=y;~⟨c',w1,w2,_⟩:=y1;rw[x1]at w1;@w1;rF⟨c,x1,x2,?_,x4⟩;rw[q0g (q0p w2 hn)];!x3
  |dw sh ks ws=>
   ~⟨c,kv,ka,x1,x2,x3,x4,x5,x6,x7⟩:=y;~⟨c',kv',ka',w1,w2,_⟩:=y1;rw[x1]at w1;@w1;rF⟨c,kv,ka,x1,x2,?_,x4,x5,x6.mono sg,x7.move sg λ_ _ _ z=>z⟩
   rw[q0g (q0p w2 hn)];!x3
 ·by_cases hc:c=a
  ·grind [q7v]
  ·rw[q0g hc];!r.gen c z
tm z7f(r1:Rel K Z G1 σ H1 e1)(s1:Same G G1)(h:XH K Z EE σ G c e1):∀H',Same H1 H'->EE σ c none H':=λH' sh=>
 h G1 H' (r1.grow ⟨sh,.refl _,r1.sub.trans sh,λ_ _=>rfl⟩) s1
tm q0l(C:Cal X.prog X.w X.K X.mg X.base k x ps (spF X.K F))(hr:Room k X.A)(hx:PassX (CX1 X.prog X.w) X EE)(ha:DA Z X EE (e::es) dA)(hg:Gl X x:=by rfl)
  (hdb:(x==("__debug__":Str))=false:=by decide)(he:starEach (e::es) X.env=(false,eval e X.env)::starEach es X.env:=by rfl)(hpl:(backTo pos (starEach es X.env)).any (·.1)=false:=by rfl):
  DE Z X EE (.Call (.Name x p) (e::es) [] pos) (dCall F dA):=by
 rF PE.mono (x5u C hr hx ha hg hdb he hpl) ?_;rintro σ H Q ⟨G,e,rel,h⟩;simp only[dCall,R.holds_bind]at h;rF⟨G,e,rel,h.imp (λws e1 h G1 vs H1 r1 s1 p1=>?_) λ_ _ h=>h⟩
 rF⟨G1,ws,r1.sub,by grind,?_⟩;cases q:F ws with
 |ok s=>
  rw[q]at h;intro G' H' v g sl;cases s with
  |no=>!h.elim
  |fr w=>
   ~⟨G'',r2,s2,p2⟩:=x5z r1 g sl (.inl rfl);!(show ∀G' v H',_->_->Rep X.K G' w v->Q v H' from h) G'' v H' r2 (s1.trans s2) p2
  |own b ws'=>
   cases b with
   |some _=>!h.elim
   |none=>
    ~⟨G'',r2,s2,p2⟩:=x5z r1 g sl (.inr ⟨ws',rfl,rfl⟩);!(show ∀G' v H',_->_->Rep X.K G' (.lst ws') v->Q v H' from h) G'' v H' r2 (s1.trans s2) p2
  |dic kvs=>
   ~⟨G'',r2,s2,p2⟩:=y07 r1 g sl;!(show ∀G' v H',_->_->Rep X.K G' (.dic kvs) v->Q v H' from h) G'' v H' r2 (s1.trans s2) p2
  |dw _ _ _=>!h.elim
 |ex c=>
  rw[q]at h;!z7f r1 s1 h
 |no=>rw[q]at h;!h.elim
nD dRaise(C:Addr)(d:Den (List W)):List S->SR:=λe=>(d e).stm λws e1=>if ws.length<=16777216 then .ex (.ref C) e1 else .no
tm q6w{C Ac:Addr}{np cpos:Pos}(hx:RaisX X EE)(hC:excIn X.K C Ac=true)(hm:X.mg x=some (.ref C))(hc:X.calm=true)(ha:DA Z X EE (e::es) dA)(hg:Gl X x:=by rfl)
  (hdb:(x==("__debug__":Str))=false:=by decide)(he:starEach (e::es) X.env=(false,eval e X.env)::starEach es X.env:=by rfl)(hpl:(backTo cpos (starEach es X.env)).any (·.1)=false:=by rfl):
  DS Z X EE (.Raise (some (.Call (.Name x np) (e::es) [] cpos)) none pos) (dRaise C dA):=by
 rF PS.mono (y4f hx hc hg hm hC ha hdb he hpl) ?_;rintro D σ H ⟨G,e,rel,h⟩;rF⟨G,e,rel,(q0w h).imp (λws e1 h G1 vs H1 r1 s1 p1=>?_) λ_ _ h=>h⟩
 split at h
 ·rename_i hl;!⟨by rw[p1.length,sizeLine_eq];!hl,h G1 σ H1 r1 s1⟩
 ·!h.elim
end
end D
namespace L2
open PySem PySem.Spec PyProof.Rows
section
variable{X:Cx}{elt target iter:Expr}{ifs:List Expr}{scope:Scope}{pos:Pos}{wi:TI}{g:TG}{tc:TT}{te:TE}
tm y4o{Nl Nf:List Str}{js:List Nat}{y:Str}{py spos:Pos}{gy:TG}(hc:X.calm=true)(hi:PI X target iter wi)
  (hk:scope.kind=.function)(hcell:∀y∈scope.names,y.2≠.cell)(hnames:∀x∈scope.names,x.2=.local->scope.names.lookup x.1=some .local)
  (hfree:∀x∈scope.names,x.2=.free->X.env.kindOf x.1=some .cell\/X.env.kindOf x.1=some .free)
  (hj:∀(i j:Nat) y,Nf[i]?=some y->js[i]?=some j->X.N[j]?=some y)(hlen:js.length=Nf.length)
  (hNf:∀y∈Nf,(y,NameKind.free)∈scope.names/\Vis X.env.scope y/\X.env.kindOf y≠some .local)
  (hvis:∀y∈Nf,(relabel scope X.env).names.lookup y=some .cell\/(relabel scope X.env).names.lookup y=some .free)
  (hg:∀cl C s₀ H₀ ex,PG (X.cp (Nl++Nf) scope cl C s₀ H₀ ex) target g)(ht:∀cl C s₀ H₀ ex,PTs (X.cp (Nl++Nf) scope cl C s₀ H₀ ex) ifs tc)(he:∀cl C s₀ H₀ ex,PE (X.cp (Nl++Nf) scope cl C s₀ H₀ ex) elt te)
  (hgy:PG X (.Name y py) gy)(hsw:swapsWith (.ListComp elt [⟨target,iter,ifs,0⟩] scope pos) (some (.Name y py)) spos.line X.env=pure true)
  (hs:∀x,foldedSetIterable iter X.env x=pure x:=by intro _;rfl):
  PS X (.Assign [.Name y py] (.ListComp elt [⟨target,iter,ifs,0⟩] scope pos) spos) (tAsg (tComp wi Nl.length js g tc te) gy):=by
 intro pins s σ H D I h;~⟨cl,hclos,hcl,hcf⟩:=x1z (scope:=scope) (env:=X.env) λx hx hf=>I.ok.has x.1 (hfree x hx hf)
 rw[exec_Assign_Name_used _ _ _ _ hsw];rF wpAny_bind (wpAny_standAt (wpAny_bind ?_));show wpAny _ _ (do let _ <- comprehension _ _ _ _ _ _ _ _) _ _ _;rF wpAny_bind (wpAny_comprehension_free (Q:=λ_ s''=>wpAny (model X.prog X.w) X.A (pure ()) (λ_ s3=>wpAny (model X.prog X.w) X.A (pure Flow.next) (SP X pins D) X.xe s3) X.xe s'') (use:=some (assign (.Name y py) X.env)) rfl hs hclos hk hnames (thn (hi pins s σ H _ I h) λv s1 h1=>thn h1 λitv s2 h2=>?_))
 ~⟨it,fp,tn,J,H2,e,I2,T,st2,f2,rd⟩:=h2;subst e;rF wpAny_newObj_type (wpAny_newFunctionEnv hcell (by intro y hy;simp at hy) (λh₁ hns₁ hsb₁=>?_) hk)
 dsimp only at hns₁ hsb₁ |-
 #szp:(s2.heap.push {cls:=.type "list", dict:=none,data:=.seq ([]:List Value).toArray}).objs.size=s2.heap.objs.size+1:=Heap.size_push ..;rw[szp]at hns₁ hsb₁ |-
 #fD:H2 s2.heap.objs.size=none:=I2.hok.fresh (w0b _);~⟨W,⟨m0,w0⟩,turn⟩:=rd s2.heap.objs.size fD;#obj2:=T.obj 0 s2.heap st2;#IS:=x5s (Nl:=Nl) (Nf:=Nf) (js:=js) (cl:=cl) (tk:=s2.toks+([]:List (Str×Value)).length) I2 f2 obj2 hk hcell hcl hcf hj hlen hNf hvis hns₁ hsb₁
 #upS:∀b u,s2.heap.get? b=some u->h₁.get? b=some u:=λb u q=>by
  #hlt:=Heap.lt_size q;!(hsb₁.2 b (w0w (w1q hlt))).trans (Heap.get?_push_of_some _ (Heap.get?_push_of_some _ q))
 #stS:tn 0 h₁:=T.keep 0 s2.heap h₁ st2 λb hb o q=>upS b o q
 #noD:∀b∈fp,upd H2 s2.heap.objs.size (.lst []) b=none:=λb hb=>by
  ~⟨o,q,_⟩:=obj2 b hb;rw[q0g (w0w (Heap.lt_size q))];!(f2 b hb).1
 #stat:∀{H':Hp},(∀b∈fp,H' b=none)->∀b∈fp,FpOk (X.cp (Nl++Nf) scope cl (s2.heap.objs.size+1) {s2 with heap:=s2.heap.push {cls:=.type "list", dict:=none,data:=.seq ([]:List Value).toArray}} (upd H2 s2.heap.objs.size (.lst [])) fp) [] H' b:=λhn b hb=>by
  rF⟨hn b hb,(IS.ok.exf b hb).1,IS.ok.exfs b hb,.inl hb,(IS.ok.exf b hb).2,λp hp=>(by @hp)⟩
 #loop:∀s4:Shared,s4={s2 with heap:=h₁,toks:=s2.toks+([]:List (Str×Value)).length} ->
   codeAny (model X.prog X.w) X.A (.compLoop (.ListComp elt [⟨target,iter,ifs,0⟩] scope pos) 0 (.ref it) (.ref s2.heap.objs.size) (compEnvC scope cl (s2.heap.objs.size+1) X.env))
    (compPost (model X.prog X.w) X.A X.xe (some (assign (.Name y py) X.env)) (λ_ s''=>wpAny (model X.prog X.w) X.A (pure ()) (λ_ s3=>wpAny (model X.prog X.w) X.A (pure Flow.next) (SP X pins D) X.xe s3) X.xe s'') (.ref s2.heap.objs.size) (s2.heap.objs.size+1)) s4:=by
  rintro s4 rfl;rF x3z (λn s'=>∃i H',Inv (X.cp (Nl++Nf) scope cl (s2.heap.objs.size+1) {s2 with heap:=s2.heap.push {cls:=.type "list", dict:=none,data:=.seq ([]:List Value).toArray}} (upd H2 s2.heap.objs.size (.lst [])) fp) [] (List.replicate Nl.length none++pj js σ) H' s'/\tn i s'.heap/\(∀b∈fp,H' b=none)/\W i n H') ?_ m0 ⟨0,_,IS,stS,noD,w0⟩
  rintro n s3 ⟨i,H3,I3,st3,fr3,w3⟩;rcases turn i n H3 w3 with⟨stop,qn⟩|⟨go,step⟩
  ·rF thn (T.done (X.cp (Nl++Nf) scope cl (s2.heap.objs.size+1) {s2 with heap:=s2.heap.push {cls:=.type "list", dict:=none,data:=.seq ([]:List Value).toArray}} (upd H2 s2.heap.objs.size (.lst [])) fp) rfl rfl rfl hc i [] s3 _ H3 _ I3 (stat fr3) st3 stop) λr s5 ⟨hr,I5⟩=>?_
   subst hr;~⟨m5,hn5,_⟩:=I5.loc;~⟨o5,es5,ep5,ho5,hd5,hk5,hf5⟩:=id hn5;#J5:Inv X pins σ H3 s5:=y02 I2 f2 I5 (h':=s5.heap) ⟨rfl,λ_ _=>rfl⟩
   #fC:FpOk X pins H3 (s2.heap.objs.size+1):=I2.fpOk (w5q _) I5.free;#f1:∀b∈[s2.heap.objs.size+1],FpOk X pins H3 b:=λb hb=>by grind
   #J6:=J5.pinned f1 (λb hb=>by rw[w1k.mp hb];!⟨o5,ho5,λv z=>by rw[hd5]at z;@z⟩)
   rF thn (hgy _ s5 σ H3 (.ref s2.heap.objs.size) _ _ J6 rfl qn) λ_ s6 ⟨σ6,H6,I6,q6⟩=>?_
   #pC:=I6.pin (s2.heap.objs.size+1,o5) (w0c _ (w0c _ (q2p (w1k.mpr rfl) ho5)));rF⟨m5,⟨o5,es5,ep5,pC.1,hd5,hk5,hf5⟩,λh' hs'=>wpAny_pure (wpAny_pure ⟨σ6,H6,?_,q6⟩)⟩
   ~⟨g0,g1,g2,g3,g4,g5⟩:=fC;!I6.unpinned.turned (t':=s6.toks) (λb o hb e=>(hs'.2 b hb).trans e) pC.2.1 g1 g3 g4 g5
  ·rF thn (T.item (X.cp (Nl++Nf) scope cl (s2.heap.objs.size+1) {s2 with heap:=s2.heap.push {cls:=.type "list", dict:=none,data:=.seq ([]:List Value).toArray}} (upd H2 s2.heap.objs.size (.lst [])) fp) rfl rfl rfl hc i [] s3 _ H3 _ I3 (stat fr3) st3 go) λr s5 ⟨u,hr,h5⟩=>?_
   subst hr;rF thn h5 λ_ s6 ⟨x,H6,I6,r6,y6,st6,fr6⟩=>?_
   #I6':=I6.pinned (stat fr6) (T.obj _ _ st6);rF thn (hg _ _ _ _ _ _ s6 _ H6 x u _ I6' r6 (step x H6 y6)) λ_ s7 ⟨σ7,H7,I7,kp,q7⟩=>?_
   rF thn (ht _ _ _ _ _ _ s7 σ7 H7 _ I7 q7) λok s8 ⟨H8,I8,q8⟩=>?_
   #again:∀{σ9:St}{H9:Hp}{s9:Shared},Inv (X.cp (Nl++Nf) scope cl (s2.heap.objs.size+1) {s2 with heap:=s2.heap.push {cls:=.type "list", dict:=none,data:=.seq ([]:List Value).toArray}} (upd H2 s2.heap.objs.size (.lst [])) fp) ([]++pinsAt fp s6.heap) σ9 H9 s9 ->
     Kp (List.replicate Nl.length none++pj js σ) σ9->(∃m',m'<n/\W (i+1) m' H9)->∃m,m<n/\∃i H',Inv (X.cp (Nl++Nf) scope cl (s2.heap.objs.size+1) {s2 with heap:=s2.heap.push {cls:=.type "list", dict:=none,data:=.seq ([]:List Value).toArray}} (upd H2 s2.heap.objs.size (.lst [])) fp) [] (List.replicate Nl.length none++pj js σ) H' s9/\tn i s9.heap/\(∀b∈fp,H' b=none)/\W i m H':=λ{σ9 H9 s9} I9 hw ⟨m',hm,w9⟩=>by
    rF⟨m',hm,i+1,H9,I9.unpinned.weak (by rw[I9.len,<- IS.len]) hw,T.keep _ _ _ st6 λb hb o q=>(I9.pin (b,o) (w0c _ (w0c _ (q2p hb q)))).1,λb hb=>?_,w9⟩
    ~⟨o,q,d⟩:=T.obj _ _ st6 b hb;!(I9.pin (b,o) (w0c _ (w0c _ (q2p hb q)))).2.1
   cases ok with
   |false=>!again I8 kp (by simpa using q8)
   |true=>
    #q8':=by simpa only[if_true]using q8
    rF thn (he _ _ _ _ _ _ s8 σ7 H8 _ I8 q8') λy s9 ⟨yv,H9,I9,r9,ys,hD,hz,q9⟩=>?_
    rF thn (q8z _ s9 σ7 H9 (.ref s2.heap.objs.size) [yv] (.ref s2.heap.objs.size) [y] (λv H'=>v=.non/\H'=upd H9 s2.heap.objs.size (.lst (ys++[yv]))) I9 rfl (.cons r9 .nil) ⟨_,ys,yv,rfl,rfl,hD,hz,rfl,rfl⟩) λ_ s10 ⟨_,H10,I10,_,_,e10⟩=>?_
    subst e10;!again I10 kp q9
 !codeAny_compStart_list (loop _ rfl) (T.self X.A 0 _ _ _ stS (loop _ rfl))
end
tm x32{X:Cx}{y:Str}{py spos:Pos}{gy:TG}{elt target iter:Expr}{ifs:List Expr}{scope sc:Scope}{pos:Pos}{wi:TI}{g:TG}{tc:TT}{te:TE}{Nl Nf N:List Str}{js:List Nat}(hc:X.calm=true)(hi:PI X target iter wi)
  (ok:compOk sc scope N Nf js=true)
  (hg:∀cl C s₀ H₀ ex,PG (X.cp (Nl++Nf) scope cl C s₀ H₀ ex) target g)(ht:∀cl C s₀ H₀ ex,PTs (X.cp (Nl++Nf) scope cl C s₀ H₀ ex) ifs tc)(he:∀cl C s₀ H₀ ex,PE (X.cp (Nl++Nf) scope cl C s₀ H₀ ex) elt te)
  (hgy:PG X (.Name y py) gy)(hsw:swapsWith (.ListComp elt [⟨target,iter,ifs,0⟩] scope pos) (some (.Name y py)) spos.line X.env=pure true)
  (hsc:X.env.scope=sc:=by rfl)(hN:X.N=N:=by rfl)(hs:∀x,foldedSetIterable iter X.env x=pure x:=by intro _;rfl):
  PS X (.Assign [.Name y py] (.ListComp elt [⟨target,iter,ifs,0⟩] scope pos) spos) (tAsg (tComp wi Nl.length js g tc te) gy):=by
 unfold compOk at ok;simp only[w0l,w0z,beq_iff_eq,bne_iff_ne,w4r,w1i]at ok;~⟨⟨⟨⟨⟨⟨k1,k2⟩,k3⟩,k4⟩,k5⟩,k6⟩,k7⟩:=ok;#kind:∀x,X.env.kindOf x=sc.names.lookup x:=λx=>by rw[<- hsc];rfl
 rF y4o hc hi k1 k2 (λx hx hl=>(k3 x hx).resolve_left λz=>z hl) (λx hx hf=>?_) (λi j y e1 e2=>?_) k5 (λy hy=>?_) (λy hy=>?_) hg ht he hgy hsw hs
 ·grind
 ·grind
 ·~⟨z1,z2⟩:=k7 y hy;rF⟨PySem.mem_of_lookup z1,?_,?_⟩
  ·rw[hsc];rcases z2 with z|z
   ·!.inr (.inl z)
   ·!.inr (.inr z)
  grind
 ·!q6u (k7 y hy).1
nD rCatS(K:PySem.W.Frag):R2:=λx y H Q=>∃l b xs zs,x=.ref l/\y=.ref b/\SqL K H l xs/\SqL K H b zs/\xs.length+zs.length<=sizeLine/\∀p,H p=none->Q (.ref p) (upd H p (.lst (xs++zs)))
tm y8h:OpR X (binaryOp .Add) (rCatS X.K):=by
 intro pins s σ H x y v u Q I rx ry h;~⟨l,b,xs,zs,rfl,rfl,h1,h2,hz,q⟩:=h;@rx;@ry;~⟨its,r1,p1,_⟩:=I.list h1;~⟨its2,r2,p2,_⟩:=I.list h2;~⟨⟨cls,dd,data,sl⟩,ho,hc,n,hd⟩:=id p1.isList;~⟨⟨cls2,dd2,data2,sl2⟩,ho2,hc2,n2,hd2⟩:=id p2.isList;simp only at hc hd hc2 hd2;subst hc hd hc2 hd2;#l1:=r1.length;#l2:=r2.length;rF concat_meets ⟨_,ho,rfl⟩ ⟨_,ho2,rfl⟩ noFill_list_add seq_list_add PySem.F.slot_list_add PySem.F.entry_list_add (PySem.F.args_list_add_2 _ _) (list_addW l b its.toArray its2.toArray n n2 dd dd2 sl sl2 (by grind)) ⟨ho,ho2,?_⟩;#ea:its.toArray++its2.toArray=(its++its2).toArray:=by simp
 rw[ea];!⟨.ref _,_,I.lnew (t':=s.toks) (r1.append r2) (by grind),rfl,q _ I.fresh⟩
end L2
namespace D
open PySem L2
variable{A:Around}{X:Cx}{dA:Den (List W)}{cc:Den Bool}{da db:Den W}{G H:Hp}{EE:L2.St->XK}{elts es:List Expr}{js:List Nat}{e:List S}{q:List S->SR}{ws:List W}{i kt:Nat}{apos cpos p1 p2 pn pos:Pos}{K:PySem.W.Frag}{s:Shared}{σ:St}{T:String}{α:Type}{cv:Value}{Z:Zt}
nD addW:W->W->Option W
 |.int i,.int j=>some (.int (i+j))
 |.str x,.str y=>if x.length+y.length<=16777216 then some (.str (x++y))else none
 |.tup xs,.tup ys=>if xs≠[]/\xs.length+ys.length<=16777216 then some (.tup (xs++ys))else none
 |.lst xs,.lst ys=>if xs.length+ys.length<=16777216 then some (.lst (xs++ys))else none
 |_,_=>none
nD subW:W->W->Option W
 |.int i,.int j=>some (.int (i-j))
 |_,_=>none
nD mulW:W->W->Option W
 |.int i,.int j=>if(-(2^64)<i/\i<2^64)\/(-(2^64)<j/\j<2^64)then some (.int (i*j))else none
 |_,_=>none
nD fdivW:W->W->Option W
 |.int i,.int j=>if 0<j/\j<1073741824 then some (.int (i / j))else none
 |_,_=>none
nD modW:W->W->Option W
 |.int i,.int j=>if 0<j then some (.int (i%j))else none
 |_,_=>none
nD powW:W->W->Option W
 |.int i,.int j=>if 0<=j/\j<=1000000/\i.natAbs<2^64 then some (.int (i^j.toNat))else none
 |_,_=>none
nD ltW:W->W->Option W
 |.int i,.int j=>some (.bl (decide (i<j)))
 |_,_=>none
nD gtW:W->W->Option W
 |.int i,.int j=>some (.bl (decide (j<i)))
 |_,_=>none
nD geW:W->W->Option W
 |.int i,.int j=>some (.bl (decide (j<=i)))
 |_,_=>none
nD negW:W->Option W
 |.int i=>some (.int (-i))
 |_=>none
tm y08:Op2 K (λx y H Q=>rI0 (λi j=>.int (i+j)) x y H Q\/((∃i j,x=.str i/\y=.str j/\i.length+j.length<=sizeLine/\Q (.str (i++j)) H)\/(rCatT K x y H Q\/rCatS K x y H Q))) addW:=by
 intro G H x y wx wy w Q s px py hf h;unfold addW at hf;split at hf
 ·@hf;@px;@py;!.inl ⟨_,_,rfl,rfl,h G _ H (.refl s) rfl⟩
 ·split at hf
  ·rename_i hl;@hf;@px;@py;!.inr (.inl ⟨_,_,rfl,rfl,by grind [sizeLine_eq],h G _ H (.refl s) rfl⟩)
  ·@hf
 ·rename_i us ws;split at hf
  ·rename_i hl;@hf;~⟨a,xs,rfl,ha,ra⟩:=px;~⟨b,ys,rfl,hb,rb⟩:=py;#l1:=ra.length;#l2:=rb.length;rF .inr (.inr (.inl ⟨a,b,xs,ys,rfl,rfl,s.tup ha,s.tup hb,λz=>hl.1 ?_,by rw[l1,l2,sizeLine_eq];!hl.2,λz=>?_,λz p hp=>?_⟩))
   ·grind
   ·subst z;#:ws=[]:=by grind
    subst this;!h G _ H (.refl s) ⟨a,xs,rfl,ha,by simpa using ra⟩
   ·#g:=Grow.laid s hp (.tup (xs++ys));!h _ _ _ g ⟨p,_,rfl,SqT.of q0k,Reps.append (Reps.mono g.gg _ ra) (Reps.mono g.gg _ rb)⟩
  ·@hf
 ·split at hf
  ·rename_i hl;@hf;~⟨a,xs,rfl,ha,ra⟩:=px;~⟨b,ys,rfl,hb,rb⟩:=py;#l1:=ra.length;#l2:=rb.length;rF .inr (.inr (.inr ⟨a,b,xs,ys,rfl,rfl,s.seq ha,s.seq hb,by grind [sizeLine_eq],λp hp=>?_⟩))
   #g:=Grow.laid s hp (.lst (xs++ys));!h _ _ _ g ⟨p,_,rfl,SqL.of q0k,Reps.append (Reps.mono g.gg _ ra) (Reps.mono g.gg _ rb)⟩
  ·@hf
 ·@hf
tm z3l:Op2 K (rI0 λi j=>.int (i-j)) subW:=by
 intro G H x y wx wy w Q s px py hf h;unfold subW at hf;split at hf
 ·@hf;@px;@py;!⟨_,_,rfl,rfl,h G _ H (.refl s) rfl⟩
 ·@hf
tm z3m:Op2 K (rI CMul λi j=>.int (i*j)) mulW:=by
 intro G H x y wx wy w Q s px py hf h;unfold mulW at hf;split at hf
 ·split at hf
  ·rename_i hc;@hf;@px;@py;!⟨_,_,rfl,rfl,hc,h G _ H (.refl s) rfl⟩
  ·@hf
 ·@hf
tm y8i:Op2 K (rI CDiv λi j=>.int (i / j)) fdivW:=by
 intro G H x y wx wy w Q s px py hf h;unfold fdivW at hf;split at hf
 ·split at hf
  ·rename_i hc;@hf;@px;@py;!⟨_,_,rfl,rfl,hc,h G _ H (.refl s) rfl⟩
  ·@hf
 ·@hf
tm z3n:Op2 K (rI (λ_ j=>0<j) λi j=>.int (i%j)) modW:=by
 intro G H x y wx wy w Q s px py hf h;unfold modW at hf;split at hf
 ·split at hf
  ·rename_i hc;@hf;@px;@py;!⟨_,_,rfl,rfl,hc,h G _ H (.refl s) rfl⟩
  ·@hf
 ·@hf
tm z3o:Op2 K (rI CPow λi j=>.int (i^j.toNat)) powW:=by
 intro G H x y wx wy w Q s px py hf h;unfold powW at hf;split at hf
 ·split at hf
  ·rename_i hc;@hf;@px;@py;!⟨_,_,rfl,rfl,hc,h G _ H (.refl s) rfl⟩
  ·@hf
 ·@hf
tm y7c:Op2 K (rI0 λi j=>.bl (decide (i<j))) ltW:=by
 intro G H x y wx wy w Q s px py hf h;unfold ltW at hf;split at hf
 ·@hf;@px;@py;!⟨_,_,rfl,rfl,h G _ H (.refl s) rfl⟩
 ·@hf
tm y7d:Op2 K (rI0 λi j=>.bl (decide (j<i))) gtW:=by
 intro G H x y wx wy w Q s px py hf h;unfold gtW at hf;split at hf
 ·@hf;@px;@py;!⟨_,_,rfl,rfl,h G _ H (.refl s) rfl⟩
 ·@hf
tm z7g:Op2 K (rI0 λi j=>.bl (decide (j<=i))) geW:=by
 intro G H x y wx wy w Q s px py hf h;unfold geW at hf;split at hf
 ·@hf;@px;@py;!⟨_,_,rfl,rfl,h G _ H (.refl s) rfl⟩
 ·@hf
tm z3p:Op1 K (rU λi=>.int (-i)) negW:=by
 intro G H x wx w Q s px hf h;unfold negW at hf;split at hf
 ·@hf;@px;!⟨_,rfl,h G _ H (.refl s) rfl⟩
 ·@hf
mutual
noncomputable def eqW:W->W->Option Bool
 |.non,.non=>some true
 |.non,.bl _=>some false|.non,.int _=>some false|.non,.str _=>some false|.non,.tup _=>some false|.non,.lst _=>some false
 |.bl a,.bl b=>some (a==b)
 |.bl a,.int b=>some ((if a then 1 else 0)==b)
 |.bl _,.non=>some false|.bl _,.str _=>some false|.bl _,.tup _=>some false|.bl _,.lst _=>some false
 |.int a,.int b=>some (a==b)
 |.int a,.bl b=>some (a==(if b then 1 else 0))
 |.int _,.non=>some false|.int _,.str _=>some false|.int _,.tup _=>some false|.int _,.lst _=>some false
 |.str a,.str b=>some (a==b)
 |.str _,.non=>some false|.str _,.bl _=>some false|.str _,.int _=>some false|.str _,.tup _=>some false|.str _,.lst _=>some false
 |.tup _,.non=>some false|.tup _,.bl _=>some false|.tup _,.int _=>some false|.tup _,.str _=>some false|.tup _,.lst _=>some false
 |.lst _,.non=>some false|.lst _,.bl _=>some false|.lst _,.int _=>some false|.lst _,.str _=>some false|.lst _,.tup _=>some false
 |.tup xs,.tup ys=>eqWs xs ys
 |.lst xs,.lst ys=>eqWs xs ys
 |.exc _,_=>none
 |_,.exc _=>none
 |.dic _,_=>none
 |_,.dic _=>none
 |.dw _ _ _ _,_=>none
 |_,.dw _ _ _ _=>none
noncomputable def eqWs:List W->List W->Option Bool
 |[],[]=>some true
 |[],_::_=>some false
 |_::_,[]=>some false
 |x::xs,y::ys=>match eqW x y,eqWs xs ys with
  |some a,some b=>some (a&&b)
  |_,_=>none
end
nD ixW:W->W->Option W
 |.tup ws,.int i=>atI ws i
 |.lst ws,.int i=>atI ws i
 |.str z,.int i=>if z.length<=16777216 then(atI z.cps.toList i).map λc=>.str ⟨#[c]⟩else none
 |_,_=>none
tm Reps.atI{i:Int}(r:Reps K G ws xs)(h:L2.atI ws i=some w):∃x,L2.atI xs i=some x/\Rep K G w x:=by
 unfold L2.atI at h |-
 rw[r.length];cases q:ixN ws.length i with
 |none=>rw[q]at h;@h
 |some j=>
  rw[q]at h;!r.get h
tm y7e:Op2 K (rIx K) ixW:=by
 intro G H x y wx wy w Q s px py hf h;unfold ixW at hf;split at hf
 ·~⟨a,xs,rfl,ha,ra⟩:=px;@py;~⟨v,hv,rv⟩:=ra.atI hf;!.inr (.inl ⟨a,xs,_,v,rfl,rfl,s.tup ha,hv,h G v H (.refl s) rv⟩)
 ·~⟨a,xs,rfl,ha,ra⟩:=px;@py;~⟨v,hv,rv⟩:=ra.atI hf;!.inl ⟨a,xs,_,v,rfl,rfl,s.seq ha,hv,h G v H (.refl s) rv⟩
 ·@px;@py;split at hf
  ·rename_i hl;~⟨c,hc,rfl⟩:=w0x.mp hf;!.inr (.inr ⟨_,_,c,rfl,rfl,by grind [sizeLine_eq],hc,h G _ H (.refl s) rfl⟩)
  ·@hf
 ·@hf
nD S.look:S->Option W
 |.fr w=>some w
 |.own _ ws=>some (.lst ws)
 |.no=>none
 |.dic _=>none
 |.dw _ _ _=>none
nD dIxV(i:Nat)(d:Den W):Den W:=λe=>match e[i]?.bind S.look with
 |none=>.no
 |some _=>(d e).bind λk e1=>match e1[i]?.bind S.look with
  |none=>.no
  |some w=>ofOpt (ixW w k) e1
nD lenW:W->Option W
 |.str z=>if z.length<=16777216 then some (.int z.length)else none
 |.tup ws=>some (.int ws.length)
 |.lst ws=>some (.int ws.length)
 |_=>none
nD len1:List W->Option W
 |[w]=>lenW w
 |_=>none
tm y09:OpN K (λxs H Q=>∃x n,xs=[x]/\LenV K x H n/\Q (.int n) H) len1:=by
 intro G H xs ws w Q s pr hf h;unfold len1 at hf;split at hf
 ·~⟨x,r,rfl,px,pr⟩:=pr;cases(show r=[]from pr);unfold lenW at hf;split at hf
  ·split at hf
   ·rename_i hl;@hf;@px;!⟨_,_,rfl,⟨by grind [sizeLine_eq],rfl⟩,h G _ H (.refl s) rfl⟩
   ·@hf
  ·@hf;~⟨a,xs,rfl,ha,ra⟩:=px;!⟨_,_,rfl,.inr ⟨xs,s.tup ha,rfl⟩,h G _ H (.refl s) (by rw[ra.length];rfl)⟩
  ·@hf;~⟨a,xs,rfl,ha,ra⟩:=px;!⟨_,_,rfl,.inl ⟨xs,s.seq ha,rfl⟩,h G _ H (.refl s) (by rw[ra.length];rfl)⟩
  ·@hf
 ·@hf
nD scalW:W->Bool
 |.non=>true|.bl _=>true|.int _=>true|.str _=>true|_=>false
tm y4p(h:scalW w=true)(p:Rep K G w v):Rep K G' w v:=by
 cases w with
 |non=>!p
 |bl b=>!p
 |int i=>!p
 |str x=>!p
 |_=>@h
nD dFnV(i:Nat)(f:List W->Option W):Den W:=λe=>match e[i]?.bind S.look with
 |none=>.no
 |some w=>match f [w]with
  |none=>.no
  |some v=>match e[i]? with
   |some (.fr _)=>.ok v e
   |_=>if scalW v=true then .ok v e else .no
section
variable{a b e:Expr}{d:Den W}{p:Pos}{x:Str}
tm q0j(ha:DE Z X EE a d)(hb:DE Z X EE b db)(hs:PlainIx b:=by intro _ _;rfl):DE Z X EE (.Subscript a b pos) (dOp ixW d db):=PE.mono (x46 y0w ha hb hs) (q4k y7e)
tm Rel.look{e:List S}(r:Rel K Z G σ H e){w:W}(h:e[i]?.bind S.look=some w):∃v,σ[i]?=some (some v) /\
  (Rep K G w v\/∃ws a xs u,(∀z,e[i]?≠some (.fr z))/\w=.lst ws/\v=.ref a/\H a=some u/\(u=.lst xs\/∃o,u=.frz o (.lst xs))/\G a=none/\Reps K G ws xs):=by
 ~⟨s,h1,h2⟩:=w2q.mp h;cases s with
 |no=>@h2
 |dic _=>@h2
 |dw _ _ _=>@h2
 |fr w'=>
  @h2;~⟨v,h3,h4⟩:=r.fr h1;!⟨v,h3,.inl h4⟩
 |own b ws=>
  @h2;~⟨a,xs,h3,h4,h5,h6,h7⟩:=r.own h1;!⟨.ref a,h3,.inr ⟨ws,a,xs,_,(λz y=>by rw[h1]at y;@y),rfl,rfl,h4,.inl rfl,h5,h7⟩⟩
tm y1a{K:PySem.W.Frag}{a:Addr}{u:HO}(s:Same G H)(h:H a=some u)(hg:G a=none):Same G (upd G a u)/\Same (upd G a u) H:=
 ⟨q3a hg _,λc o z=>by
  by_cases hc:c=a
  ·subst hc;rw[q0k]at z;@z;!h
  ·rw[q0g hc]at z;!s c o z⟩
tm q7w(i:Nat)(hb:DE Z X EE b d)(hN:X.N[i]?=some x:=by rfl)(hv:Vis X.env.scope x:=by walk_at "1")(hd:(x==("__debug__":Str))=false:=by decide)
  (hcd:(x==("__classdict__":Str))=false:=by decide)(hs:PlainIx b:=by intro _ _;rfl):DE Z X EE (.Subscript (.Name x p) b pos) (dIxV i d):=by
 rF PE.mono (x46 y0w (pv i hN hv hd hcd) hb hs) ?_;rintro σ H Q ⟨G,e,rel,h⟩;unfold dIxV at h;split at h
 ·!h.elim
 ·rename_i w0 hw0;~⟨v,hv,_⟩:=rel.look hw0;rF⟨v,hv,G,e,rel,(R.holds_bind.mp h).imp (λk e1 h G1 u H1 r1 s1 p1=>?_) λ_ _ h=>h⟩
  split at h
  ·!h.elim
  ·rename_i w hw;~⟨w',hf,h2⟩:=ofOpt_holds.mp h;~⟨v',hv',q⟩:=r1.look hw;rw[hv]at hv';@hv';rcases q with q|⟨ws,a,xs,u,he,rfl,rfl,q1,qu,q2,q3⟩
   ·!y7e G1 H1 v u w k w' Q r1.sub q p1 hf λG' v H' g p=>h2 G' v H' (r1.grow g) (s1.trans g.gg) p
   ·-- an item of one's own list
    unfold ixW at hf;split at hf
    ·rename_i heq;@heq
    ·rename_i heq;@heq;@p1;~⟨y,hy,ry⟩:=q3.atI hf;rF .inl ⟨a,xs,_,y,rfl,rfl,?_,hy,h2 G1 y H1 r1 s1 ry⟩;rcases qu with rfl|⟨o,rfl⟩
     ·!SqL.of q1
     ·!.inl (.inr ⟨o,q1⟩)
    all_goals grind
tm z3q{r:List V->Hp->VK->Prop}{f:List W->Option W}(i:Nat){id:String}{fn:Str}(hc:CallR X (.builtin id) r)(hf:OpN X.K r f)(hv:bootBuiltins fn=some (.builtin id))(hm:X.mg fn=none)
  (hN:X.N[i]?=some x:=by rfl)(hvis:Vis X.env.scope x:=by walk_at "1")(hd:(x==("__debug__":Str))=false:=by decide)(hcd:(x==("__classdict__":Str))=false:=by decide)
  (hg:Gl X fn:=by rfl)(hn:fn≠"__name__":=by decide)(hdb:(fn==("__debug__":Str))=false:=by decide)(hs:starEach [.Name x p] X.env=(false,eval (.Name x p) X.env)::starEach [] X.env:=by rfl)(hpl:(backTo pos (starEach [] X.env)).any (·.1)=false:=by rfl):
  DE Z X EE (.Call (.Name fn pn) [.Name x p] [] pos) (dFnV i f):=by
 rF PE.mono (x1b hc hg hm hv (q5c (pv i hN hvis hd hcd) x1x hs) hn hdb hs hpl) ?_;rintro σ H Q ⟨G,e,rel,h⟩;unfold dFnV at h;split at h
 ·!h.elim
 ·rename_i w hw;split at h
  ·!h.elim
  ·rename_i y hy;~⟨v,hv,q⟩:=rel.look hw;rF⟨v,hv,?_⟩;rcases q with q|⟨ws,a,xs,u,he,rfl,rfl,q1,qu,q2,q3⟩
   ·rF hf G H [v] [w] y Q rel.sub (.one q) hy λG' v H' g p=>?_
    split at h
    ·!h G' v H' (rel.grow g) g.gg p
    ·split at h
     ·!h G' v H' (rel.grow g) g.gg p
     ·!h.elim
   ·split at h
    ·grind
    split at h
    ·rename_i hsc;~⟨s1,s2⟩:=y1a (K:=X.K) rel.sub q1 q2
     #hsq:SqL X.K (upd G a u) a xs:=by
      rcases qu with rfl|⟨o,rfl⟩
      ·!SqL.of q0k
      ·!.inl (.inr ⟨o,q0k⟩)
     rF hf (upd G a u) H [.ref a] [.lst ws] y Q s2 (.one ⟨a,xs,rfl,hsq,Reps.mono s1 ws q3⟩) hy λG' v H' g p=>?_
     #g':Grow G H G H':=⟨g.hh,.refl _,rel.sub.trans g.hh,λ_ _=>rfl⟩
     !(show ∀G' v H',_->_->Rep X.K G' y v->Q v H' from h) G v H' (rel.grow g') (.refl _) (y4p hsc p)
    ·!h.elim
nD dApp(i:Nat)(d:Den (List W)):List S->SR:=λe=>match e[i]? with
 |some (.own _ _)=>(d e).stm λws e1=>match ws,e1[i]? with
  |[w],some (.own b xs)=>if xs.length<16777216 then .nx (e1.set i (.own b (xs++[w])))else .no
  |_,_=>.no
 |_=>.no
tm q1s(i:Nat)(ha:DA Z X EE (e::es) dA)(hN:X.N[i]?=some x:=by rfl)(hv:Vis X.env.scope x:=by walk_at "1")(hd:(x==("__debug__":Str))=false:=by decide)(hcd:(x==("__classdict__":Str))=false:=by decide)
  (hbase:attributeBase (.Name x p) "append" X.env (eval (.Name x p) X.env)=eval (.Name x p) X.env:=by rfl)
  (hfew:((backTo cpos (starEach (e::es) X.env)).all (λx=>!x.1)&&(backToKw cpos (keywordEach [] X.env)).all (λx=>x.1.isSome)&&decide ((e::es).length+([]:List Keyword).length+(if([]:List Keyword).isEmpty then 0 else 1)<30))=true:=by rfl)
  (hline:(apos.endLine==cpos.line)=true:=by rfl)(hs:starEach (e::es) X.env=(false,eval e X.env)::starEach es X.env:=by rfl)(hplain:(backTo cpos (starEach es X.env)).any (·.1)=false:=by rfl)
  (hsw:swapsWith (.Call (.Attribute (.Name x p) "append" apos) (e::es) [] cpos) none pos.line X.env=pure false:=by rfl):
  DS Z X EE (.Expr (.Call (.Attribute (.Name x p) "append" apos) (e::es) [] cpos) pos) (dApp i dA):=by
 rF PS.mono (q7t (z3j (pv i hN hv hd hcd) ha hbase hfew hline hs hplain) hsw) ?_;rintro D σ H ⟨G,e,rel,h⟩;unfold dApp at h;split at h
 ·rename_i b0 ws0 he0;~⟨a,xs,h1,h2,h3,h4,h5⟩:=rel.own he0;rF⟨.ref a,h1,.inl ⟨rfl,xs,SqL.of h2⟩,G,e,rel,(q0w h).imp (λws e1 h G1 vs H1 r1 s1 p1=>?_) λ_ _ h=>h⟩
  split at h
  ·rename_i w b ys he1;~⟨a',zs,g1,g2,g3,g4,g5⟩:=r1.own he1;rw[h1]at g1;@g1;~⟨y,r,rfl,py,pr⟩:=p1;cases(show r=[]from pr);split at h
   ·rename_i hl;rF⟨a,zs,y,rfl,rfl,g2,by rw[g5.length,sizeLine_eq];!hl,?_⟩;!h G1 σ _ (r1.mut he1 h1 (g5.append (.one py))) s1
   ·!h.elim
  ·!h.elim
 ·!h.elim
nD dPop(i:Nat):Den W:=λe=>match e[i]? with
 |some (.own b ws)=>match ws[ws.length-1]? with
  |some w=>.ok w (e.set i (.own b ws.dropLast))
  |none=>.no
 |_=>.no
tm q6x(i:Nat)(hN:X.N[i]?=some x:=by rfl)(hv:Vis X.env.scope x:=by walk_at "1")(hd:(x==("__debug__":Str))=false:=by decide)(hcd:(x==("__classdict__":Str))=false:=by decide)
  (hbase:attributeBase (.Name x p) "pop" X.env (eval (.Name x p) X.env)=eval (.Name x p) X.env:=by rfl)(hline:(apos.endLine==cpos.line)=true:=by rfl):DE Z X EE (.Call (.Attribute (.Name x p) "pop" apos) [] [] cpos) (dPop i):=by
 rF PE.mono (z3d PySem.F.plainAttrs_list PySem.F.slot_list_pop PySem.F.type_list_pop z3e (pv i hN hv hd hcd) hbase hline) ?_;rintro σ H Q ⟨G,e,rel,h⟩;unfold dPop at h;split at h
 ·rename_i b ws he;~⟨a,xs,h1,h2,h3,h4,h5⟩:=rel.own he;split at h
  ·rename_i w hw;~⟨y,hy,ry⟩:=h5.get hw;rF⟨.ref a,h1,.inl ⟨rfl,xs,SqL.of h2⟩,a,xs,y,rfl,rfl,h2,by rw[h5.length];!hy,?_⟩;!h G y _ (rel.mut he h1 h5.dropLast) (.refl _) ry
  ·!h.elim
 ·!h.elim
end
nD compD(c:Den Bool)(d:Den W)(pe:List S):List W->Option (List W)
 |[]=>some []
 |w::ws=>match c (.fr w::pe)with
  |.ok true e1=>match d e1 with
   |.ok y _=>(compD c d pe ws).map (y::·)
   |_=>none
  |.ok false _=>compD c d pe ws
  |_=>none
nD frz1(e:List S)(j:Nat):List S:=match e[j]? with
 |some (.own none ws)=>e.set j (.fr (.lst ws))
 |_=>e
nD frzs(js:List Nat)(e:List S):List S:=js.foldl frz1 e
nD pj1(e:List S)(j:Nat):S:=match e[j]? with
 |some (.fr w)=>.fr w
 |_=>.no
nD pjS(js:List Nat)(e:List S):List S:=js.map (pj1 e)
nD compK(js:List Nat)(c:Den Bool)(d:Den W)(ws:List W)(e1:List S):R (List W):=
 if ws.length<=16777216 then(match compD c d (pjS js (frzs js e1)) ws with
  |some out=>.ok out (frzs js e1)
  |none=>.no)else .no
nD dComp(js:List Nat)(di:Den W)(c:Den Bool)(d:Den W):Den (List W):=λe=>(di e).bind λw e1=>match seqW w with
 |some ws=>compK js c d ws e1
 |none=>.no
nD dCompR(g:List W->Option (List W))(js:List Nat)(di:Den (List W))(c:Den Bool)(d:Den W):Den (List W):=λe=>(di e).bind λw e1=>match g w with
 |some ws=>compK js c d ws e1
 |none=>.no
nD dYes:Den Bool:=λe=>.ok true e
tm Rel.frzs(r:Rel K Z G σ H e):∀(js:List Nat),∃G',Same G G'/\Rel K Z G' σ H (frzs js e):=by
 intro js
 induction js generalizing G e with
 |nil=>!⟨G,.refl _,r⟩
 |cons j js ih=>
  #one:∃G',Same G G'/\Rel K Z G' σ H (frz1 e j):=by
   unfold frz1;split
   ·rename_i ws hw;~⟨v,G',_,s,_,r'⟩:=r.freeze hw;!⟨G',s,r'⟩
   grind [Same.refl]
  ~⟨G1,s1,r1⟩:=one;~⟨G2,s2,r2⟩:=ih r1;!⟨G2,s1.trans s2,r2⟩
tm Rel.block(r:Rel K Z G σ H e)(js)(p:Rep K G w x):Rel K ⟨H,G,[]⟩ G (some x::pj js σ) H (.fr w::pjS js e):=by
 #hfr:∀(i:Nat)(s:S),(S.fr w::pjS js e)[i]?=some s->s=.no\/∃u,s=.fr u/\((i=0/\u=w)\/∃k j,i=k+1/\js[k]?=some j/\e[j]?=some (.fr u)):=λi s h=>by
  grind [pjS,pj1]
 rF⟨r.sub,λi s h=>?_,?_,λi j b b' w1 w2 a h1 h2 _ _=>?_,λa o h _=>h,(λa h=>nomatch h),λa _=>rfl⟩
 ·rcases hfr i s h with rfl|⟨u,rfl,⟨rfl,rfl⟩|⟨k,j,rfl,h1,h2⟩⟩
  ·trivial
  ·!⟨x,rfl,p⟩
  ·~⟨v,h3,h4⟩:=r.fr h2;rF⟨v,?_,h4⟩
   grind [pj]
 all_goals grind [pjS,pj]
tm Rel.mutFree(r:Rel K Z G σ H e)(hg:G a=none)(hz:Z.H a=none)(hi:a∉Z.io)(hf:Free σ e a)(hls:H a=some (.lst ls)):Rel K Z G σ (upd H a o) e:=by
 rF⟨λc u z=>?_,λj s z=>?_,r.len,r.dis,λc u z n=>?_,λc z=>?_,r.gen⟩
 ·rw[q0g (q0p z hg)];!r.sub c u z
 ·#y:=r.slot j s z;cases s with
  |no=>trivial
  |fr w=>!y
  |own b2 w2=>
   ~⟨c,ys,y1,y2,y3,y4,y5⟩:=y;rF⟨c,ys,y1,?_,y3,y4,y5⟩;rw[q0g];!y2;rintro rfl;~⟨c',_,z1,_⟩:=r.own z;rw[z1]at y1;@y1;!hf j b2 w2 z z1
  |dic kvs=>
   ~⟨c,y1,y2,y3,y4⟩:=y;rF⟨c,y1,?_,y3,y4⟩;rw[q0g (q3q y2 hls (q79 rfl))];!y2
  |dw sh ks ws=>!DwOk.move y (.refl _) λl o ys k1 k2 k3=>⟨by rw[q0g (q3q k1 hls (q82 rfl))];!k1,k2,k3⟩
 ·rw[q0g (q0p z hz)];!r.ent c u z n
 ·by_cases hc:c=a
  ·grind
  ·rw[q0g hc];!r.ion c z
structure Walk(J:It)(xs:List V)(SQ:Hp->Prop):Prop where
 go:∀i H,SQ H->i<xs.length->J.go i H
 yld:∀i H x H',SQ H->J.yld i H x H'->i<xs.length->H'=H/\xs[i]?=some x
 stop:∀i H,SQ H->xs.length<=i->J.stop i H
tm y1b:Walk (Itl K a) xs (λH=>SqL K H a xs):=
 ⟨λi H q h=>⟨xs,xs[i],q,by simp[h]⟩,λi H x H' q ⟨e,y⟩ h=>⟨e,y xs q⟩,λi H q h=>⟨xs,q,h⟩⟩
tm y1c:Walk (Itt K a) xs (λH=>SqT K H a xs):=
 ⟨λi H q h=>⟨xs,xs[i],q,by simp[h]⟩,λi H x H' q ⟨e,y⟩ h=>⟨e,y xs q⟩,λi H q h=>⟨xs,q,h⟩⟩
tm z3r:Walk (Itr lo n) ((List.range n).map λk=>V.int (lo+(k:Nat))) (λ_=>True):=
 ⟨λi H q h=>show i<n by simpa using h,λi H x H' q ⟨e,y⟩ h=>⟨e,by simp at h;simp[h,y]⟩,λi H q h=>show n<=i by simpa using h⟩
tm q95{Q:VK}(W0:Walk J xs SQ)(r1:Rel K Z G1 σ H1 e1)(s1:Same G0 G1)(rp:Reps K G1 ws xs)(hSQ:∀G' H',Same G1 G'->Same G' H'->SQ H')(hl:ws.length<=16777216)
  (hz:∀p,H1 p=none->p∉Z.io)(hc:compD c d (pjS js e1) ws=some out)
  (h:∀G' a xs H',Rel K Z G' σ H' e1->Same G0 G'->H' a=some (.lst xs)->G' a=none->Z.H a=none->Free σ e1 a->Reps K G' out xs->Q (.ref a) H'):
  ∀D,H1 D=none->∃W:Nat->Nat->Hp->Prop,(∃m,W 0 m (upd H1 D (.lst [])))/\∀i m H2,W i m H2 ->
   (J.stop i H2/\Q (.ref D) H2)\/(J.go i H2/\∀x H3,J.yld i H2 x H3->gName 0 x (List.replicate 1 none++pj js σ) H3 λσ4 H4=>Kp (List.replicate 1 none++pj js σ) σ4/\(λσ H Q=>∃Z',liftT K Z' (λ_=>E0) c σ H Q) σ4 H4 λb H5=>
    if b=true then(λσ H Q=>∃Z',AtG K Z' σ H λG e=>(d e).holds (λw e'=>∀G' v H',Rel K Z' G' σ H' e'->Same G G'->Rep K G' w v->Q v H') (XH K Z' (λ_=>E0) σ G)) σ4 H5 λy H6=>∃ys,H6 D=some (.lst ys)/\ys.length<sizeLine/\∃m',m'<m/\W (i+1) m' (upd H6 D (.lst (ys++[y])))else ∃m',m'<m/\W (i+1) m' H5):=by
 intro D hD;#hlen:=rp.length
 rF⟨λi m H2=>m=ws.length-i/\i<=ws.length/\∃G2 ys done rest,Rel K Z G2 σ H2 e1/\Same G1 G2/\H2 D=some (.lst ys)/\G2 D=none/\Reps K G2 done ys/\done.length<=i/\compD c d (pjS js e1) (ws.drop i)=some rest/\done++rest=out,
  ⟨ws.length,by omega,w1g _,G1,[],[],out,r1.grow (Grow.hid r1.sub hD _),.refl _,q0k,r1.sub.free hD,rfl,w0b _,hc,rfl⟩,?_⟩
 rintro i m H2 ⟨rfl,hi,G2,ys,done,rest,r2,s2,hd2,hg2,rp2,hdl,hc2,ho⟩;#hfree:Free σ e1 D:=x1c r1 hD;#hzh:Z.H D=none:=q7v r1 hD
 by_cases hlt:i<ws.length
 ·rF .inr ⟨W0.go i H2 (hSQ G2 H2 s2 r2.sub) oM,λx H3 hy=>?_⟩
  ~⟨rfl,hx⟩:=W0.yld i H2 x H3 (hSQ G2 H2 s2 r2.sub) hy oM;~⟨w,hw,pw⟩:=rp.getV hx;rw[x31 hw]at hc2;rF⟨Kp.one,⟨H3,G2,[]⟩,G2,.fr w::pjS js e1,r2.block js (Rep.mono s2 w pw),?_⟩;unfold compD at hc2;cases qc:c (.fr w::pjS js e1)with
  |no=>grind
  |ex _ _=>grind
  |ok k e2=>
   rw[qc]at hc2;intro G3 H5 r3 s3;#g3:=r3.toGrow s3;cases k with
   |false=>
    !⟨ws.length-(i+1),by omega,rfl,hlt,G3,ys,done,rest,r2.grow g3,s2.trans s3,g3.hh _ _ hd2,by rw[g3.new D (by rw[hd2];simp)];!hg2,Reps.mono s3 _ rp2,by omega,hc2,ho⟩
   |true=>
    rF⟨⟨H3,G2,[]⟩,G3,e2,r3,?_⟩;dsimp only at hc2;cases qd:d e2 with
    |no=>grind
    |ex _ _=>grind
    |ok y e3=>
     rw[qd]at hc2;intro G4 v H6 r4 s4 p4;#g4:=r4.toGrow (s3.trans s4);~⟨rest',hr,rfl⟩:=w0x.mp hc2;#hd6:H6 D=some (.lst ys):=g4.hh _ _ hd2;#hg6:G4 D=none:=by rw[g4.new D (by rw[hd2];simp)];!hg2
     rF⟨ys,hd6,?_,ws.length-(i+1),by omega,rfl,hlt,G4,ys++[v],done++[y],rest',(r2.grow g4).mutFree hg6 hzh (hz D hD) hfree hd6,s2.trans (s3.trans s4),q0k,hg6,(Reps.mono (s3.trans s4) _ rp2).append (.one p4),by simp;omega,hr,by grind⟩;rw[rp2.length,sizeLine_eq];omega
 ·#:i=ws.length:=by omega
  subst this;rw[w3s]at hc2;@hc2;rw[w1a]at ho;subst ho;!.inl ⟨W0.stop _ H2 (hSQ G2 H2 s2 r2.sub) oM,h G2 D ys H2 r2 (s1.trans s2) hd2 hg2 hzh hfree rp2⟩
section
variable{elt iter a b:Expr}{ifs:List Expr}{scope sc:Scope}{pt:Pos}{x:Str}{Nf N:List Str}{di:Den W}{c:Den Bool}{d:Den W}
nD DTs(Z:Zt)(X:Cx)(EE:L2.St->XK)(ifs:List Expr)(c:Den Bool):Prop:=PTs X ifs (liftT X.K Z EE c)
tm q6j:DTs Z X EE [] dYes:=λpins s σ H Q I ⟨G,e,r,h⟩=>y78 pins s σ H Q I (h G H r (.refl _))
tm x25(h:DT Z X EE a c):DTs Z X EE [a] c:=y79 h
nD cT(K:PySem.W.Frag)(c:Den Bool):TT:=λσ H Q=>∃Z',liftT K Z' (λ_=>E0) c σ H Q
nD cE(K:PySem.W.Frag)(d:Den W):TE:=λσ H Q=>∃Z',AtG K Z' σ H λG e=>(d e).holds (λw e'=>∀G' v H',Rel K Z' G' σ H' e'->Same G G'->Rep K G' w v->Q v H') (XH K Z' (λ_=>E0) σ G)
tm x33{D:Ends}{r:R (List W)}{k:W->List S->SR}(h:PostS K Z EE D G ((r.bind λws e'=>.ok (.lst ws) e').stm k)):r.holds (λws e'=>PostS K Z EE D G (k (.lst ws) e')) (XH K Z EE σ G):=by
 cases r with
 |ok a e=>!h
 |ex c e=>!λG' H' r q=>h G' σ H' r q
 |no=>!h
tm x49(ht:∀Z' cl C s₀ H₀ ex,DTs Z' (X.cp Y scope cl C s₀ H₀ ex) (λ_=>E0) ifs c):∀cl C s₀ H₀ ex,PTs (X.cp Y scope cl C s₀ H₀ ex) ifs (cT X.K c):=λcl C s₀ H₀ ex pins s σ H Q I ⟨Z',h⟩=>ht Z' cl C s₀ H₀ ex pins s σ H Q I h
tm x5a(he:∀Z' cl C s₀ H₀ ex,DE Z' (X.cp Y scope cl C s₀ H₀ ex) (λ_=>E0) elt d):∀cl C s₀ H₀ ex,PE (X.cp Y scope cl C s₀ H₀ ex) elt (cE X.K d):=λcl C s₀ H₀ ex pins s σ H Q I ⟨Z',h⟩=>he Z' cl C s₀ H₀ ex pins s σ H Q I h
tm ionone(r:Rel K Z G σ H e):∀p,H p=none->p∉Z.io:=λp hp hi=>r.ion p hi hp
tm x34:∀σ H Q,liftF K Z EE (dComp js di c d) σ H Q->tComp (iSeq K (liftE K Z EE di)) 1 js (gName 0) (cT K c) (cE K d) σ H Q:=by
 rintro σ H Q ⟨G,e,rel,h⟩;simp only[dComp,R.holds_bind]at h;rF⟨G,e,rel,h.imp (λw e1 h G1 v1 H1 r1 s1 p1=>?_) λ_ _ h=>h⟩
 split at h
 ·rename_i ws hw;unfold compK at h;split at h
  ·rename_i hl;split at h
   ·rename_i out ho;~⟨G2,s2,r2⟩:=r1.frzs js;#p2:=Rep.mono s2 w p1;#io:=ionone r2;cases w with
    |tup us=>
     @hw;~⟨a,xs,rfl,hq,rp⟩:=p2;!⟨a,rfl,.inr ⟨⟨xs,r2.sub.tup hq⟩,q95 y1c r2 (s1.trans s2) rp (λG' H' s s'=>Same.tup s' (Same.tup s hq)) hl io ho h⟩⟩
    |lst us=>
     @hw;~⟨a,xs,rfl,hq,rp⟩:=p2;!⟨a,rfl,.inl ⟨⟨xs,r2.sub.seq hq⟩,q95 y1b r2 (s1.trans s2) rp (λG' H' s s'=>Same.seq s' (Same.seq s hq)) hl io ho h⟩⟩
    |_=>@hw
   ·!h.elim
  ·!h.elim
 ·!h.elim
tm x26(hc:X.calm=true)(hi:DE Z X EE iter di)(ok:compOk sc scope N Nf js=true)
  (ht:∀Z' cl C s₀ H₀ ex,DTs Z' (X.cp ([x]++Nf) scope cl C s₀ H₀ ex) (λ_=>E0) ifs c)(he:∀Z' cl C s₀ H₀ ex,DE Z' (X.cp ([x]++Nf) scope cl C s₀ H₀ ex) (λ_=>E0) elt d)
  (hg:∀cl C s₀ H₀ ex,PG (X.cp ([x]++Nf) scope cl C s₀ H₀ ex) (.Name x pt) (gName 0))
  (hsc:X.env.scope=sc:=by rfl)(hN:X.N=N:=by rfl)(hs:∀x,foldedSetIterable iter X.env x=pure x:=by intro _;rfl):
  DF Z X EE (.ListComp elt [⟨.Name x pt,iter,ifs,0⟩] scope pos) (dComp js di c d):=by
 !PE.mono (x5t (Nl:=[x]) (tc:=cT X.K c) (te:=cE X.K d) hc (x13 hi) ok hg (x49 ht) (x5a he) hsc hN hs) x34
tm x15(i:Nat){y:Str}{py spos:Pos}(hNd:X.N.Nodup)(hc:X.calm=true)(hi:DE Z X EE iter di)(ok:compOk sc scope N Nf js=true)
  (ht:∀Z' cl C s₀ H₀ ex,DTs Z' (X.cp ([x]++Nf) scope cl C s₀ H₀ ex) (λ_=>E0) ifs c)(he:∀Z' cl C s₀ H₀ ex,DE Z' (X.cp ([x]++Nf) scope cl C s₀ H₀ ex) (λ_=>E0) elt d)
  (hg:∀cl C s₀ H₀ ex,PG (X.cp ([x]++Nf) scope cl C s₀ H₀ ex) (.Name x pt) (gName 0))
  (hsc:X.env.scope=sc:=by rfl)(hN:X.N=N:=by rfl)(hs:∀x,foldedSetIterable iter X.env x=pure x:=by intro _;rfl)(hiy:X.N[i]?=some y:=by rfl)(hxy:Loc X.env.scope y:=by walk_at "3")(hfy:X.fn y=true\/X.env.scope.names.lookup y=some .local:=by walk_at "2")(hsw:swapsWith (.ListComp elt [⟨.Name x pt,iter,ifs,0⟩] scope pos) (some (.Name y py)) spos.line X.env=pure true:=by rfl):
  DS Z X EE (.Assign [.Name y py] (.ListComp elt [⟨.Name x pt,iter,ifs,0⟩] scope pos) spos) (dSet i (dFz (dComp js di c d))):=by
 rF PS.mono (x32 (Nl:=[x]) (tc:=cT X.K c) (te:=cE X.K d) hc (x13 hi) ok hg (x49 ht) (x5a he) (q17 i hNd hiy hxy hfy) hsw hsc hN hs) ?_;rintro D σ H ⟨G,e,rel,h⟩;rF x34 σ H _ ⟨G,e,rel,?_⟩;rF(x33 h).imp (λw e1 h G1 a xs H1 r1 s1 q1 q2 q3 q4 p1=>?_) λ_ _ h=>h
 ~⟨sg,rg⟩:=r1.seen q1 q2 q3 q4;!h _ _ H1 (rg.set (v:=.ref a) ⟨a,xs,rfl,SqL.of q0k,Reps.mono sg w p1⟩) (s1.trans sg)
tm x9k:∀σ H Q,liftF K Z EE (dCompR rng1 js dA c d) σ H Q->tComp (iRng1 (liftA K Z EE dA)) 1 js (gName 0) (cT K c) (cE K d) σ H Q:=by
 rintro σ H Q ⟨G,e,rel,h⟩;simp only[dCompR,R.holds_bind]at h;rF⟨G,e,rel,h.imp (λws e1 h G1 vs H1 r1 s1 p1=>?_) λ_ _ h=>h⟩
 unfold rng1 at h;split at h
 ·rename_i us hh;split at hh
  ·rename_i j;split at hh
   ·rename_i hj;@hh;~⟨y,r,rfl,e1,e2⟩:=p1;cases(show y=V.int j from e1);cases(show r=[]from e2);rF⟨j,rfl,(q4v hj).1,(q4v hj).2,?_⟩;unfold compK at h;split at h
    ·rename_i hl;split at h
     ·rename_i out ho;~⟨G2,s2,r2⟩:=r1.frzs js;#z:=q95 (J:=Itr 0 (j-0).toNat) z3r r2 (s1.trans s2) (x14 (lo:=0) (hi:=j)) (λ_ _ _ _=>trivial) hl (ionone r2) ho h
      rwa [Int.sub_zero]at z
     ·!h.elim
    ·!h.elim
   ·@hh
  ·@hh
 ·!h.elim
tm q7n(i:Nat){y:Str}{py spos:Pos}(hNd:X.N.Nodup)(hc:X.calm=true)(hm:X.mg "range"=none)(ha:DA Z X EE [a] dA)(ok:compOk sc scope N Nf js=true)
  (ht:∀Z' cl C s₀ H₀ ex,DTs Z' (X.cp ([x]++Nf) scope cl C s₀ H₀ ex) (λ_=>E0) ifs c)(he:∀Z' cl C s₀ H₀ ex,DE Z' (X.cp ([x]++Nf) scope cl C s₀ H₀ ex) (λ_=>E0) elt d)
  (hg:∀cl C s₀ H₀ ex,PG (X.cp ([x]++Nf) scope cl C s₀ H₀ ex) (.Name x pt) (gName 0))
  (hgr:Gl X "range":=by rfl)(hs1:starEach [a] X.env=[(false,eval a X.env)]:=by rfl)(hsc:X.env.scope=sc:=by rfl)(hN:X.N=N:=by rfl)(hs:∀x,foldedSetIterable (.Call (.Name "range" p1) [a] [] p2) X.env x=pure x:=by intro _;rfl)(hiy:X.N[i]?=some y:=by rfl)(hxy:Loc X.env.scope y:=by walk_at "3")(hfy:X.fn y=true\/X.env.scope.names.lookup y=some .local:=by walk_at "2")(hsw:swapsWith (.ListComp elt [⟨.Name x pt,.Call (.Name "range" p1) [a] [] p2,ifs,0⟩] scope pos) (some (.Name y py)) spos.line X.env=pure true:=by rfl):
  DS Z X EE (.Assign [.Name y py] (.ListComp elt [⟨.Name x pt,.Call (.Name "range" p1) [a] [] p2,ifs,0⟩] scope pos) spos) (dSet i (dFz (dCompR rng1 js dA c d))):=by
 rF PS.mono (x32 (Nl:=[x]) (tc:=cT X.K c) (te:=cE X.K d) hc (x3p hgr hm ha hs1) ok hg (x49 ht) (x5a he) (q17 i hNd hiy hxy hfy) hsw hsc hN hs) ?_;rintro D σ H ⟨G,e,rel,h⟩;rF x9k σ H _ ⟨G,e,rel,?_⟩;rF(x33 h).imp (λw e1 h G1 a xs H1 r1 s1 q1 q2 q3 q4 p1=>?_) λ_ _ h=>h
 ~⟨sg,rg⟩:=r1.seen q1 q2 q3 q4;!h _ _ H1 (rg.set (v:=.ref a) ⟨a,xs,rfl,SqL.of q0k,Reps.mono sg w p1⟩) (s1.trans sg)
end
mutual
noncomputable def depW:W->Nat
 |.tup ws=>depWs ws+1
 |.lst ws=>depWs ws+1
 |_=>0
noncomputable def depWs:List W->Nat
 |[]=>0
 |w::ws=>max (depW w) (depWs ws)
end
section
variable{pins:List (Addr×Obj)}
mutual
theorem x27(I:Inv X pins σ H s)(sg:Same G H):∀(w:W){w':W}{v:V}{k:Bool},Rep X.K G w v->Rep X.K G w' v->eqW w w'=some k->k=true
 |.non,w',v,k,h,h',e=>by
  cases(show v=.non from h);@w'<;>first|(@e;done)|(@h';@e;rfl)|(exfalso;~⟨_,_,z,_⟩:=h';first|done|@z)|(exfalso;~⟨_,z,_⟩:=h';first|done|@z)
 |.bl b,w',v,k,h,h',e=>by
  cases(show v=.bl b from h);@w'<;>first|(@e;done)|(@h';@e;!beq_self_eq_true _)|(exfalso;~⟨_,_,z,_⟩:=h';first|done|@z)|(exfalso;~⟨_,z,_⟩:=h';first|done|@z)
 |.int b,w',v,k,h,h',e=>by
  cases(show v=.int b from h);@w'<;>first|(@e;done)|(@h';@e;!beq_self_eq_true _)|(exfalso;~⟨_,_,z,_⟩:=h';first|done|@z)|(exfalso;~⟨_,z,_⟩:=h';first|done|@z)
 |.str b,w',v,k,h,h',e=>by
  cases(show v=.str b from h);@w'<;>first|(@e;done)|(@h';@e;!beq_self_eq_true _)|(exfalso;~⟨_,_,z,_⟩:=h';first|done|@z)|(exfalso;~⟨_,z,_⟩:=h';first|done|@z)
 |.tup ws,w',v,k,h,h',e=>by
  ~⟨a,xs,rfl,q,r⟩:=h;cases w' with
  |tup ws'=>
   ~⟨a',xs',z,q',r'⟩:=h';@z;#:=I.tuple_inj (sg.tup q) (sg.tup q');subst this;!x1f I sg ws r r' (e)
  |lst ws'=>
   ~⟨a',xs',z,q',r'⟩:=h';@z;~⟨its,_,p1,_⟩:=I.tuple (sg.tup q);~⟨its2,_,p2,_⟩:=I.list (sg.seq q');!absurd rfl (SeqAt.ne_of_list_tuple p2.isList (show s.heap.IsTuple a _ from p1))
  |non=>@h'
  |bl _=>@h'
  |int _=>@h'
  |str _=>@h'
  |exc _=>@e
  |dic _=>@e
  |dw _ _ _ _=>@e
 |.lst ws,w',v,k,h,h',e=>by
  ~⟨a,xs,rfl,q,r⟩:=h;cases w' with
  |lst ws'=>
   ~⟨a',xs',z,q',r'⟩:=h';@z;#:=I.list_inj (sg.seq q) (sg.seq q');subst this;!x1f I sg ws r r' (e)
  |tup ws'=>
   ~⟨a',xs',z,q',r'⟩:=h';@z;~⟨its,_,p1,_⟩:=I.tuple (sg.tup q');~⟨its2,_,p2,_⟩:=I.list (sg.seq q);!absurd rfl (SeqAt.ne_of_list_tuple p2.isList (show s.heap.IsTuple a _ from p1))
  |non=>@h'
  |bl _=>@h'
  |int _=>@h'
  |str _=>@h'
  |exc _=>@e
  |dic _=>@e
  |dw _ _ _ _=>@e
 |.exc c,w',v,k,h,h',e=>by @w'<;>@e
 |.dic c,w',v,k,h,h',e=>by @w'<;>@e
 |.dw _ _ _ _,w',v,k,h,h',e=>by @w'<;>@e
theorem x1f(I:Inv X pins σ H s)(sg:Same G H):∀(ws:List W){ws':List W}{vs:List V}{k:Bool},Reps X.K G ws vs->Reps X.K G ws' vs->eqWs ws ws'=some k->k=true
 |[],ws',vs,k,h,h',e=>by
  @h;cases ws' with
  |nil=>@e;rfl
  |cons _ _=>~⟨_,_,z,_⟩:=h';@z
 |w::ws,ws',vs,k,h,h',e=>by
  ~⟨x,r,rfl,h1,h2⟩:=h;cases ws' with
  |nil=>@h'
  |cons w' ws'=>
   ~⟨x',r',z,h1',h2'⟩:=h';@z;#e:(match eqW w w',eqWs ws ws' with|some a,some b=>some (a&&b)|_,_=>none)=some k:=e;cases q1:eqW w w' with
   |none=>rw[q1]at e;@e
   |some b1=>
    cases q2:eqWs ws ws' with
    |none=>grind
    |some b2=>
     rw[q1,q2]at e;rw[x27 I sg w h1 h1' q1,x1f I sg ws h2 h2' q2]at e;@e;rfl
end
tm q5d:∀{xs ys:List W}{b:Bool},eqWs xs ys=some b->(∀(j:Nat) x y,xs[j]?=some x->ys[j]?=some y->∃k,eqW x y=some k)/\b=((List.range (min xs.length ys.length)).all (λj=>((eqW (xs.getD j .non) (ys.getD j .non)).getD false))&&xs.length==ys.length):=by
 intro xs
 induction xs with
 |nil=>
  intro ys b h;rF⟨λj x y hx=>by simp at hx,?_⟩
  @ys<;>(@h;simp)
 |cons x xs ih=>
  intro ys b h;cases ys with
  |nil=>rF⟨λj x y hx hy=>by simp at hy,?_⟩;@h;simp
  |cons y ys=>
   #h:(match eqW x y,eqWs xs ys with|some a,some b=>some (a&&b)|_,_=>none)=some b:=h;cases q1:eqW x y with
   |none=>rw[q1]at h;@h
   |some b1=>
    cases q2:eqWs xs ys with
    |none=>grind
    |some b2=>
     rw[q1,q2]at h;@h;~⟨h1,h2⟩:=ih q2;rF⟨λj x' y' hx hy=>?_,?_⟩
     ·cases j with
      |zero=>grind
      |succ j=>!h1 j x' y' (by simpa using hx) (by simpa using hy)
     ·rw[h2];simp only[w0t,Nat.succ_min_succ,List.range_succ_eq_map,w2p,w4u]
      #e0:(eqW ((x::xs).getD 0 .non) ((y::ys).getD 0 .non)).getD false=b1:=by
       grind
      rw[e0,Bool.and_assoc];congr 1;congr 1;simp
tm q86:∀{xs:List W}{j:Nat}{x:W},xs[j]?=some x->depW x<=depWs xs
 |[],_,_,h=>by simp at h
 |y::ys,0,x,h=>by grind [depWs]
 |y::ys,j+1,x,h=>by
  #:=q86 (xs:=ys) (j:=j) (by simpa using h);simp only[depWs];omega
tm q96{xs:List α}{x d:α}(h:xs[j]?=some x):xs.getD j d=x:=by
 simp[List.getD,h]
tm x50(I:Inv X pins σ H s)(sg:Same G H)(hu:A.units<cLine)(n1:∀ws,w=.tup ws->∀ws',w'≠.tup ws')(n2:∀ws,w=.lst ws->∀ws',w'≠.lst ws')(h:Rep X.K G w v)(h':Rep X.K G w' v')(r:RelV v u)(r':RelV v' u')(e:eqW w w'=some b):SeqAt.RcAt A s u u' b:=by
 #tl:∀{ws:List W}{v:V}{u:Value},Rep X.K G (.lst ws) v->RelV v u->∃l items,u=.ref l/\s.heap.IsList l items:=λh r=>by
  ~⟨a,xs,rfl,q,_⟩:=h;@r;~⟨its,_,p,_⟩:=I.list (sg.seq q);!⟨a,_,rfl,p.isList⟩
 #tt:∀{ws:List W}{v:V}{u:Value},Rep X.K G (.tup ws) v->RelV v u->∃l items,u=.ref l/\s.heap.IsTuple l items:=λh r=>by
  ~⟨a,xs,rfl,q,_⟩:=h;@r;~⟨its,_,p,_⟩:=I.tuple (sg.tup q);!⟨a,_,rfl,p⟩
 #tn:∀{v:V}{u:Value},Rep X.K G .non v->RelV v u->u=.none:=λh r=>by @h;!r
 #tb:∀{k:Bool}{v:V}{u:Value},Rep X.K G (.bl k) v->RelV v u->u=.bool k:=λh r=>by @h;!r
 #ti:∀{k:Int}{v:V}{u:Value},Rep X.K G (.int k) v->RelV v u->∃t,u=.int k t:=λh r=>by @h;!r
 #ts:∀{k:Str}{v:V}{u:Value},Rep X.K G (.str k) v->RelV v u->∃t,u=.str k t:=λh r=>by @h;!r
 cases w with
 |non=>
  ~rfl:=tn h r;cases w' with
  |non=>~rfl:=tn h' r';@e;!.none_none
  |bl k=>~rfl:=tb h' r';@e;!.none_bool k
  |int k=>~⟨t,rfl⟩:=ti h' r';@e;!.none_int k t
  |str k=>~⟨t,rfl⟩:=ts h' r';@e;!.none_str k t
  |tup k=>~⟨l,it,rfl,p⟩:=tt h' r';@e;!.none_tuple p hu
  |lst k=>~⟨l,it,rfl,p⟩:=tl h' r';@e;!.none_list p hu
  |exc k=>@e
  |dic k=>@e
  |dw _ _ _ _=>@e
 |bl j=>
  ~rfl:=tb h r;cases w' with
  |non=>~rfl:=tn h' r';@e;!.bool_none j
  |bl k=>~rfl:=tb h' r';@e;!.bool_bool j k
  |int k=>~⟨t,rfl⟩:=ti h' r';@e;!.bool_int j k t
  |str k=>~⟨t,rfl⟩:=ts h' r';@e;!.bool_str j k t
  |tup k=>~⟨l,it,rfl,p⟩:=tt h' r';@e;!.bool_tuple j p hu
  |lst k=>~⟨l,it,rfl,p⟩:=tl h' r';@e;!.bool_list j p hu
  |exc k=>@e
  |dic k=>@e
  |dw _ _ _ _=>@e
 |int j=>
  ~⟨t1,rfl⟩:=ti h r;cases w' with
  |non=>~rfl:=tn h' r';@e;!.int_none j t1
  |bl k=>~rfl:=tb h' r';@e;!.int_bool j t1 k
  |int k=>~⟨t,rfl⟩:=ti h' r';@e;!.int_int j t1 k t
  |str k=>~⟨t,rfl⟩:=ts h' r';@e;!.int_str j t1 k t
  |tup k=>~⟨l,it,rfl,p⟩:=tt h' r';@e;!.int_tuple j t1 p hu
  |lst k=>~⟨l,it,rfl,p⟩:=tl h' r';@e;!.int_list j t1 p hu
  |exc k=>@e
  |dic k=>@e
  |dw _ _ _ _=>@e
 |str j=>
  ~⟨t1,rfl⟩:=ts h r;cases w' with
  |non=>~rfl:=tn h' r';@e;!.str_none j t1
  |bl k=>~rfl:=tb h' r';@e;!.str_bool j t1 k
  |int k=>~⟨t,rfl⟩:=ti h' r';@e;!.str_int j t1 k t
  |str k=>~⟨t,rfl⟩:=ts h' r';@e;!.str_str j t1 k t
  |tup k=>~⟨l,it,rfl,p⟩:=tt h' r';@e;!.str_tuple j t1 p hu
  |lst k=>~⟨l,it,rfl,p⟩:=tl h' r';@e;!.str_list j t1 p hu
  |exc k=>@e
  |dic k=>@e
  |dw _ _ _ _=>@e
 |tup j=>
  ~⟨l1,it1,rfl,p1⟩:=tt h r;cases w' with
  |non=>~rfl:=tn h' r';@e;!.tuple_none p1 hu
  |bl k=>~rfl:=tb h' r';@e;!.tuple_bool k p1 hu
  |int k=>~⟨t,rfl⟩:=ti h' r';@e;!.tuple_int k t p1 hu
  |str k=>~⟨t,rfl⟩:=ts h' r';@e;!.tuple_str k t p1 hu
  |tup k=>grind
  |lst k=>~⟨l,it,rfl,p⟩:=tl h' r';@e;!.tuple_list p1 p hu
  |exc k=>@e
  |dic k=>@e
  |dw _ _ _ _=>@e
 |lst j=>
  ~⟨l1,it1,rfl,p1⟩:=tl h r;cases w' with
  |non=>~rfl:=tn h' r';@e;!.list_none p1 hu
  |bl k=>~rfl:=tb h' r';@e;!.list_bool k p1 hu
  |int k=>~⟨t,rfl⟩:=ti h' r';@e;!.list_int k t p1 hu
  |str k=>~⟨t,rfl⟩:=ts h' r';@e;!.list_str k t p1 hu
  |lst k=>grind
  |tup k=>~⟨l,it,rfl,p⟩:=tt h' r';@e;!.list_tuple p1 p hu
  |exc k=>@e
  |dic k=>@e
  |dw _ _ _ _=>@e
 |exc j=>@w'<;>@e
 |dic j=>@w'<;>@e
 |dw _ _ _ _=>@w'<;>@e
tm x8d(I:Inv X pins σ H s)(sg:Same G H)(hd:depW w<=0)(hu:A.units<cLine)(h:Rep X.K G w v)(h':Rep X.K G w' v')(r:RelV v u)(r':RelV v' u')(e:eqW w w'=some b):SeqAt.RcAt A s u u' b:=
 x50 I sg hu (λws z=>by grind [depW]) (λws z=>by grind [depW]) h h' r r' e
tm x51(h:Rep K G w v):∀x,v≠.flt x:=λx z=>by
 subst z;cases w with
 |tup ws=>~⟨_,_,z,_⟩:=h;@z
 |lst ws=>~⟨_,_,z,_⟩:=h;@z
 |exc c=>~⟨_,z,_⟩:=h;@z
 |dic c=>~⟨_,z,_⟩:=h;@z
 |dw _ _ _ _=>~⟨_,_,_,z,_⟩:=h;@z
 |_=>@h
tm x52(rv:RelV v u)(hf:∀x,v≠.flt x)(h:SeqAt.RcAt A s u u' b)(hs:u=u'->b=true):SeqAt.EqAt A s u u' b:=λprog w E Q hq=>by
 unfold eqBool;rF wpAny_holding ?_;rF wpAny_ite_split (λhab=>?_) (λ_=>?_)
 ·#hb:=hs (eq_of_beq hab)
  grind [wpAny_bind,wpAny_rule,wpAny_pure]
 ·#z:=wpAny_bind (h prog w E (λa s'=>wpAny (model prog w) A (truthOfDropped a) Q E s') (wpAny_truthy_bool hq))
  cases v with
  |flt x=>!absurd rfl (hf x)
  |non=>@rv;!z
  |bl _=>@rv;!z
  |int _=>~⟨t,rfl⟩:=rv;!z
  |str _=>~⟨t,rfl⟩:=rv;!z
  |byt _=>~⟨t,rfl⟩:=rv;!z
  |ref _=>@rv;!z
  |ty _=>@rv;!z
tm y7f(I:Inv X pins σ H s)(sg:Same G H):∀(n:Nat){w w':W}{v v':V}{u u':Value}{b:Bool}{A:Around},depW w<=n->A.units+n<cLine->Rep X.K G w v->Rep X.K G w' v'->RelV v u->RelV v' u'->eqW w w'=some b->SeqAt.RcAt A s u u' b:=by
 intro n
 induction n with
 |zero=>
  grind [x8d]
 |succ n ih=>
  intro w w' v v' u u' b A hd hu h h' r r' e
  #items:∀{ws ws':List W}{xs xs':List V}{its its':List Value}{k:Bool},depWs ws<=n->Reps X.K G ws xs->Reps X.K G ws' xs'->Vals xs its->Vals xs' its'->eqWs ws ws'=some k ->
    ∀j (h1:j<its.toArray.size) (h2:j<its'.toArray.size),SeqAt.EqAt A.in1 s its.toArray[j] its'.toArray[j] ((eqW (ws.getD j .non) (ws'.getD j .non)).getD false):=by
   intro ws ws' xs xs' its its' k hd r1 r2 v1 v2 he j h1 h2;#l1:=r1.length;#l2:=r2.length;#m1:=v1.length;#m2:=v2.length;#i1:j<xs.length:=by rw[m1];simpa using h1
   #i2:j<xs'.length:=by rw[m2];simpa using h2
   ~⟨u1,e1,ru1⟩:=v1.get (w0a i1);~⟨u2,e2,ru2⟩:=v2.get (w0a i2);~⟨w1,f1,p1⟩:=r1.getV (w0a i1);~⟨w2,f2,p2⟩:=r2.getV (w0a i2);~⟨b',hb'⟩:=(q5d he).1 j w1 w2 f1 f2;rw[q96 f1,q96 f2,hb']
   #g1:its.toArray[j]=u1:=by
    grind
   #g2:its'.toArray[j]=u2:=by
    grind
   rw[g1,g2];#hdw:depW w1<=n:=w0v (q86 f1) hd
   #hun:A.in1.units+n<cLine:=by
    grind
   rF x52 ru1 (x51 p1) (ih hdw hun p1 p2 ru1 ru2 hb') λz=>?_
   subst z;#:=ru1.inj ru2
   grind [x27]
  cases w with
  |tup ws=>
   cases w' with
   |tup ws'=>
    ~⟨a,xs,rfl,q1,r1⟩:=h;~⟨a',xs',rfl,q2,r2⟩:=h';@r;@r';~⟨its,v1,p1,_⟩:=I.tuple (sg.tup q1);~⟨its',v2,p2,_⟩:=I.tuple (sg.tup q2);#e:eqWs ws ws'=some b:=e;#z:=SeqAt.RcAt.tuples (show s.heap.IsTuple a _ from p1) (show s.heap.IsTuple a' _ from p2) (show A.units<cLine by omega) (items (by grind [depW]) r1 r2 v1 v2 e);#l1:=r1.length;#l2:=r2.length;#m1:=v1.length;#m2:=v2.length;#eb:=(q5d e).2
    grind
   |_=>!x50 I sg oM (by intro ws';simp) (by intro ws';simp) h h' r r' e
  |lst ws=>
   cases w' with
   |lst ws'=>
    ~⟨a,xs,rfl,q1,r1⟩:=h;~⟨a',xs',rfl,q2,r2⟩:=h';@r;@r';~⟨its,v1,p1,_⟩:=I.list (sg.seq q1);~⟨its',v2,p2,_⟩:=I.list (sg.seq q2);#e:eqWs ws ws'=some b:=e;#l1:=r1.length;#l2:=r2.length;#m1:=v1.length;#m2:=v2.length;#eb:=(q5d e).2;#n1:its.length=ws.length:=by omega
    #n2:its'.length=ws'.length:=by omega
    by_cases hl:ws.length=ws'.length
    ·#z:=SeqAt.RcAt.lists p1.isList p2.isList (by grind) (show A.units<cLine by omega) (items (by grind [depW]) r1 r2 v1 v2 e)
     grind
    ·#z:=SeqAt.RcAt.lists_lengths (A:=A) p1.isList p2.isList (by grind) (show A.units<cLine by omega)
     grind
   |_=>!x50 I sg oM (by intro ws';simp) (by intro ws';simp) h h' r r' e
  |_=>!x8d I sg (by simp[depW]) oM h h' r r' e
tm x1g(I:Inv X pins σ H s)(sg:Same G H)(hu:A.units<cLine)(n1:∀ws,w=.tup ws->∀ws',w'≠.tup ws')(n2:∀ws,w=.lst ws->∀ws',w'≠.lst ws')(h:Rep X.K G w v)(h':Rep X.K G w' v')(r:RelV v u)(r':RelV v' u')(e:eqW w w'=some b):SeqAt.RcNeAt A s u u' (!b):=by
 #tl:∀{ws:List W}{v:V}{u:Value},Rep X.K G (.lst ws) v->RelV v u->∃l items,u=.ref l/\s.heap.IsList l items:=λh r=>by
  ~⟨a,xs,rfl,q,_⟩:=h;@r;~⟨its,_,p,_⟩:=I.list (sg.seq q);!⟨a,_,rfl,p.isList⟩
 #tt:∀{ws:List W}{v:V}{u:Value},Rep X.K G (.tup ws) v->RelV v u->∃l items,u=.ref l/\s.heap.IsTuple l items:=λh r=>by
  ~⟨a,xs,rfl,q,_⟩:=h;@r;~⟨its,_,p,_⟩:=I.tuple (sg.tup q);!⟨a,_,rfl,p⟩
 #tn:∀{v:V}{u:Value},Rep X.K G .non v->RelV v u->u=.none:=λh r=>by @h;!r
 #tb:∀{k:Bool}{v:V}{u:Value},Rep X.K G (.bl k) v->RelV v u->u=.bool k:=λh r=>by @h;!r
 #ti:∀{k:Int}{v:V}{u:Value},Rep X.K G (.int k) v->RelV v u->∃t,u=.int k t:=λh r=>by @h;!r
 #ts:∀{k:Str}{v:V}{u:Value},Rep X.K G (.str k) v->RelV v u->∃t,u=.str k t:=λh r=>by @h;!r
 cases w with
 |non=>
  ~rfl:=tn h r;cases w' with
  |non=>~rfl:=tn h' r';@e;!.none_none
  |bl k=>~rfl:=tb h' r';@e;!.none_bool k
  |int k=>~⟨t,rfl⟩:=ti h' r';@e;!.none_int k t
  |str k=>~⟨t,rfl⟩:=ts h' r';@e;!.none_str k t
  |tup k=>~⟨l,it,rfl,p⟩:=tt h' r';@e;!.none_tuple p hu
  |lst k=>~⟨l,it,rfl,p⟩:=tl h' r';@e;!.none_list p hu
  |exc k=>@e
  |dic k=>@e
  |dw _ _ _ _=>@e
 |bl j=>
  ~rfl:=tb h r;cases w' with
  |non=>~rfl:=tn h' r';@e;!.bool_none j
  |bl k=>~rfl:=tb h' r';@e;!.bool_bool j k
  |int k=>~⟨t,rfl⟩:=ti h' r';@e;!.bool_int j k t
  |str k=>~⟨t,rfl⟩:=ts h' r';@e;!.bool_str j k t
  |tup k=>~⟨l,it,rfl,p⟩:=tt h' r';@e;!.bool_tuple j p hu
  |lst k=>~⟨l,it,rfl,p⟩:=tl h' r';@e;!.bool_list j p hu
  |exc k=>@e
  |dic k=>@e
  |dw _ _ _ _=>@e
 |int j=>
  ~⟨t1,rfl⟩:=ti h r;cases w' with
  |non=>~rfl:=tn h' r';@e;!.int_none j t1
  |bl k=>~rfl:=tb h' r';@e;!.int_bool j t1 k
  |int k=>~⟨t,rfl⟩:=ti h' r';@e;!.int_int j t1 k t
  |str k=>~⟨t,rfl⟩:=ts h' r';@e;!.int_str j t1 k t
  |tup k=>~⟨l,it,rfl,p⟩:=tt h' r';@e;!.int_tuple j t1 p hu
  |lst k=>~⟨l,it,rfl,p⟩:=tl h' r';@e;!.int_list j t1 p hu
  |exc k=>@e
  |dic k=>@e
  |dw _ _ _ _=>@e
 |str j=>
  ~⟨t1,rfl⟩:=ts h r;cases w' with
  |non=>~rfl:=tn h' r';@e;!.str_none j t1
  |bl k=>~rfl:=tb h' r';@e;!.str_bool j t1 k
  |int k=>~⟨t,rfl⟩:=ti h' r';@e;!.str_int j t1 k t
  |str k=>~⟨t,rfl⟩:=ts h' r';@e;!.str_str j t1 k t
  |tup k=>~⟨l,it,rfl,p⟩:=tt h' r';@e;!.str_tuple j t1 p hu
  |lst k=>~⟨l,it,rfl,p⟩:=tl h' r';@e;!.str_list j t1 p hu
  |exc k=>@e
  |dic k=>@e
  |dw _ _ _ _=>@e
 |tup j=>
  ~⟨l1,it1,rfl,p1⟩:=tt h r;cases w' with
  |non=>~rfl:=tn h' r';@e;!.tuple_none p1 hu
  |bl k=>~rfl:=tb h' r';@e;!.tuple_bool k p1 hu
  |int k=>~⟨t,rfl⟩:=ti h' r';@e;!.tuple_int k t p1 hu
  |str k=>~⟨t,rfl⟩:=ts h' r';@e;!.tuple_str k t p1 hu
  |tup k=>grind
  |lst k=>~⟨l,it,rfl,p⟩:=tl h' r';@e;!.tuple_list p1 p hu
  |exc k=>@e
  |dic k=>@e
  |dw _ _ _ _=>@e
 |lst j=>
  ~⟨l1,it1,rfl,p1⟩:=tl h r;cases w' with
  |non=>~rfl:=tn h' r';@e;!.list_none p1 hu
  |bl k=>~rfl:=tb h' r';@e;!.list_bool k p1 hu
  |int k=>~⟨t,rfl⟩:=ti h' r';@e;!.list_int k t p1 hu
  |str k=>~⟨t,rfl⟩:=ts h' r';@e;!.list_str k t p1 hu
  |lst k=>grind
  |tup k=>~⟨l,it,rfl,p⟩:=tt h' r';@e;!.list_tuple p1 p hu
  |exc k=>@e
  |dic k=>@e
  |dw _ _ _ _=>@e
 |exc j=>@w'<;>@e
 |dic j=>@w'<;>@e
 |dw _ _ _ _=>@w'<;>@e
tm y1d(I:Inv X pins σ H s)(sg:Same G H)(hd:depW w<=0)(hu:A.units<cLine)(h:Rep X.K G w v)(h':Rep X.K G w' v')(r:RelV v u)(r':RelV v' u')(e:eqW w w'=some b):SeqAt.RcNeAt A s u u' (!b):=
 x1g I sg hu (λws z=>by grind [depW]) (λws z=>by grind [depW]) h h' r r' e
tm x53(I:Inv X pins σ H s)(sg:Same G H)(hu:A.units+(n+1)<cLine)(hd:depWs ws<=n)(r1:Reps X.K G ws xs)(r2:Reps X.K G ws' xs')(v1:Vals xs its)(v2:Vals xs' its')(he:eqWs ws ws'=some k):
  ∀j (h1:j<its.toArray.size) (h2:j<its'.toArray.size),SeqAt.EqAt A.in1 s its.toArray[j] its'.toArray[j] ((eqW (ws.getD j .non) (ws'.getD j .non)).getD false):=by
 intro j h1 h2;#l1:=r1.length;#l2:=r2.length;#m1:=v1.length;#m2:=v2.length;#i1:j<xs.length:=by rw[m1];simpa using h1
 #i2:j<xs'.length:=by rw[m2];simpa using h2
 ~⟨u1,e1,ru1⟩:=v1.get (w0a i1);~⟨u2,e2,ru2⟩:=v2.get (w0a i2);~⟨w1,f1,p1⟩:=r1.getV (w0a i1);~⟨w2,f2,p2⟩:=r2.getV (w0a i2);~⟨b',hb'⟩:=(q5d he).1 j w1 w2 f1 f2;rw[q96 f1,q96 f2,hb']
 #g1:its.toArray[j]=u1:=by
  grind
 #g2:its'.toArray[j]=u2:=by
  grind
 rw[g1,g2];#hdw:depW w1<=n:=w0v (q86 f1) hd
 #hun:A.in1.units+n<cLine:=by
  grind
 rF x52 ru1 (x51 p1) (y7f I sg n hdw hun p1 p2 ru1 ru2 hb') λz=>?_
 subst z;#:=ru1.inj ru2
 grind [x27]
tm y8j(I:Inv X pins σ H s)(sg:Same G H)(n)(hd:depW w<=n+1)(hu:A.units+(n+1)<cLine)(h:Rep X.K G w v)(h':Rep X.K G w' v')(r:RelV v u)(r':RelV v' u')(e:eqW w w'=some b):SeqAt.RcNeAt A s u u' (!b):=by
 cases w with
 |tup ws=>
  cases w' with
  |tup ws'=>
   ~⟨a,xs,rfl,q1,r1⟩:=h;~⟨a',xs',rfl,q2,r2⟩:=h';@r;@r';~⟨its,v1,p1,_⟩:=I.tuple (sg.tup q1);~⟨its',v2,p2,_⟩:=I.tuple (sg.tup q2);#e:eqWs ws ws'=some b:=e;#z:=SeqAt.RcNeAt.tuples (show s.heap.IsTuple a _ from p1) (show s.heap.IsTuple a' _ from p2) (show A.units<cLine by omega) (x53 I sg hu (by grind [depW]) r1 r2 v1 v2 e);#l1:=r1.length;#l2:=r2.length;#m1:=v1.length;#m2:=v2.length;#eb:=(q5d e).2
   grind
  |_=>!x1g I sg oM (by intro ws';simp) (by intro ws';simp) h h' r r' e
 |lst ws=>
  cases w' with
  |lst ws'=>
   ~⟨a,xs,rfl,q1,r1⟩:=h;~⟨a',xs',rfl,q2,r2⟩:=h';@r;@r';~⟨its,v1,p1,_⟩:=I.list (sg.seq q1);~⟨its',v2,p2,_⟩:=I.list (sg.seq q2);#e:eqWs ws ws'=some b:=e;#l1:=r1.length;#l2:=r2.length;#m1:=v1.length;#m2:=v2.length;#eb:=(q5d e).2;#n1:its.length=ws.length:=by omega
   #n2:its'.length=ws'.length:=by omega
   by_cases hl:ws.length=ws'.length
   ·#z:=SeqAt.RcNeAt.lists p1.isList p2.isList (by grind) (show A.units<cLine by omega) (x53 I sg hu (by grind [depW]) r1 r2 v1 v2 e)
    grind
   ·#z:=SeqAt.RcNeAt.lists_lengths (A:=A) p1.isList p2.isList (by grind) (show A.units<cLine by omega)
    grind
  |_=>!x1g I sg oM (by intro ws';simp) (by intro ws';simp) h h' r r' e
 |_=>!y1d I sg (by simp[depW]) oM h h' r r' e
nD eq2(x y:W):Option W:=if depW x<=150 then(eqW x y).map .bl else none
nD rEqD(K:PySem.W.Frag):R2:=λx y H Q=>∃G wx wy b,Same G H/\depW wx<=150/\Rep K G wx x/\Rep K G wy y/\eqW wx wy=some b/\Q (.bl b) H
tm y1e(hu:X.A.units+150<cLine):OpR X (compareOp .Eq) (rEqD X.K):=by
 intro pins s σ H x y v u Q I rx ry h;~⟨G,wx,wy,b,sg,hd,hx,hy,e,q⟩:=h;!y7f I sg 150 hd hu hx hy rx ry e _ _ _ _ ⟨.bl b,H,I,rfl,q⟩
tm y7g:Op2 K (rEqD K) eq2:=by
 intro G H x y wx wy w Q s px py hf h;unfold eq2 at hf;split at hf
 ·rename_i hd;~⟨b,hb,rfl⟩:=w0x.mp hf;!⟨G,wx,wy,b,s,hd,px,py,hb,h G _ H (.refl s) rfl⟩
 ·@hf
nD ne2(x y:W):Option W:=if depW x<=150 then(eqW x y).map λb=>.bl (!b)else none
nD rNeD(K:PySem.W.Frag):R2:=λx y H Q=>∃G wx wy b,Same G H/\depW wx<=150/\Rep K G wx x/\Rep K G wy y/\eqW wx wy=some b/\Q (.bl (!b)) H
tm z3s(hu:X.A.units+150<cLine):OpR X (compareOp .NotEq) (rNeD X.K):=by
 intro pins s σ H x y v u Q I rx ry h;~⟨G,wx,wy,b,sg,hd,hx,hy,e,q⟩:=h;!y8j I sg 149 hd hu hx hy rx ry e _ _ _ _ ⟨.bl (!b),H,I,rfl,q⟩
tm z7h:Op2 K (rNeD K) ne2:=by
 intro G H x y wx wy w Q s px py hf h;unfold ne2 at hf;split at hf
 ·rename_i hd;~⟨b,hb,rfl⟩:=w0x.mp hf;!⟨G,wx,wy,b,s,hd,px,py,hb,h G _ H (.refl s) rfl⟩
 ·@hf
end
nD isW:W->W->Option W
 |.non,.non=>some (.bl true)
 |_,.non=>some (.bl false)
 |.bl a,.bl b=>some (.bl (a==b))
 |_,.bl _=>some (.bl false)
 |_,_=>none
nD nisW:W->W->Option W
 |.non,.non=>some (.bl false)
 |_,.non=>some (.bl true)
 |.bl a,.bl b=>some (.bl (!(a==b)))
 |_,.bl _=>some (.bl true)
 |_,_=>none
nD rIs:R2:=λx y H Q=>(y=.non\/∃b,y=.bl b)/\Q (.bl (decide (x=y))) H
nD rNis:R2:=λx y H Q=>(y=.non\/∃b,y=.bl b)/\Q (.bl (!decide (x=y))) H
tm x54{x y:V}{v u:Value}(rx:RelV x v)(ry:RelV y u)(h:y=.non\/∃b,y=.bl b):plainIs v u=true/\(v==u)=decide (x=y):=by
 rcases h with rfl|⟨b,rfl⟩
 ·@ry
  @x<;>first
   |(@rx;!⟨rfl,by first|rfl|(rw[w2u];simp)⟩)
   |(~⟨t,rfl⟩:=rx;!⟨rfl,by rw[w2u];simp⟩)
 ·@ry
  @x<;>first
   |(@rx;!⟨rfl,by first|rfl|(rw[w2u];simp)⟩)
   |(~⟨t,rfl⟩:=rx;!⟨rfl,by rw[w2u];simp⟩)
tm z3t:OpR X (compareOp .Is) rIs:=by
 intro pins s σ H x y v u Q I rx ry h;~⟨hy,q⟩:=h;~⟨h1,h2⟩:=x54 rx ry hy;!wpAny_is_plain h1 (x5m I q h2.symm)
tm y8k:OpR X (compareOp .IsNot) rNis:=by
 intro pins s σ H x y v u Q I rx ry h;~⟨hy,q⟩:=h
 grind [x54,wpAny_isNot_plain,x5m]
tm z7i{x y:V}{wx wy w:W}(px:Rep K G wx x)(py:Rep K G wy y)(h:isW wx wy=some w):(y=.non\/∃b,y=.bl b)/\w=.bl (decide (x=y)):=by
 cases wy with
 |non=>
  cases(show y=.non from py);rF⟨.inl rfl,?_⟩;cases wx with
  |tup ws=>~⟨_,_,rfl,_⟩:=px;@h;simp
  |lst ws=>~⟨_,_,rfl,_⟩:=px;@h;simp
  |exc c=>~⟨_,rfl,_⟩:=px;@h;simp
  |dic c=>~⟨_,rfl,_⟩:=px;@h;simp
  |dw _ _ _ _=>~⟨_,_,_,rfl,_⟩:=px;@h;simp
  |_=>@px;@h;simp
 |bl b=>
  cases(show y=.bl b from py);rF⟨.inr ⟨b,rfl⟩,?_⟩;cases wx with
  |tup ws=>~⟨_,_,rfl,_⟩:=px;@h;simp
  |lst ws=>~⟨_,_,rfl,_⟩:=px;@h;simp
  |exc c=>~⟨_,rfl,_⟩:=px;@h;simp
  |dic c=>~⟨_,rfl,_⟩:=px;@h;simp
  |dw _ _ _ _=>~⟨_,_,_,rfl,_⟩:=px;@h;simp
  |bl k=>@px;@h;@k<;>@b<;>rfl
  |_=>@px;@h;simp
 |_=>@wx<;>@h
tm z3u{x y:V}{wx wy w:W}(px:Rep K G wx x)(py:Rep K G wy y)(h:nisW wx wy=some w):(y=.non\/∃b,y=.bl b)/\w=.bl (!decide (x=y)):=by
 cases wy with
 |non=>
  cases(show y=.non from py);rF⟨.inl rfl,?_⟩;cases wx with
  |tup ws=>~⟨_,_,rfl,_⟩:=px;@h;simp
  |lst ws=>~⟨_,_,rfl,_⟩:=px;@h;simp
  |exc c=>~⟨_,rfl,_⟩:=px;@h;simp
  |dic c=>~⟨_,rfl,_⟩:=px;@h;simp
  |dw _ _ _ _=>~⟨_,_,_,rfl,_⟩:=px;@h;simp
  |_=>@px;@h;simp
 |bl b=>
  cases(show y=.bl b from py);rF⟨.inr ⟨b,rfl⟩,?_⟩;cases wx with
  |tup ws=>~⟨_,_,rfl,_⟩:=px;@h;simp
  |lst ws=>~⟨_,_,rfl,_⟩:=px;@h;simp
  |exc c=>~⟨_,rfl,_⟩:=px;@h;simp
  |dic c=>~⟨_,rfl,_⟩:=px;@h;simp
  |dw _ _ _ _=>~⟨_,_,_,rfl,_⟩:=px;@h;simp
  |bl k=>@px;@h;@k<;>@b<;>rfl
  |_=>@px;@h;simp
 |_=>@wx<;>@h
tm z7j:Op2 K rIs isW:=by
 intro G H x y wx wy w Q s px py hf h;~⟨h1,rfl⟩:=z7i px py hf;!⟨h1,h G _ H (.refl s) rfl⟩
tm z3v:Op2 K rNis nisW:=by
 intro G H x y wx wy w Q s px py hf h;~⟨h1,rfl⟩:=z3u px py hf;!⟨h1,h G _ H (.refl s) rfl⟩
section
variable{a b c e:Expr}{p:Pos}{x:Str}
tm x16(ha:DE Z X EE a da)(hb:DE Z X EE b db):DE Z X EE (.BinOp a .Sub b pos) (dOp subW da db):=q7f z21 z3l ha hb
tm q87(ha:DE Z X EE a da)(hb:DE Z X EE b db):DE Z X EE (.BinOp a .Mult b pos) (dOp mulW da db):=q7f z22 z3m ha hb
tm q06(ha:DE Z X EE a da)(hb:DE Z X EE b db):DE Z X EE (.BinOp a .FloorDiv b pos) (dOp fdivW da db):=q7f y70 y8i ha hb
tm q0t(ha:DE Z X EE a da)(hb:DE Z X EE b db):DE Z X EE (.BinOp a .Mod b pos) (dOp modW da db):=q7f z23 z3n ha hb
tm z3w(ha:DE Z X EE a da)(hb:DE Z X EE b db):DE Z X EE (.BinOp a .Pow b pos) (dOp powW da db):=q7f z24 z3o ha hb
tm y1f(ha:DE Z X EE a da):DE Z X EE (.UnaryOp .USub a pos) (dUn negW da):=z7e z25 z3p ha
tm z7k(ha:DE Z X EE a da)(hb:DE Z X EE b db):DE Z X EE (.Compare a [.Lt] [b] pos) (dOp ltW da db):=q83 y69 y7c ha hb (nomark _)
tm z7l(ha:DE Z X EE a da)(hb:DE Z X EE b db):DE Z X EE (.Compare a [.Gt] [b] pos) (dOp gtW da db):=q83 y7a y7d ha hb (nomark _)
tm q8a(hu:X.A.units+150<cLine)(ha:DE Z X EE a da)(hb:DE Z X EE b db):DE Z X EE (.Compare a [.Eq] [b] pos) (dOp eq2 da db):=q83 (y1e hu) y7g ha hb (nomark _)
tm q5p(ha:DE Z X EE a da)(hb:DE Z X EE b db):DT Z X EE (.Compare a [.Lt] [b] pos) (dTest (dOp ltW da db)):=q4u y69 y7c ha hb (nomark _)
tm q7g(ha:DE Z X EE a da)(hb:DE Z X EE b db):DT Z X EE (.Compare a [.Gt] [b] pos) (dTest (dOp gtW da db)):=q4u y7a y7d ha hb (nomark _)
tm y7h(ha:DE Z X EE a da)(hb:DE Z X EE b db):DT Z X EE (.Compare a [.GtE] [b] pos) (dTest (dOp geW da db)):=q4u z7b z7g ha hb (nomark _)
tm q0v(hu:X.A.units+150<cLine)(ha:DE Z X EE a da)(hb:DE Z X EE b db):DT Z X EE (.Compare a [.Eq] [b] pos) (dTest (dOp eq2 da db)):=q4u (y1e hu) y7g ha hb (nomark _)
tm q97(hu:X.A.units+150<cLine)(ha:DE Z X EE a da)(hb:DE Z X EE b db):DT Z X EE (.Compare a [.NotEq] [b] pos) (dTest (dOp ne2 da db)):=q4u (z3s hu) z7h ha hb (nomark _)
tm z7m(ha:DE Z X EE a da)(hb:DE Z X EE b db):DT Z X EE (.Compare a [.Is] [b] pos) (dTest (dOp isW da db)):=q4u z3t z7j ha hb (nomark _)
tm x17(ha:DE Z X EE a da)(hb:DE Z X EE b db):DT Z X EE (.Compare a [.IsNot] [b] pos) (dTest (dOp nisW da db)):=q4u y8k z3v ha hb (nomark _)
tm q0h{k:Nat}(h:Room k A):A.units+150<cLine:=by #:=h.un;omega
nD cutW(xs:List W)(lo hi:Option Int):List W:=(xs.drop (HT.sIx xs.length 0 lo)).take (HT.sIx xs.length xs.length hi-HT.sIx xs.length 0 lo)
tm Reps.cut{xs:List V}(r:Reps K G ws xs)(lo hi:Option Int):Reps K G (cutW ws lo hi) (cutV xs lo hi):=by
 unfold cutW cutV;rw[r.length];!(r.drop _).take _
nD DO(Z:Zt)(X:Cx)(EE:L2.St->XK)(e:Option Expr)(d:Den (Option Int)):Prop:=PO X e (λσ H Q=>∃G e,Rel X.K Z G σ H e/\(d e).holds (λo e'=>∀G' H',Rel X.K Z G' σ H' e'->Same G G'->Q o H') (XH X.K Z EE σ G))
nD dNoPart:Den (Option Int):=λe=>.ok none e
nD dPart(d:Den W):Den (Option Int):=λe=>(d e).bind λw e1=>match w with
 |.int i=>.ok (some i) e1
 |_=>.no
tm PO.mono{e:Option Expr}{t t':TO}(h:PO X e t)(i:∀σ H Q,t' σ H Q->t σ H Q):PO X e t':=λpins s σ H Q I q=>h pins s σ H Q I (i σ H Q q)
tm q2d:DO Z X EE none dNoPart:=PO.mono y73 λσ H Q ⟨G,e,r,h⟩=>h G H r (.refl _)
tm q1h(h:DE Z X EE e da):DO Z X EE (some e) (dPart da):=by
 rF PO.mono (y74 h) ?_;rintro σ H Q ⟨G,e,rel,h⟩;simp only[dPart,R.holds_bind]at h;rF⟨G,e,rel,h.imp (λx e1 h G1 v1 H1 r1 s1 p1=>?_) λ_ _ h=>h⟩
 cases x with
 |int i=>cases(show v1=V.int i from p1);!⟨i,rfl,h G1 H1 r1 s1⟩
 |_=>!h.elim
nD slW:W->Option Int->Option Int->Option W
 |.lst ws,lo,hi=>some (.lst (cutW ws lo hi))
 |.tup ws,lo,hi=>if ¬(HT.sIx ws.length 0 lo=0/\HT.sIx ws.length ws.length hi=ws.length)then some (.tup (cutW ws lo hi))else none
 |_,_,_=>none
nD tyW:W->Value
 |.non=>.type "NoneType"
 |.bl _=>.type "bool"
 |.int _=>.type "int"
 |.str _=>.type "str"
 |.tup _=>.type "tuple"
 |.lst _=>.type "list"
 |.exc c=>c
 |.dic _=>.type "dict"
 |.dw _ _ _ _=>.type "dict"
nD isiW(K:PySem.W.Frag)(cv:Value):W->Option W
 |.exc (.ref D)=>if excClsIn K D=true then(kitOne K (.ref D) cv).map .bl else none
 |.exc _=>none
 |.dic _=>none
 |.dw _ _ _ _=>none
 |w=>(kitOne K (tyW w) cv).map .bl
tm y8l{pins:List (Addr×Obj)}{w:W}{v:V}{u:Value}{b:Bool}{Q:VK}(I:Inv X pins σ H s)(sg:Same G H)(p:Rep X.K G w v)(r:RelV v u)(h:isiW X.K cv w=some (.bl b))(q:Q (.bl b) H):
  wpAny (model X.prog X.w) X.A (call (.builtin "isinstance") [u,cv]) (EP X pins σ Q) X.xe s:=by
 #fin:∀tk,EP X pins σ Q (.bool b) {s with toks:=tk}:=λtk=>⟨.bl b,H,I.tok _,rfl,q⟩
 #kit:∀{t:Value},(kitOne X.K t cv).map W.bl=some (.bl b)->kitOne X.K t cv=some b:=λz=>by
  ~⟨y,h1,h2⟩:=w0x.mp z;@h2;!h1
 cases w with
 |non=>@p;@r;!kia_one PySem.W.kitx_none I.kIn True.intro (kit h) (λz=>nomatch z) fin
 |bl y=>@p;@r;!kia_one PySem.W.kitx_bool I.kIn True.intro (kit h) (λz=>nomatch z) fin
 |int y=>@p;~⟨t,rfl⟩:=r;!kia_one PySem.W.kitx_int I.kIn True.intro (kit h) (λz=>nomatch z) fin
 |str y=>@p;~⟨t,rfl⟩:=r;!kia_one PySem.W.kitx_str I.kIn True.intro (kit h) (λz=>nomatch z) fin
 |tup ws=>
  ~⟨a,xs,rfl,hq,_⟩:=p;@r;~⟨its,_,⟨o,h1,h2,_⟩,_⟩:=I.tuple (sg.tup hq);!kia_one PySem.W.kitx_tuple I.kIn ⟨o,h1,h2⟩ (kit h) (λz=>nomatch z) fin
 |lst ws=>
  ~⟨a,xs,rfl,hq,_⟩:=p;@r;~⟨its,_,⟨o,n,h1,h2,_⟩,_⟩:=I.list (sg.seq hq);!kia_one PySem.W.kitx_list I.kIn ⟨o,h1,h2⟩ (kit h) (λz=>nomatch z) fin
 |dic c=>simp[isiW]at h
 |dw _ _ _ _=>simp[isiW]at h
 |exc c=>
  ~⟨e,rfl,he⟩:=p;@r;unfold isiW at h;split at h
  ·rename_i D heq;@heq;split at h
   ·rename_i hC;~⟨⟨o,vs,h1,h2,h3⟩,_⟩:=(show ObjOk X.prog X.w H s.heap e (excO e (.ref D))from I.hok e _ (sg _ _ he));!kia_one (y4i (ExcCls.of hC)) I.kIn ⟨o,vs,h1,h2,h3⟩ (kit h) (λz=>nomatch z) fin
   ·@h
  all_goals first|(@h;done)|(rename_i h1 h2 h3 h4 h5;!absurd rfl (h2 c))|(rename_i h1 h2 h3 h4;!absurd rfl (h2 c))|(rename_i h1 h2 h3;!absurd rfl (h2 c))|(rename_i h1 h2;!absurd rfl (h2 c))
nD dIsi(K:PySem.W.Frag)(cv:Value)(d:Den W):Den W:=λe=>(d e).bind λw e1=>match isiW K cv w with
 |some (.bl b)=>.ok (.bl b) e1
 |_=>.no
tm y1g{c:V}(hc:ClsV c cv):CallR X (.builtin "isinstance") (λxs H Q=>∃x G w b,xs=[x,c]/\Same G H/\Rep X.K G w x/\isiW X.K cv w=some (.bl b)/\Q (.bl b) H):=by
 intro pins s σ H xs us Q I r h;~⟨x,G,w,b,rfl,sg,p,hi,q⟩:=h;~⟨u,u2,rfl,rx,rc⟩:=vals2 r
 #ec:u2=cv:=by
  cases c with
  |ty n=>!(show u2=Value.type n from rc).trans (show cv=Value.type n from hc).symm
  |ref a=>!(show u2=Value.ref a from rc).trans (show cv=Value.ref a from hc).symm
  |_=>!hc.elim
 subst ec;!y8l I sg p rx hi q
tm x18{c0:V}(hc:ClsV c0 cv)(hcl:PE X c (tC c0))(hm:X.mg "isinstance"=none)(he:DE Z X EE e da)(hg:Gl X "isinstance":=by rfl)(hs:starEach [e,c] X.env=(false,eval e X.env)::starEach [c] X.env:=by rfl)(hs2:starEach [c] X.env=(false,eval c X.env)::starEach [] X.env:=by rfl)(hpl:(backTo pos (starEach [c] X.env)).any (·.1)=false:=by rfl):
  DE Z X EE (.Call (.Name "isinstance" p) [e,c] [] pos) (dIsi X.K cv da):=by
 rF PE.mono (x1b (y1g hc) hg hm PyProof.Rows.Boot.«isinstance» (q5c he (q5c hcl x1x hs2) hs) (by decide) (by decide) hs hpl) ?_;rintro σ H Q ⟨G,e,rel,h⟩;simp only[dIsi,R.holds_bind]at h;rF⟨G,e,rel,h.imp (λw e1 h G1 v1 H1 r1 s1 p1=>?_) λ_ _ h=>h⟩
 split at h
 ·rename_i b hb;!⟨v1,G1,w,b,rfl,r1.sub,p1,hb,h G1 _ H1 r1 s1 rfl⟩
 ·!h.elim
tm x8e{n:Str}{a:Addr}(hm:X.mg n=some (.ref a))(hg:Gl X n:=by rfl)(hd:(n==("__debug__":Str))=false:=by decide):PE X (.Name n pos) (tC (.ref a)):=q7s (v:=.ref a) hg hm rfl hd
tm x8f{n:Str}(hv:bootBuiltins n=some (.type T))(hm:X.mg n=none)(hg:Gl X n:=by rfl)(hn:n≠"__name__":=by decide)(hd:(n==("__debug__":Str))=false:=by decide):PE X (.Name n pos) (tC (.ty T)):=y7t (v:=.ty T) hg hm hv rfl hn hd
nD tup1:List W->Option W
 |[.lst ws]=>some (.tup ws)
 |[.tup ws]=>some (.tup ws)
 |_=>none
tm z3x:OpN K (λxs H Q=>∃p ys,xs=[.ref p]/\((SqL K H p ys/\∀l,H l=none->Q (.ref l) (upd H l (.tup ys)))\/(SqT K H p ys/\Q (.ref p) H))) tup1:=by
 intro G H xs ws w Q s pr hf h;unfold tup1 at hf;split at hf
 ·@hf;~⟨x,r,rfl,px,pr⟩:=pr;cases(show r=[]from pr);~⟨a,ys,rfl,ha,ra⟩:=px;rF⟨a,ys,rfl,.inl ⟨s.seq ha,λl hl=>?_⟩⟩
  #g:=Grow.laid s hl (.tup ys);!h _ _ _ g ⟨l,ys,rfl,SqT.of q0k,Reps.mono g.gg _ ra⟩
 ·@hf;~⟨x,r,rfl,px,pr⟩:=pr;cases(show r=[]from pr);~⟨a,ys,rfl,ha,ra⟩:=px;!⟨a,ys,rfl,.inr ⟨s.tup ha,h G _ H (.refl s) ⟨a,ys,rfl,ha,ra⟩⟩⟩
 ·@hf
tm q3c(hm:X.mg "tuple"=none)(ha:DA Z X EE [e] dA)(hg:Gl X "tuple":=by rfl)(he:starEach [e] X.env=(false,eval e X.env)::starEach [] X.env:=by rfl)(hpl:(backTo pos (starEach [] X.env)).any (·.1)=false:=by rfl):DE Z X EE (.Call (.Name "tuple" p) [e] [] pos) (dFn tup1 dA):=
 y06 x4u z3x PyProof.Rows.Boot.«tuple» hm ha hg (by decide) (by decide) he hpl
tm q0s(hm:X.mg "len"=none)(ha:DA Z X EE [e] dA)(hg:Gl X "len":=by rfl)(he:starEach [e] X.env=(false,eval e X.env)::starEach [] X.env:=by rfl)(hpl:(backTo pos (starEach [] X.env)).any (·.1)=false:=by rfl):DE Z X EE (.Call (.Name "len" p) [e] [] pos) (dFn len1 dA):=
 x5w x5n y09 PySem.boot_len hm ha hg (by decide) (by decide) he hpl
tm q98(i:Nat)(hm:X.mg "len"=none)(hN:X.N[i]?=some x:=by rfl)(hvis:Vis X.env.scope x:=by walk_at "1")(hd:(x==("__debug__":Str))=false:=by decide)(hcd:(x==("__classdict__":Str))=false:=by decide)
  (hg:Gl X "len":=by rfl)(hs:starEach [.Name x p] X.env=(false,eval (.Name x p) X.env)::starEach [] X.env:=by rfl)(hpl:(backTo pos (starEach [] X.env)).any (·.1)=false:=by rfl):DE Z X EE (.Call (.Name "len" pn) [.Name x p] [] pos) (dFnV i len1):=
 z3q i x5n y09 PySem.boot_len hm hN hvis hd hcd hg (by decide) (by decide) hs hpl
nD lst1:List W->Option (List W)
 |[.lst ws]=>some ws
 |[.tup ws]=>some ws
 |_=>none
nD dList(dA:Den (List W)):Den (List W):=λe=>(dA e).bind λws e1=>ofOpt (lst1 ws) e1
tm y8m(hm:X.mg "list"=none)(ha:DA Z X EE [e] dA)(hg:Gl X "list":=by rfl)(he:starEach [e] X.env=(false,eval e X.env)::starEach [] X.env:=by rfl)(hpl:(backTo pos (starEach [] X.env)).any (·.1)=false:=by rfl):DF Z X EE (.Call (.Name "list" p) [e] [] pos) (dList dA):=by
 rF PE.mono (x3u x5r hg hm PyProof.Rows.Boot.«list» ha (by decide) (by decide) he hpl) ?_;rintro σ H Q ⟨G,e,rel,h⟩;simp only[dList,R.holds_bind,ofOpt_holds]at h;rF⟨G,e,rel,h.imp (λws e1 h G1 vs H1 r1 s1 p1=>?_) λ_ _ h=>h⟩
 ~⟨out,hf,h⟩:=h;unfold lst1 at hf;split at hf
 ·@hf;~⟨y,r,rfl,py,pr⟩:=p1;cases(show r=[]from pr);~⟨a,ys,rfl,hq,rq⟩:=py;!⟨a,ys,rfl,.inl (r1.sub.seq hq),x1d r1 s1 rq h⟩
 ·@hf;~⟨y,r,rfl,py,pr⟩:=p1;cases(show r=[]from pr);~⟨a,ys,rfl,hq,rq⟩:=py;!⟨a,ys,rfl,.inr (r1.sub.tup hq),x1d r1 s1 rq h⟩
 ·@hf
end
section
variable{P:Program}{w:World}{mg:Str->Option Value}{base:Heap}
tm y1h(hF:∀ws,F ws=.no)(h:spF K F vs H Q E):False:=by
 grind [x5y]
tm conF(A:Fun K x x st f fd)(sc:FnScope N ps (defScope st))(len:∀ws,F ws≠.no->ws.length=ps.length)
  (hb:∀ws,F ws≠.no->∀(cdv:Value)(A:Around)(outer:List Env)(s:Shared)(H:Hp)(E:XK)(Z:Zt),Room k (A.deeper (PyProof.Rows.envOfC x (defScope st) s.heap.objs.size f cdv)) ->
   ∃d,DSs Z (cxOf (CX1 P w) P w K mg base N x (defScope st) f cdv A outer s H E) (λ_=>E) (defBody st) d/\(d (init N.length ws)).fn=F ws):FnOk P w K mg base (CX1 P w) (k+1) f fd ps (spF K F):=by
 rF A.okX sc (λvs H Q E h=>?_) (λcdv A outer s H vs Q E hr h=>?_)
 ·grind [x5y,Reps.length]
 ·~⟨G,ws,sg,rp,h⟩:=h;#hn:F ws≠.no:=λz=>by rw[z]at h;!h
  ~⟨d,hd,he⟩:=hb ws hn cdv A outer s H E ⟨H,G,[]⟩ hr;!⟨_,hd,G,init N.length ws,x5x sg rp,x8c he h⟩
nD spLaw(K:PySem.W.Frag):Sp:=λvs H Q _=>∃(a:Addr)(ns:List Int),vs=[.ref a]/\SqL K H a (ns.map V.int)/\ns.length<=63/\∀H',Q (.bl true) H'
tm x35:∀(ns:List Int),Reps K G (ns.map W.int) (ns.map V.int)
 |[]=>rfl
 |n::ns=>⟨_,_,rfl,rfl,x35 ns⟩
tm y4q(hF:∀ns:List Int,ns.length<=63->F [.lst (ns.map .int)]=.ok (.fr (.bl true)))(h:spLaw K vs H Q E):spF K F vs H Q E:=by
 ~⟨a,ns,rfl,hS,hl,q⟩:=h;rF⟨λb=>if b=a then H a else none,[.lst (ns.map .int)],λb o z=>?_,⟨.ref a,[],rfl,⟨a,ns.map V.int,rfl,?_,x35 ns⟩,rfl⟩,?_⟩
 ·grind
 ·rcases hS with(h|⟨o,h⟩)|h
  ·!.inl (.inl (by simpa using h))
  ·!.inl (.inr ⟨o,by simpa using h⟩)
  ·!.inr h
 ·rw[hF ns hl];intro G' H' v g sl;~⟨u,h1,h2⟩:=sl;@h1;cases(show v=V.bl true from h2);!q H'
tm z3y{e:Value}(z:CX1 P w [] H s (λ_ _ _=>False) e s'):False:=by
 ~⟨_,_,_,_,_,_,_,_,_,_,h⟩:=z;!h
tm con0{x:Str}{st:Stmt}{ps:List Str}{F:List W->FR}(A:At K mg x st ps)(hF:∀ws,F ws=.no:=by intro _;rfl):Cal P w K mg base 0 x ps (spF K F):=by
 ~⟨f,fd,F0,m,b⟩:=A.ex;!⟨f,fd,⟨λvs H Q E h=>(y1h hF h).elim,λA outer s H args us vs Q E _ _ _ _ h=>(y1h hF h).elim⟩,m,F0.kp,b⟩
end
nD fmtW:W->Option Str
 |.int i=>if i.natAbs.log2<1000 then some (Str.ofString (toString i))else none
 |.str z=>if z.length<=1000000 then some z else none
 |_=>none
nD fNil:Den Str:=λe=>.ok Str.empty e
nD fTxt(x:Str)(d:Den Str):Den Str:=λe=>(d e).bind λy e1=>.ok (x++y) e1
nD fVal(d:Den W)(r:Den Str):Den Str:=λe=>(d e).bind λw e1=>match fmtW w with
 |some x=>(r e1).bind λy e2=>.ok (x++y) e2
 |none=>.no
nD dFstr(d:Den Str):Den W:=λe=>(d e).bind λx e1=>.ok (.str x) e1
tm q51(x y z:Str):x++(y++z)=(x++y)++z:=by
 show Str.mk _=Str.mk _;congr 1;!(w5g).symm
tm x4v(x):x++Str.empty=x:=by
 show Str.mk _=x
 simp_all [Str.empty]
section
variable{e:Expr}{d:Den Str}{n:Nat}
nD DFm(Z:Zt)(X:Cx)(EE:L2.St->XK)(n:Nat)(es:List Expr)(d:Den Str):Prop:=PF X es (λacc σ H Q=>acc.length+n*1000001<=16777216/\∃G e,Rel X.K Z G σ H e/\(d e).holds (λy e'=>∀G' H',Rel X.K Z G' σ H' e'->Same G G'->Q (acc++y) H') (XH X.K Z EE σ G))
tm PF.mono(h:PF X es t)(i:∀acc σ H Q,t' acc σ H Q->t acc σ H Q):PF X es t':=λacc pins s σ H Q I q=>h acc pins s σ H Q I (i acc σ H Q q)
tm q4w:DFm Z X EE 0 [] fNil:=PF.mono z3g λacc σ H Q ⟨hl,G,e,r,h⟩=>⟨by rw[sizeLine_eq];omega,by
 #z:=h G H r (.refl _)
 rwa [x4v]at z⟩
tm q1o{x:Str}{j pos}(r:DFm Z X EE n es d)(hx:x.length<=1000000:=by decide +kernel):DFm Z X EE (n+1) (.Constant (.str x) j pos::es) (fTxt x d):=by
 rF PF.mono (z3h r) ?_;rintro acc σ H Q ⟨hl,G,e,rel,h⟩;unfold fTxt at h;#e1:(acc++x).length=acc.length+x.length:=PySem.Str.length_append _ _;rF⟨by grind [sizeLine_eq],by omega,G,e,rel,(R.holds_bind.mp h).imp (λy e1 h G1 H1 r1 s1=>?_) λ_ _ h=>h⟩
 #z:=h G1 H1 r1 s1
 rwa [q51]at z
tm y8n(h:fmtW w=some x):x.length<=1000000:=by
 unfold fmtW at h;split at h
 ·split at h
  ·rename_i hl;@h;#:=PySem.int_text_length_le (k:=1000) (by decide) hl
   grind [ofString_length]
  ·@h
 all_goals grind
tm z7n(h:fmtW w=some x)(p:Rep K G w v):FmtV v x:=by
 unfold fmtW at h;split at h
 ·split at h
  ·@h;@p;!⟨by omega,rfl⟩
  ·@h
 ·split at h
  ·@h;@p;!⟨by rw[sizeLine_eq];omega,rfl⟩
  ·@h
 ·@h
tm q2e(he:DE Z X EE e da)(r:DFm Z X EE n es d):DFm Z X EE (n+1) (.FormattedValue e (-1) none pos::es) (fVal da d):=by
 rF PF.mono (z3i he r) ?_;rintro acc σ H Q ⟨hl,G,e,rel,h⟩;simp only[fVal,R.holds_bind]at h;rF⟨G,e,rel,h.imp (λw e1 h G1 v1 H1 r1 s1 p1=>?_) λ_ _ h=>h⟩
 split at h
 ·rename_i x hx;#hx2:=y8n hx;#e1':(acc++x).length=acc.length+x.length:=PySem.Str.length_append _ _;rF⟨x,z7n hx p1,by grind [sizeLine_eq],by omega,G1,e1,r1,(R.holds_bind.mp h).imp (λy e2 h G2 H2 r2 s2=>?_) λ_ _ h=>XH.trans s1 h⟩
  #z:=h G2 H2 r2 (s1.trans s2)
  rwa [q51]at z
 ·!h.elim
tm q3r{rest:List Expr}(h:DFm Z X EE n (v1::v2::rest) d)(hn:n*1000001<=16777216):DE Z X EE (.JoinedStr (v1::v2::rest) pos) (dFstr d):=by
 rF PE.mono (y8b h) ?_;rintro σ H Q ⟨G,e,rel,h⟩;simp only[dFstr,R.holds_bind]at h;rF⟨by show 0+_<=_;omega,G,e,rel,h.imp (λy e1 h G1 H1 r1 s1=>?_) λ_ _ h=>h⟩
 #e0:Str.empty++y=y:=by
  show Str.mk _=y
  simp_all [Str.empty]
 rw[e0];!h G1 _ H1 r1 s1 rfl
end
section
variable{β:Type}{c:Prop} [Decidable c]{a:α}{e':List S}{k:α->List S->R β}{ks:α->List S->SR}{x y:R α}{s t:SR}{w:W}{v:Value}{st:S}
tm y8o:(R.ok a e).bind k=k a e:=rfl
tm y8p:(R.ex v e:R α).bind k=.ex v e:=rfl
tm y8q:(R.no:R α).bind k=.no:=rfl
tm y4r:(if c then x else y).bind k=if c then x.bind k else y.bind k:=by split<;>rfl
tm z3z:(R.ok a e).stm ks=ks a e:=rfl
tm z30:(R.ex v e:R α).stm ks=.ex v e:=rfl
tm z31:(R.no:R α).stm ks=.no:=rfl
tm y8r:(if c then x else y).stm ks=if c then x.stm ks else y.stm ks:=by split<;>rfl
nD SR.seq:SR->(List S->SR)->SR
 |.nx e,b=>b e
 |r,_=>r
tm x55{p:List S->SR}:dSeq p q e=(p e).seq q:=by
 grind [dSeq,SR.seq]
tm z32:(SR.nx e).seq q=q e:=rfl
tm z33:(SR.rt st e).seq q=.rt st e:=rfl
tm z34:(SR.ex v e).seq q=.ex v e:=rfl
tm z35:(SR.bk e).seq q=.bk e:=rfl
tm z36:(SR.ct e).seq q=.ct e:=rfl
tm z37:(SR.no).seq q=.no:=rfl
tm y8s:(if c then s else t).seq q=if c then s.seq q else t.seq q:=by split<;>rfl
tm z7o:(SR.nx e).fn=.ok (.fr .non):=rfl
tm z7p:(SR.rt st e).fn=.ok st:=rfl
tm z7q:(SR.ex v e).fn=.ex v:=rfl
tm z7r:(SR.no).fn=.no:=rfl
tm z38:(if c then s else t).fn=if c then s.fn else t.fn:=by split<;>rfl
tm x9l:ofOpt (some a) e=.ok a e:=rfl
tm x9m:ofOpt (none:Option α) e=.no:=rfl
tm y1i{o p:Option α}:ofOpt (if c then o else p) e=if c then ofOpt o e else ofOpt p e:=by split<;>rfl
nD varS(i:Nat)(e:List S):Option S->R W
 |some (.fr w)=>.ok w e
 |some (.own none ws)=>.ok (.lst ws) (e.set i (.fr (.lst ws)))
 |_=>.no
tm z39:dVar i e=varS i e e[i]?:=by
 grind [dVar,varS]
tm z4a:varS i e (some (.fr w))=.ok w e:=rfl
tm y8t:varS i e (some (.own none ws))=.ok (.lst ws) (e.set i (.fr (.lst ws))):=rfl
tm dC_s:dC w e=.ok w e:=rfl
tm z7s{f:W->W->Option W}:dOp f da db e=(da e).bind λx e1=>(db e1).bind λy e2=>ofOpt (f x y) e2:=rfl
tm z7t{f:W->Option W}:dUn f da e=(da e).bind λx e1=>ofOpt (f x) e1:=rfl
nD testW(e:List S):W->R Bool
 |.bl k=>.ok k e
 |_=>.no
tm y8u:dTest da e=(da e).bind λx e1=>testW e1 x:=rfl
tm y8v{b:Bool}:testW e (.bl b)=.ok b e:=rfl
tm z4b:dTru da e=(da e).bind λx e1=>ofOpt (truW x) e1:=rfl
tm z4c{p q:Den Bool}:dAnd p q e=(p e).bind λx e1=>if x=true then q e1 else .ok false e1:=rfl
tm z7u{p q:Den Bool}:dOr p q e=(p e).bind λx e1=>if x=true then .ok true e1 else q e1:=rfl
tm z4d{p:Den Bool}:dNot p e=(p e).bind λx e1=>.ok (!x) e1:=rfl
nD andK(q:Den W)(e:List S):W->R W
 |.bl true=>q e
 |.bl false=>.ok (.bl false) e
 |_=>.no
tm y8w{p q:Den W}:dAndV p q e=(p e).bind λx e1=>andK q e1 x:=rfl
tm z4e{q:Den W}{b:Bool}:andK q e (.bl b)=if b=true then q e else .ok (.bl false) e:=by @b<;>rfl
nD orK(q:Den W)(e:List S):W->R W
 |.bl true=>.ok (.bl true) e
 |.bl false=>q e
 |_=>.no
tm z4f{p q:Den W}:dOrV p q e=(p e).bind λx e1=>orK q e1 x:=rfl
tm z7v{q:Den W}{b:Bool}:orK q e (.bl b)=if b=true then .ok (.bl true) e else q e:=by @b<;>rfl
tm z7w{p:Den Bool}{q q':Den W}:dIf p q q' e=(p e).bind λx e1=>if x=true then q e1 else q' e1:=rfl
tm z4g:dNil e=.ok [] e:=rfl
tm y8x{p:Den W}{q:Den (List W)}:dCons p q e=(p e).bind λx e1=>(q e1).bind λxs e2=>.ok (x::xs) e2:=rfl
tm z4h{p:Den (List W)}:dTup p e=(p e).bind λxs e1=>if xs.length<=16777216 then .ok (.tup xs) e1 else .no:=rfl
tm z4i{p:Den (List W)}:dLst p e=(p e).bind λxs e1=>if xs.length<=16777216 then .ok xs e1 else .no:=rfl
tm z7x{p:Den (List W)}:dFz p e=(p e).bind λxs e1=>.ok (.lst xs) e1:=rfl
tm z7y{f:List W->Option W}{p:Den (List W)}:dFn f p e=(p e).bind λxs e1=>ofOpt (f xs) e1:=rfl
tm y8y{p:Den (List W)}:dList p e=(p e).bind λxs e1=>ofOpt (lst1 xs) e1:=rfl
tm z7z:dNx e=.nx e:=rfl
tm y8z{d:Den W}:dDrop d e=(d e).stm λ_ e'=>.nx e':=rfl
tm z4j{d:Den W}:dRet d e=(d e).stm λw e'=>.rt (.fr w) e':=rfl
tm y80{d:Den (List W)}:dRetF d e=(d e).stm λw e'=>.rt (.own none w) e':=rfl
nD retS(e:List S):Option S->SR
 |some (.own none ws)=>.rt (.own none ws) e
 |some (.fr w)=>.rt (.fr w) e
 |_=>.no
tm y81:dRetO i e=retS e e[i]?:=by
 grind [dRetO,retS]
tm y82:retS e (some (.own none ws))=.rt (.own none ws) e:=rfl
tm z4k:retS e (some (.fr w))=.rt (.fr w) e:=rfl
tm z4l{p:Den Bool}{q':List S->SR}:dIfS p q q' e=(p e).stm λx e1=>if x=true then q e1 else q' e1:=rfl
tm x56{d:Den W}:dSet i d e=(d e).stm λw e'=>.nx (e'.set i (.fr w)):=rfl
tm y83{d:Den (List W)}:dSetO i d e=(d e).stm λw e'=>.nx (e'.set i (.own none w)):=rfl
nD callR(e:List S):FR->R W
 |.ok (.fr w)=>.ok w e
 |.ok (.own none ws)=>.ok (.lst ws) e
 |.ok (.dic kvs)=>.ok (.dic kvs) e
 |.ex c=>.ex c e
 |_=>.no
tm y4s{kvs:Dd}:callR e (.ok (.dic kvs))=.ok (.dic kvs) e:=rfl
tm y84{F:List W->FR}{d:Den (List W)}:dCall F d e=(d e).bind λws e1=>callR e1 (F ws):=by
 unfold dCall;congr 1
tm y85:callR e (.ok (.fr w))=.ok w e:=rfl
tm y4t:callR e (.ok (.own none ws))=.ok (.lst ws) e:=rfl
tm y86:callR e (.ex v)=.ex v e:=rfl
tm y87:callR e .no=.no:=rfl
tm y4u{f g:FR}:callR e (if c then f else g)=if c then callR e f else callR e g:=by split<;>rfl
nD callF(e:List S):FR->R (List W)
 |.ok (.own none ws)=>.ok ws e
 |.ex c=>.ex c e
 |_=>.no
tm y1j:callF e (.ok (.own none ws))=.ok ws e:=rfl
tm y4v:callF e (.ex v)=.ex v e:=rfl
tm y1k{f g:FR}:callF e (if c then f else g)=if c then callF e f else callF e g:=by split<;>rfl
nD forW(i:Nat)(b:List S->SR)(e:List S):Option (List W)->SR
 |some ws=>forD i b ws e
 |none=>.no
tm z4m{d:Den W}{b:List S->SR}:dFor i d b e=(d e).stm λw e1=>forW i b e1 (seqW w):=by
 unfold dFor;congr 1
tm y88{g:List W->Option (List W)}{d:Den (List W)}{b:List S->SR}:dForR i g d b e=(d e).stm λw e1=>forW i b e1 (g w):=by
 unfold dForR;congr 1
tm y1l{b:List S->SR}:forW i b e (some ws)=forD i b ws e:=rfl
nD SR.turn:SR->(List S->SR)->SR
 |.nx e,k=>k e
 |.ct e,k=>k e
 |.bk e,_=>.nx e
 |.rt s e,_=>.rt s e
 |.ex c e,_=>.ex c e
 |.no,_=>.no
tm x57{b:List S->SR}:forD i b (w::ws) e=(b (e.set i (.fr w))).turn (forD i b ws):=by
 show(match b (e.set i (.fr w))with|.nx e'=>forD i b ws e'|.ct e'=>forD i b ws e'|.bk e'=>.nx e'|.rt s e'=>.rt s e'|.ex c e'=>.ex c e'|.no=>.no)=_;cases b (e.set i (.fr w))<;>rfl
tm x28:(SR.nx e).turn q=q e:=rfl
tm y89:(SR.ct e).turn q=q e:=rfl
tm y9a:(SR.bk e).turn q=.nx e:=rfl
tm y9b:(SR.rt st e).turn q=.rt st e:=rfl
tm y9c:(SR.ex v e).turn q=.ex v e:=rfl
tm y9d:(SR.no).turn q=.no:=rfl
tm y4w:(if c then s else t).turn q=if c then s.turn q else t.turn q:=by split<;>rfl
tm q99{p:Den Bool}{b:List S->SR}{n:Nat}:whileD p b (n+1) e=(p e).stm λx e1=>if x=true then(b e1).turn (whileD p b n)else .nx e1:=by
 show(p e).stm _=_;congr 1;funext x e1
 split
 ·cases b e1<;>rfl
 ·rfl
nD look1(k:W->R W):Option W->R W
 |none=>.no
 |some w=>k w
tm z4n{d:Den W}:dIxV i d e=look1 (λ_=>(d e).bind λk e1=>look1 (λw=>ofOpt (ixW w k) e1) (e1[i]?.bind S.look)) (e[i]?.bind S.look):=by
 grind [dIxV,look1]
tm y1m{k:W->R W}:look1 k (some w)=k w:=rfl
tm z70:S.look (.fr w)=some w:=rfl
tm z4o{b:Option Nat}:S.look (.own b ws)=some (.lst ws):=rfl
nD fnV2(e:List S)(y:Option W):Option S->R W
 |some (.fr _)=>ofOpt y e
 |_=>match y with
  |none=>.no
  |some v=>if scalW v=true then .ok v e else .no
tm z4p{f:List W->Option W}:dFnV i f e=look1 (λw=>fnV2 e (f [w]) e[i]?) (e[i]?.bind S.look):=by
 unfold dFnV look1;cases q:e[i]? with
 |none=>rfl
 |some s=>
  cases s with
  |no=>rfl
  |dic _=>rfl
  |dw _ _ _=>rfl
  |fr w=>
   show(match f [w]with|none=>R.no|some v=>R.ok v e)=fnV2 e (f [w]) (some (.fr w));generalize f [w]=y;@y<;>rfl
  |own b ws=>
   grind [fnV2]
tm z4q{y:Option W}:fnV2 e y (some (.fr w))=ofOpt y e:=rfl
tm y9e{b:Option Nat}{v:W}:fnV2 e (some v) (some (.own b ws))=if scalW v=true then .ok v e else .no:=rfl
nD appK(i:Nat)(e:List S):List W->Option S->SR
 |[w],some (.own b xs)=>if xs.length<16777216 then .nx (e.set i (.own b (xs++[w])))else .no
 |_,_=>.no
nD ownQ(k:SR):Option S->SR
 |some (.own _ _)=>k
 |_=>.no
tm z4r{d:Den (List W)}:dApp i d e=ownQ ((d e).stm λws e1=>appK i e1 ws e1[i]?) e[i]?:=by
 unfold dApp ownQ;cases e[i]? with
 |none=>rfl
 |some s=>cases s with
  |own b xs=>
   dsimp only;try congr 1
  |_=>rfl
tm z71{k:SR}{b:Option Nat}:ownQ k (some (.own b ws))=k:=rfl
tm z72{b:Option Nat}{xs:List W}:appK i e [w] (some (.own b xs))=if xs.length<16777216 then .nx (e.set i (.own b (xs++[w])))else .no:=rfl
nD popK(i:Nat)(e:List S)(b:Option Nat)(ws:List W):Option W->R W
 |some w=>.ok w (e.set i (.own b ws.dropLast))
 |none=>.no
nD popS(i:Nat)(e:List S):Option S->R W
 |some (.own b ws)=>popK i e b ws ws[ws.length-1]?
 |_=>.no
tm z4s:dPop i e=popS i e e[i]?:=by
 grind [dPop,popS,popK]
tm y9f{b:Option Nat}:popS i e (some (.own b (ws++[w])))=.ok w (e.set i (.own b ws)):=by
 show popK i e b (ws++[w]) (ws++[w])[(ws++[w]).length-1]?=_;#:(ws++[w])[(ws++[w]).length-1]?=some w:=by simp
 rw[this];show R.ok w (e.set i (.own b (ws++[w]).dropLast))=_
 grind
tm y4x{C:Addr}{d:Den (List W)}:dRaise C d e=(d e).stm λws e1=>if ws.length<=16777216 then .ex (.ref C) e1 else .no:=rfl
tm y1n:dNoPart e=.ok none e:=rfl
nD partK(e:List S):W->R (Option Int)
 |.int i=>.ok (some i) e
 |_=>.no
tm y9g{d:Den W}:dPart d e=(d e).bind λw e1=>partK e1 w:=rfl
tm y4y{i:Int}:partK e (.int i)=.ok (some i) e:=rfl
nD isiK(e:List S):Option W->R W
 |some (.bl b)=>.ok (.bl b) e
 |_=>.no
tm z4t{d:Den W}:dIsi K cv d e=(d e).bind λw e1=>isiK e1 (isiW K cv w):=by
 unfold dIsi;congr 1
tm z4u{b:Bool}:isiK e (some (.bl b))=.ok (.bl b) e:=rfl
tm y9h{b:Str}{k:Bool}(h:kitOne K (.type "str") cv=some k):isiW K cv (.str b)=some (.bl k):=by show(kitOne K (.type "str") cv).map W.bl=_;rw[h];rfl
tm q7x{D:Addr}{k:Bool}(hc:excClsIn K D=true)(h:kitOne K (.ref D) cv=some k):isiW K cv (.exc (.ref D))=some (.bl k):=by show(if excClsIn K D=true then _ else _)=_;rw[if_pos hc,h];rfl
nD compR(e:List S):Option (List W)->R (List W)
 |some out=>.ok out e
 |none=>.no
tm y9i{d:Den W}:compK js cc d ws e=if ws.length<=16777216 then compR (frzs js e) (compD cc d (pjS js (frzs js e)) ws)else .no:=by
 grind [compK,compR]
nD compW(js:List Nat)(cc:Den Bool)(d:Den W)(e:List S):Option (List W)->R (List W)
 |some ws=>compK js cc d ws e
 |none=>.no
tm y9j{di:Den W}{d:Den W}:dComp js di cc d e=(di e).bind λw e1=>compW js cc d e1 (seqW w):=by
 unfold dComp;congr 1
tm y4z{g:List W->Option (List W)}{di:Den (List W)}{d:Den W}:dCompR g js di cc d e=(di e).bind λw e1=>compW js cc d e1 (g w):=by
 unfold dCompR;congr 1
tm x9n{d:Den W}:compW js cc d e (some ws)=compK js cc d ws e:=rfl
tm x9o{out:List W}:compR e (some out)=.ok out e:=rfl
tm y1o:dYes e=.ok true e:=rfl
tm y40:frzs [] e=e:=rfl
tm y1p{j:Nat}:frzs (j::js) e=frzs js (frz1 e j):=rfl
tm y9k:pjS [] e=[]:=rfl
tm y41{j:Nat}:pjS (j::js) e=pj1 e j::pjS js e:=rfl
tm x58{d:Den W}{pe:List S}{g:W->W}:∀(ws:List W),(∀w∈ws,∃e',d (.fr w::pe)=.ok (g w) e')->compD dYes d pe ws=some (ws.map g)
 |[],_=>rfl
 |w::ws,h=>by
  ~⟨e',he⟩:=h w (by simp);show(match d (.fr w::pe)with|.ok y _=>(compD dYes d pe ws).map (y::·)|_=>none)=_;rw[he,x58 ws λu hu=>h u (by simp[hu])]
  rfl
tm q88{d:Den W}{pe:List S}:compD cc d pe (w::ws)=(match cc (.fr w::pe)with
  |.ok true e1=>(match d e1 with|.ok y _=>(compD cc d pe ws).map (y::·)|_=>none)
  |.ok false _=>compD cc d pe ws
  |_=>none):=rfl
end
section
variable{i j:Int}{x y:Str}{b c:Bool}{us:List W}{w:W}
tm z4v:addW (.int i) (.int j)=some (.int (i+j)):=rfl
tm z4w:addW (.str x) (.str y)=if x.length+y.length<=16777216 then some (.str (x++y))else none:=rfl
tm z4x:addW (.lst ws) (.lst us)=if ws.length+us.length<=16777216 then some (.lst (ws++us))else none:=rfl
tm z4y:subW (.int i) (.int j)=some (.int (i-j)):=rfl
tm z4z:mulW (.int i) (.int j)=if(-18446744073709551616<i/\i<18446744073709551616)\/(-18446744073709551616<j/\j<18446744073709551616)then some (.int (i*j))else none:=rfl
tm y9l:fdivW (.int i) (.int j)=if 0<j/\j<1073741824 then some (.int (i / j))else none:=rfl
tm z40:modW (.int i) (.int j)=if 0<j then some (.int (i%j))else none:=rfl
tm z41:powW (.int i) (.int j)=if 0<=j/\j<=1000000/\-18446744073709551616<i/\i<18446744073709551616 then some (.int (i^j.toNat))else none:=by
 show(if 0<=j/\j<=1000000/\i.natAbs<2^64 then _ else _)=_
 grind
tm z73:ltW (.int i) (.int j)=some (.bl (decide (i<j))):=rfl
tm z74:gtW (.int i) (.int j)=some (.bl (decide (j<i))):=rfl
tm z75:geW (.int i) (.int j)=some (.bl (decide (j<=i))):=rfl
tm z76:negW (.int i)=some (.int (-i)):=rfl
tm z77:eq2 (.int i) (.int j)=some (.bl (decide (i=j))):=by
 show some (W.bl (i==j))=_;congr 2
tm z78:eq2 (.str x) (.str y)=some (.bl (decide (x=y))):=by
 show some (W.bl (x==y))=_;congr 2
tm z79:eq2 (.bl b) (.bl c)=some (.bl (decide (b=c))):=by
 show some (W.bl (b==c))=_;congr 2
tm z8a:ne2 (.int i) (.int j)=some (.bl (!decide (i=j))):=by
 show some (W.bl (!(i==j)))=_;congr 2
tm y7i:ne2 (.str x) (.str y)=some (.bl (!decide (x=y))):=by
 show some (W.bl (!(x==y)))=_;congr 2
tm z8b:ne2 (.bl b) (.bl c)=some (.bl (!decide (b=c))):=by
 show some (W.bl (!(b==c)))=_;congr 2
tm z8c:isW (.bl b) (.bl c)=some (.bl (decide (b=c))):=by
 show some (W.bl (b==c))=_;congr 2
tm z8d:isW .non .non=some (.bl true):=rfl
tm z8e:isW (.bl b) .non=some (.bl false):=rfl
tm z8f:isW (.int i) .non=some (.bl false):=rfl
tm z8g:isW (.str x) .non=some (.bl false):=rfl
tm z8h:isW (.tup ws) .non=some (.bl false):=rfl
tm z8i:isW (.lst ws) .non=some (.bl false):=rfl
tm z42:nisW (.bl b) (.bl c)=some (.bl (!decide (b=c))):=by
 show some (W.bl (!(b==c)))=_;congr 2
tm z43:nisW .non .non=some (.bl false):=rfl
tm z44:nisW (.bl b) .non=some (.bl true):=rfl
tm z45:nisW (.int i) .non=some (.bl true):=rfl
tm z46:nisW (.str x) .non=some (.bl true):=rfl
tm z47:nisW (.tup ws) .non=some (.bl true):=rfl
tm z48:nisW (.lst ws) .non=some (.bl true):=rfl
tm ix_t:ixW (.tup ws) (.int i)=atI ws i:=rfl
tm ix_l:ixW (.lst ws) (.int i)=atI ws i:=rfl
tm z8j:len1 [.tup ws]=some (.int ws.length):=rfl
tm z8k:len1 [.lst ws]=some (.int ws.length):=rfl
tm y7j:len1 [.str x]=if x.length<=16777216 then some (.int x.length)else none:=rfl
tm z8l:tup1 [.lst ws]=some (.tup ws):=rfl
tm z8m:tup1 [.tup ws]=some (.tup ws):=rfl
tm z8n:lst1 [.lst ws]=some ws:=rfl
tm z8o:lst1 [.tup ws]=some ws:=rfl
tm z8p:truW (.bl b)=some b:=rfl
tm z8q:truW (.int i)=some (i != 0):=rfl
tm z8r:truW .non=some false:=rfl
tm z8s:truW (.tup ws)=some (!ws.isEmpty):=rfl
tm z8t:truW (.lst ws)=some (!ws.isEmpty):=rfl
tm z8u:seqW (.tup ws)=some ws:=rfl
tm z8v:seqW (.lst ws)=some ws:=rfl
tm sc_i:scalW (.int i)=true:=rfl
tm sc_b:scalW (.bl b)=true:=rfl
tm sc_s:scalW (.str x)=true:=rfl
tm sc_n:scalW .non=true:=rfl
tm sl_l{lo hi:Option Int}:slW (.lst ws) lo hi=some (.lst (cutW ws lo hi)):=rfl
tm at0{xs:List α}:atI xs 0=xs[0]?:=by
 cases xs with
 |nil=>rfl
 |cons a l=>!q4j (j:=0) rfl
tm at1{xs:List α}:atI xs 1=xs[1]?:=by
 cases xs with
 |nil=>rfl
 |cons a l=>
  cases l with
  |nil=>rfl
  |cons b l=>!q4j (j:=1) rfl
tm at2{xs:List α}:atI xs 2=xs[2]?:=by
 cases xs with
 |nil=>rfl
 |cons a l=>
  cases l with
  |nil=>rfl
  |cons b l=>
   cases l with
   |nil=>rfl
   |cons c l=>!q4j (j:=2) rfl
tm x59{xs:List α}{k:Int}(h0:0<=k):atI xs k=xs[k.toNat]?:=by
 unfold atI ixN
 grind
tm x6a{a b:String}(h:Str.ofString a=Str.ofString b):a=b:=by
 rw[Str.ofString_eq_toList,Str.ofString_eq_toList]at h;#h1:(a.toList.map Char.toNat).toArray=(b.toList.map Char.toNat).toArray:=congrArg Str.cps h;#h2:a.toList.map Char.toNat=b.toList.map Char.toNat:=by simpa using congrArg Array.toList h1
 #h3:a.toList=b.toList:=by
  #inj:∀c d:Char,c.toNat=d.toNat->c=d:=λc d e=>by
   apply Char.ext;!UInt32.toNat_inj.mp e
  !(List.map_inj_right inj).mp h2
 !String.toList_inj.mp h3
tm q4x{a b:String}:(Str.ofString a=Str.ofString b)=(a=b):=propext ⟨x6a,λh=>by rw[h]⟩
end
nD tuprevW:W->Option W
 |.lst ws=>some (.tup ws.reverse)
 |_=>none
nD boolsW:List W->Option (List Bool)
 |[]=>some []
 |.bl b::ws=>(boolsW ws).map (b::·)
 |_=>none
nD all1:List W->Option W
 |[.lst ws]=>(boolsW ws).map λbs=>.bl (bs.all id)
 |_=>none
nD max2:List W->Option W
 |[.int i,.int j]=>some (.int (if j>i then j else i))
 |_=>none
nD int1:List W->Option W
 |[.int i]=>some (.int i)
 |[.bl b]=>some (.int (if b then 1 else 0))
 |_=>none
nD eqS(y x:W):Bool:=(eqW y x).getD false
nD inW:W->W->Option W
 |x,.tup ws=>if scalW x=true/\ws.all scalW=true then some (.bl (ws.any λy=>eqS y x))else none
 |x,.lst ws=>if scalW x=true/\ws.all scalW=true then some (.bl (ws.any λy=>eqS y x))else none
 |_,_=>none
nD ninW:W->W->Option W
 |x,.tup ws=>if scalW x=true/\ws.all scalW=true then some (.bl (!ws.any λy=>eqS y x))else none
 |x,.lst ws=>if scalW x=true/\ws.all scalW=true then some (.bl (!ws.any λy=>eqS y x))else none
 |_,_=>none
tm q5x(h:scalW w=true)(p:Rep K G w v):flatV v=true:=by
 cases w with
 |non=>@p;rfl
 |bl b=>@p;rfl
 |int b=>@p;rfl
 |str b=>@p;rfl
 |_=>@h
tm y9m(h:scalW w=true)(h':scalW u=true)(p:Rep K G w v)(q:Rep K G u x):eqV v x=eqS w u:=by
 @w<;>@u<;>first|(@p;@q;rfl)|!absurd (show false=true from h') w1j|!absurd (show false=true from h) w1j
tm q6y{u:W}{x:V}(hu:scalW u=true)(q:Rep K G u x):∀{ws:List W}{xs:List V},ws.all scalW=true->Reps K G ws xs->xs.all flatV=true/\inV x xs=ws.any λy=>eqS y u
 |[],xs,_,r=>by @r;!⟨rfl,rfl⟩
 |w::ws,xs,h,r=>by
  ~⟨y,r',rfl,p,r⟩:=r;rw[w2p,w0l]at h;~⟨i1,i2⟩:=q6y hu q h.2 r;rF⟨by rw[w2p,q5x h.1 p,i1];rfl,?_⟩;show(eqV y x||inV x r')=(eqS w u||ws.any _);rw[y9m h.1 hu p q,i2]
tm y7k:Op2 K (rIn K false) inW:=by
 intro G H x y wx wy w Q s px py hf h;cases wy with
 |tup ws=>
  simp only[inW]at hf;split at hf
  ·rename_i hc;@hf;~⟨a,xs,rfl,ha,ra⟩:=py;~⟨i1,i2⟩:=q6y hc.1 px hc.2 ra;rF⟨a,xs,rfl,.inr (s.tup ha),q5x hc.1 px,i1,?_⟩;rw[i2];!h G _ H (.refl s) rfl
  ·@hf
 |lst ws=>
  simp only[inW]at hf;split at hf
  ·rename_i hc;@hf;~⟨a,xs,rfl,ha,ra⟩:=py;~⟨i1,i2⟩:=q6y hc.1 px hc.2 ra;rF⟨a,xs,rfl,.inl (s.seq ha),q5x hc.1 px,i1,?_⟩;rw[i2];!h G _ H (.refl s) rfl
  ·@hf
 |_=>simp[inW]at hf
tm z49:Op2 K (rIn K true) ninW:=by
 intro G H x y wx wy w Q s px py hf h;cases wy with
 |tup ws=>
  simp only[ninW]at hf;split at hf
  ·rename_i hc;@hf;~⟨a,xs,rfl,ha,ra⟩:=py;~⟨i1,i2⟩:=q6y hc.1 px hc.2 ra;rF⟨a,xs,rfl,.inr (s.tup ha),q5x hc.1 px,i1,?_⟩;rw[i2];!h G _ H (.refl s) rfl
  ·@hf
 |lst ws=>
  simp only[ninW]at hf;split at hf
  ·rename_i hc;@hf;~⟨a,xs,rfl,ha,ra⟩:=py;~⟨i1,i2⟩:=q6y hc.1 px hc.2 ra;rF⟨a,xs,rfl,.inl (s.seq ha),q5x hc.1 px,i1,?_⟩;rw[i2];!h G _ H (.refl s) rfl
  ·@hf
 |_=>simp[ninW]at hf
tm x19:∀{ws:List W}{bs:List Bool},boolsW ws=some bs->ws=bs.map .bl
 |[],bs,h=>by @h;rfl
 |.bl b::ws,bs,h=>by
  ~⟨cs,h1,rfl⟩:=w0x.mp (show(boolsW ws).map (b::·)=some bs from h);rw[x19 h1];rfl
 |.non::ws,bs,h=>by @h
 |.int _::ws,bs,h=>by @h
 |.str _::ws,bs,h=>by @h
 |.tup _::ws,bs,h=>by @h
 |.lst _::ws,bs,h=>by @h
 |.exc _::ws,bs,h=>by @h
tm x36:∀(bs:List Bool),boolsW (bs.map .bl)=some bs
 |[]=>rfl
 |b::bs=>by
  show(boolsW (bs.map W.bl)).map (b::·)=_;rw[x36 bs];rfl
tm x2a:∀{bs:List Bool}{xs:List V},Reps K G (bs.map W.bl) xs->xs=bs.map V.bl
 |[],xs,h=>h
 |b::bs,xs,h=>by
  ~⟨x,r,rfl,h1,h2⟩:=h;rw[x2a h2,show x=V.bl b from h1];rfl
tm z5a:OpN K (λxs H Q=>∃p ys,xs=[.ref p]/\SqL K H p ys/\(∀y∈ys,∃b,y=.bl b)/\Q (.bl (ys.all λy=>decide (y=.bl true))) H) all1:=by
 intro G H xs ws w Q s pr hf h;unfold all1 at hf;split at hf
 ·~⟨bs,hb,rfl⟩:=w0x.mp hf;#:=x19 hb;subst this;~⟨x,r,rfl,px,pr⟩:=pr;cases(show r=[]from pr);~⟨a,ys,rfl,ha,ra⟩:=px;#:=x2a ra;subst this;rF⟨a,_,rfl,s.seq ha,λy hy=>?_,h G _ H (.refl s) ?_⟩
  ·grind
  ·show V.bl _=V.bl _
   grind [List.all_map]
 ·@hf
tm z5b:OpN K (λxs H Q=>∃i j,xs=[.int i,.int j]/\Q (.int (if j>i then j else i)) H) max2:=by
 intro G H xs ws w Q s pr hf h;unfold max2 at hf;split at hf
 ·@hf;~⟨x,r,rfl,px,y,r2,rfl,py,pr⟩:=pr;cases(show r2=[]from pr);@px;@py;!⟨_,_,rfl,h G _ H (.refl s) rfl⟩
 ·@hf
tm z5c:OpN K (λxs H Q=>(∃i,xs=[.int i]/\Q (.int i) H)\/∃k,xs=[.bl k]/\Q (.int (if k then 1 else 0)) H) int1:=by
 intro G H xs ws w Q s pr hf h;unfold int1 at hf;split at hf
 ·@hf;~⟨x,r,rfl,px,pr⟩:=pr;cases(show r=[]from pr);@px;!.inl ⟨_,rfl,h G _ H (.refl s) rfl⟩
 ·@hf;~⟨x,r,rfl,px,pr⟩:=pr;cases(show r=[]from pr);@px;!.inr ⟨_,rfl,h G _ H (.refl s) rfl⟩
 ·@hf
section
variable{a b c e:Expr}{p pos1 pos2:Pos}{x:Str}
tm x9p(hu:X.A.units+150<cLine)(ha:DE Z X EE a da)(hb:DE Z X EE b db)(hm:behindInMarks .In b=false:=by with_unfolding_all rfl):DE Z X EE (.Compare a [.In] [b] pos) (dOp inW da db):=q83 x3v y7k ha hb hm
tm x0a(hu:X.A.units+150<cLine)(ha:DE Z X EE a da)(hb:DE Z X EE b db)(hm:behindInMarks .In b=false:=by with_unfolding_all rfl):DT Z X EE (.Compare a [.In] [b] pos) (dTest (dOp inW da db)):=q4u x3v y7k ha hb hm
tm y1q(hu:X.A.units+150<cLine)(ha:DE Z X EE a da)(hb:DE Z X EE b db)(hm:behindInMarks .NotIn b=false:=by with_unfolding_all rfl):DT Z X EE (.Compare a [.NotIn] [b] pos) (dTest (dOp ninW da db)):=q4u x5q z49 ha hb hm
tm z5d(hc:X.calm=true)(hm:X.mg "all"=none)(ha:DA Z X EE [e] dA)(hg:Gl X "all":=by rfl)(he:starEach [e] X.env=(false,eval e X.env)::starEach [] X.env:=by rfl)(hpl:(backTo pos (starEach [] X.env)).any (·.1)=false:=by rfl):DE Z X EE (.Call (.Name "all" p) [e] [] pos) (dFn all1 dA):=
 x5w (y4g hc) z5a PyProof.Rows.Boot.«all» hm ha hg (by decide) (by decide) he hpl
tm y9n(hc:X.calm=true)(hm:X.mg "max"=none)(ha:DA Z X EE [a,b] dA)(hg:Gl X "max":=by rfl)(he:starEach [a,b] X.env=(false,eval a X.env)::starEach [b] X.env:=by rfl)(hpl:(backTo pos (starEach [b] X.env)).any (·.1)=false:=by rfl):DE Z X EE (.Call (.Name "max" p) [a,b] [] pos) (dFn max2 dA):=
 x5w (y0t hc) z5b PyProof.Rows.Boot.«max» hm ha hg (by decide) (by decide) he hpl
tm x29(hm:X.mg "int"=none)(ha:DA Z X EE [e] dA)(hg:Gl X "int":=by rfl)(he:starEach [e] X.env=(false,eval e X.env)::starEach [] X.env:=by rfl)(hpl:(backTo pos (starEach [] X.env)).any (·.1)=false:=by rfl):DE Z X EE (.Call (.Name "int" p) [e] [] pos) (dFn int1 dA):=
 y06 y0u z5c PyProof.Rows.Boot.«int» hm ha hg (by decide) (by decide) he hpl
end
tm y42:tuprevW (.lst ws)=some (.tup ws.reverse):=rfl
tm z8w{bs:List Bool}:all1 [.lst (bs.map .bl)]=some (.bl (bs.all id)):=by
 show(boolsW (bs.map W.bl)).map _=_;rw[x36];rfl
tm z5e{i:Int}:max2 [.int i,.int j]=some (.int (if j>i then j else i)):=rfl
tm z8x{i:Int}:int1 [.int i]=some (.int i):=rfl
tm z8y:int1 [.bl b]=some (.int (if b then 1 else 0)):=rfl
tm cast0:((0:Nat):Int)=0:=rfl
tm cast1:((1:Nat):Int)=1:=rfl
tm z5f:fNil e=.ok Str.empty e:=rfl
tm z5g:fTxt x d e=(d e).bind λy e1=>.ok (x++y) e1:=rfl
nD fmtK(r:Den Str)(e:List S):Option Str->R Str
 |some x=>(r e).bind λy e2=>.ok (x++y) e2
 |none=>.no
tm z5h:fVal d r e=(d e).bind λw e1=>fmtK r e1 (fmtW w):=by
 unfold fVal;congr 1
tm y1r:fmtK r e (some x)=(r e).bind λy e2=>.ok (x++y) e2:=rfl
tm y9o:dFstr d e=(d e).bind λx e1=>.ok (.str x) e1:=rfl
tm y1s{b:List S->SR}(I:Nat->List S->Prop):∀(ws:List W)(k:Nat)(e:List S),I k e->(∀(j:Nat)(w:W)(e:List S),ws[j]?=some w->I (k+j) e->∃e',b (e.set i (.fr w))=.nx e'/\I (k+j+1) e')->∃e',forD i b ws e=.nx e'/\I (k+ws.length) e'
 |[],k,e,h0,_=>⟨e,rfl,h0⟩
 |w::ws,k,e,h0,h=>by
  ~⟨e1,h1,h2⟩:=h 0 w e rfl h0
  ~⟨e2,h3,h4⟩:=y1s I ws (k+1) e1 h2 λj u e hu hI=>by
   #z:=h (j+1) u e (by simpa using hu) (by grind);rw[show k+(j+1)+1=k+1+j+1 by omega]at z;!z
  grind [x57,x28]
tm q4l:(rangeW lo hi).length=(hi-lo).toNat:=by simp[rangeW]
tm y1t(h:(rangeW lo hi)[j]?=some w):w=.int (lo+j)/\j<(hi-lo).toNat:=by
 grind [rangeW]
tm q4y(n)(hn:(hi-lo).toNat=n)(I:Nat->List S->Prop)(e)(h0:I 0 e)(h:∀(j:Nat)(e:List S),j<n->I j e->∃e',b (e.set i (.fr (.int (lo+j))))=.nx e'/\I (j+1) e'):∃e',forD i b (rangeW lo hi) e=.nx e'/\I n e':=by
 ~⟨e',h1,h2⟩:=y1s (b:=b) (i:=i) I (rangeW lo hi) 0 e h0 λj w e hw hI=>by
  ~⟨rfl,hj⟩:=y1t hw
  grind
 rw[q4l,hn,w4d]at h2;!⟨e',h1,h2⟩
nD dLend(F:List W->FR)(i:Nat)(dA:Den (List W)):Den W:=λe=>match e[i]? with
 |some (.own _ _)=>(dA e).bind λus e1=>match e1[i]? with
  |some (.own _ ws)=>match F (.lst ws::us)with
   |.ok (.fr w)=>if scalW w=true then .ok w e1 else .no
   |_=>.no
  |_=>.no
 |_=>.no
mutual
noncomputable def conIn(K:PySem.W.Frag):W->Value->Bool
 |.non,u=>match u with|.none=>true|_=>false
 |.bl b,u=>match u with|.bool c=>b==c|_=>false
 |.int i,u=>match u with|.int j _=>decide (i=j)|_=>false
 |.str x,u=>match u with|.str y _=>decide (x=y)|_=>false
 |.tup ws,u=>match u with
  |.ref a=>match K.lookup a with
   |some o=>(o.cls==.type "tuple"&&o.dict.isNone)&&(match o.data with|.seq its _=>Nat.ble its.size 1000000&&consIn K ws its.toList|_=>false)
   |none=>false
  |_=>false
 |.lst _,_=>false
 |.exc _,_=>false
 |.dic _,_=>false
 |.dw _ _ _ _,_=>false
noncomputable def consIn(K:PySem.W.Frag):List W->List Value->Bool
 |[],us=>us.isEmpty
 |w::ws,us=>match us with
  |u::us=>conIn K w u&&consIn K ws us
  |[]=>false
end
mutual
theorem x3a{K:PySem.W.Frag}:∀(w:W){u:Value},conIn K w u=true->∃v,RelV v u/\∀G,Rep K G w v
 |.non,u,h=>by
  unfold conIn at h;split at h
  ·!⟨.non,rfl,λ_=>rfl⟩
  ·@h
 |.bl b,u,h=>by
  unfold conIn at h;split at h
  ·rename_i c;#:b=c:=by simpa using h
   !⟨.bl b,by rw[this];rfl,λ_=>rfl⟩
  ·@h
 |.int i,u,h=>by
  unfold conIn at h;split at h
  ·rename_i j t;#:i=j:=by simpa using h
   !⟨.int i,⟨t,by rw[this]⟩,λ_=>rfl⟩
  ·@h
 |.str x,u,h=>by
  unfold conIn at h;split at h
  ·rename_i y t;#:x=y:=by simpa using h
   !⟨.str x,⟨t,by rw[this]⟩,λ_=>rfl⟩
  ·@h
 |.tup ws,u,h=>by
  unfold conIn at h;split at h
  ·rename_i a;split at h
   ·rename_i o ho;rw[w0l]at h;~⟨h1,h2⟩:=h;split at h2
    ·rename_i its n hd;rw[w0l]at h2;~⟨h3,h4⟩:=h2;~⟨xs,r,q⟩:=x6b ws h4;!⟨.ref a,rfl,λG=>⟨a,xs,rfl,.inr ⟨o,its,n,ho,by grind,Option.isNone_iff_eq_none.mp ((w0l _ _).mp h1).2,hd,by rw[sizeLine_eq];#:=w3p h3;omega,r⟩,q G⟩⟩
    ·@h2
   ·@h
  ·@h
 |.lst _,u,h=>by grind [conIn]
 |.exc _,u,h=>by grind [conIn]
 |.dic _,u,h=>by grind [conIn]
 |.dw _ _ _ _,u,h=>by grind [conIn]
theorem x6b{K:PySem.W.Frag}:∀(ws:List W){us:List Value},consIn K ws us=true->∃xs,Vals xs us/\∀G,Reps K G ws xs
 |[],us,h=>by
  unfold consIn at h;cases us with
  |nil=>!⟨[],.nil,λ_=>rfl⟩
  |cons _ _=>@h
 |w::ws,us,h=>by
  unfold consIn at h;cases us with
  |nil=>@h
  |cons u us=>
   rw[w0l]at h;~⟨v,r,q⟩:=x3a w h.1;~⟨xs,r',q'⟩:=x6b ws h.2;!⟨v::xs,.cons r r',λG=>⟨v,xs,rfl,q G,q' G⟩⟩
end
tm q13{x:Str}{w:W}{u:Value}(hm:X.mg x=some u)(hc:conIn X.K w u=true)(hg:Gl X x:=by rfl)(hd:(x==("__debug__":Str))=false:=by decide):DE Z X EE (.Name x pos) (dC w):=by
 ~⟨v,r,q⟩:=x3a w hc;!PE.mono (q7s hg hm r hd) λσ H Q ⟨G,e,rel,h⟩=>h G v H rel (.refl _) (q G)
tm x2b(l)(items)(n)(b)(items2)(n2)(T)(hT : T = "list" \/ T = "tuple")(hs0 : ¬(!items.isEmpty && Builtin.List.listTooLong (items.size + items2.size)) = true)(hs1 : items.size <= sizeLine)(hs2 : items.size + items2.size <= sizeLine + 1) :
  Meets (Builtin.«list.extend» { pos := [Value.ref l, Value.ref b] }) fun _ R s =>
     s.heap.get? l = some { cls := Value.type "list", data := Data.seq items n } /\
      (∃ o, s.heap.get? b = some o /\ o.cls = .type T /\ o.data = Data.seq items2 n2) /\
       R (Except.ok (Flow.ret Value.none)) { s with heap := s.heap.update l (Obj.mapSeq λx => x ++ items2) } := by
 rF Meets.of_wp λprog w A R s h => ?_
 obtain ⟨hl, ⟨o, hb, hc, hd⟩, h⟩ := h;obtain ⟨cls, dict, data, slots⟩ := o;simp only at hc hd;subst hc hd;rF wpAny_bind (wpAny_bind (wpAny_ite_true rfl (wpAny_pure (wpAny_pure ?_))));rF wpAny_bind (wpAny_bind (AutoSeq1.wpAny_loadPart' hb (wpAny_pure (wpAny_ite_true ?_ ?_))))
 ·grind
 rF wpAny_bind (wpAny_bind (wpAny_bind (wpAny_load' hb (wpAny_pure (wpAny_pure ?_)))));rF wpAny_bind (wpAny_bind (wpAny_bind (wpAny_load' hl (wpAny_pure (wpAny_pure ?_)))));rF wpAny_ite_false (by simpa using hs0) ?_;!wpAny_bind (wpAny_updateSeq hl rfl (wpAny_pure ⟨_, rfl, h⟩) hs1 (by grind))
nD rExt(K:PySem.W.Frag):V->List V->Hp->VK->Prop:=λx vs H Q=>∃l b xs zs,x=.ref l/\vs=[.ref b]/\H l=some (.lst xs)/\(SqL K H b zs\/SqT K H b zs)/\xs.length+zs.length<=sizeLine/\Q .non (upd H l (.lst (xs++zs)))
tm z5i:MtM X "list.extend" (rExt X.K):=by
 intro pins s σ H x vs v us Q I rx rv h;~⟨l,b,xs,zs,rfl,rfl,hH,hB,hz,q⟩:=h;@rx;~⟨u,rfl,ru⟩:=rv.one;@ru;~⟨z,its,n,r,hl,e⟩:=I.lstM hH
 #fin:∀(T:String)(its2:List Value)(n2:Nat)(o:Obj),T="list"\/T="tuple"->Vals zs its2->s.heap.get? b=some o->o.cls=.type T->o.data=.seq its2.toArray n2->wpAny (model X.prog X.w) X.A (call (.builtin "list.extend") [.ref l,.ref b]) (EP X pins σ Q) X.xe s:=λT its2 n2 o hT r2 e2 hc hd=>by
  #hl2:=r2.length;#hsz:its.toArray.size+its2.toArray.size<=sizeLine:=by grind
  #hlong:¬(!its.toArray.isEmpty&&Builtin.List.listTooLong (its.toArray.size+its2.toArray.size))=true:=by
   simp_all [notLongL]
  rF call_meets F.slot_list_extend ⟨_,e,rfl⟩ F.entry_list_extend (F.args_list_extend_2 _ _)
   (x2b l its.toArray n b its2.toArray n2 T hT hlong (by grind) oM) ⟨e,⟨o,e2,hc,hd⟩,?_⟩
  rF⟨.non,_,I.lset (its':=its++its2) hH e (by simp) (r.append r2) ?_,rfl,q⟩
  grind
 rcases hB with hB|hB
 ·~⟨its2,r2,pl,_⟩:=I.list hB;~⟨o,e2,hc,n2,hd⟩:=pl.isList
  grind
 ·~⟨its2,r2,⟨o,e2,hc,n2,hd⟩,_⟩:=I.tuple hB
  grind
nD dExt(i:Nat)(d:Den (List W)):List S->SR:=λe=>match e[i]? with
 |some (.own _ _)=>(d e).stm λws e1=>match ws,e1[i]? with
  |[w],some (.own b xs)=>match seqW w with
   |some ys=>if xs.length+ys.length<=16777216 then .nx (e1.set i (.own b (xs++ys)))else .no
   |none=>.no
  |_,_=>.no
 |_=>.no
section
variable{e:Expr}{p:Pos}{x:Str}
tm z5j(i:Nat)(ha:DA Z X EE (e::es) dA)(hN:X.N[i]?=some x:=by rfl)(hv:Vis X.env.scope x:=by walk_at "1")(hd:(x==("__debug__":Str))=false:=by decide)(hcd:(x==("__classdict__":Str))=false:=by decide)
  (hbase:attributeBase (.Name x p) "extend" X.env (eval (.Name x p) X.env)=eval (.Name x p) X.env:=by rfl)
  (hfew:((backTo cpos (starEach (e::es) X.env)).all (λx=>!x.1)&&(backToKw cpos (keywordEach [] X.env)).all (λx=>x.1.isSome)&&decide ((e::es).length+([]:List Keyword).length+(if([]:List Keyword).isEmpty then 0 else 1)<30))=true:=by rfl)
  (hline:(apos.endLine==cpos.line)=true:=by rfl)(hs:starEach (e::es) X.env=(false,eval e X.env)::starEach es X.env:=by rfl)(hplain:(backTo cpos (starEach es X.env)).any (·.1)=false:=by rfl)
  (hsw:swapsWith (.Call (.Attribute (.Name x p) "extend" apos) (e::es) [] cpos) none pos.line X.env=pure false:=by rfl):
  DS Z X EE (.Expr (.Call (.Attribute (.Name x p) "extend" apos) (e::es) [] cpos) pos) (dExt i dA):=by
 rF PS.mono (q7t (x47 PySem.F.plainAttrs_list PySem.F.slot_list_extend PySem.F.type_list_extend z5i (pv i hN hv hd hcd) ha hbase hfew hline hs hplain) hsw) ?_;rintro D σ H ⟨G,e,rel,h⟩;unfold dExt at h;split at h
 ·rename_i b0 ws0 he0;~⟨a,xs,h1,h2,h3,h4,h5⟩:=rel.own he0;rF⟨.ref a,h1,.inl ⟨rfl,xs,SqL.of h2⟩,G,e,rel,(q0w h).imp (λws e1 h G1 vs H1 r1 s1 p1=>?_) λ_ _ h=>h⟩
  split at h
  ·rename_i w b ys he1;~⟨a',zs,g1,g2,g3,g4,g5⟩:=r1.own he1;rw[h1]at g1;@g1;~⟨y,r,rfl,py,pr⟩:=p1;cases(show r=[]from pr);split at h
   ·rename_i us hu;split at h
    ·rename_i hl
     #step:∀c cs,y=.ref c->(SqL X.K G1 c cs\/SqT X.K G1 c cs)->Reps X.K G1 us cs->rExt X.K (.ref a) [y] H1 (λv H'=>D.nx σ H'):=λc cs hy hq hr=>by
      subst hy;rF⟨a,c,zs,cs,rfl,rfl,g2,?_,by grind [Reps.length,sizeLine_eq],?_⟩
      ·rcases hq with q|q
       ·!.inl (r1.sub.seq q)
       ·!.inr (r1.sub.tup q)
      ·!h G1 σ _ (r1.mut he1 h1 (g5.append hr)) s1
     unfold seqW at hu;split at hu
     ·@hu;~⟨c,cs,hy,q,hr⟩:=py
      grind
     ·@hu;~⟨c,cs,hy,q,hr⟩:=py
      grind
     ·@hu
    ·!h.elim
   ·!h.elim
  ·!h.elim
 ·!h.elim
end
nD dPut(i:Nat)(dv dk:Den W):List S->SR:=λe=>(dv e).stm λw e1=>match e1[i]? with
 |some (.own _ _)=>(dk e1).stm λk e2=>match k,e2[i]? with
  |.int k,some (.own b ws)=>match ixN ws.length k with
   |some j=>.nx (e2.set i (.own b (ws.set j w)))
   |none=>.no
  |_,_=>.no
 |_=>.no
section
variable{e k:Expr}{d dk:Den W}{p tpos:Pos}{x:Str}
tm y1u(i:Nat)(he:DE Z X EE e d)(hk:DE Z X EE k dk)(hN:X.N[i]?=some x:=by rfl)(hv:Vis X.env.scope x:=by walk_at "1")(hd:(x==("__debug__":Str))=false:=by decide)(hcd:(x==("__classdict__":Str))=false:=by decide)
  (ha:∀v,assign (.Subscript (.Name x p) k tpos) X.env v=(do
   let ov <- holding [v] (eval (.Name x p) X.env)
   let iv <- holding [v,ov] (eval k X.env)
   standAt tpos
   holding [v,ov,iv] (setItem ov iv v)
   release [v,ov,iv] []):=by intro _;rfl)
  (hs:swapsWithSole [.Subscript (.Name x p) k tpos] e pos.line X.env=pure false:=by rfl)(hw:swappedStores [.Subscript (.Name x p) k tpos] e X.env=pure none:=by rfl)
  (h1:(assignEach [.Subscript (.Name x p) k tpos] X.env).map (·.2)=[assign (.Subscript (.Name x p) k tpos) X.env]:=by rfl):
  DS Z X EE (.Assign [.Subscript (.Name x p) k tpos] e pos) (dPut i d dk):=by
 rF PS.mono (z2z he (z2y (pv i hN hv hd hcd) hk y4c ha) hs hw h1) ?_;rintro D σ H ⟨G,e,rel,h⟩;rF⟨G,e,rel,(q0w h).imp (λw e1 h G1 v1 H1 r1 s1 p1=>?_) λ_ _ h=>h⟩
 split at h
 ·rename_i b0 ws0 he0;~⟨a,xs,q1,q2,q3,q4,q5⟩:=r1.own he0;rF⟨.ref a,q1,G1,e1,r1,(q0w (σ:=σ) h).imp (λkw e2 h G2 v2 H2 r2 s2 p2=>?_) λ_ _ h G' H' r s=>h G' H' r (s1.trans s)⟩
  ·split at h
   ·rename_i kk b ws he2;~⟨a',zs,g1,g2,g3,g4,g5⟩:=r2.own he2;rw[q1]at g1;@g1;@p2;split at h
    ·rename_i j hj;rF⟨a,zs,_,j,rfl,rfl,g2,by rw[g5.length];!hj,?_⟩;!h G2 σ _ (r2.mut he2 q1 (g5.set j (Rep.mono s2 w p1))) (s1.trans s2)
    ·!h.elim
   ·!h.elim
 ·!h.elim
end
nD ltS:W->W->Option W
 |.str i,.str j=>some (.bl (decide (i.cps.toList<j.cps.toList)))
 |_,_=>none
nD leS:W->W->Option W
 |.str i,.str j=>some (.bl (!decide (j.cps.toList<i.cps.toList)))
 |_,_=>none
nD rSS(f:Str->Str->Bool):R2:=λx y H Q=>∃i j,x=.str i/\y=.str j/\Q (.bl (f i j)) H
tm z5k:OpR X (compareOp .LtE) (rSS λi j=>!decide (j.cps.toList<i.cps.toList)):=by
 intro pins s σ H x y v u Q I rx ry h;~⟨i,j,rfl,rfl,q⟩:=h;~⟨t,rfl⟩:=rx;~⟨t',rfl⟩:=ry;!PySem.P.le_str (x5m I q rfl)
tm z5l:Op2 K (rSS λi j=>!decide (j.cps.toList<i.cps.toList)) leS:=by
 intro G H x y wx wy w Q s px py hf h;unfold leS at hf;split at hf
 ·@hf;@px;@py;!⟨_,_,rfl,rfl,h G _ H (.refl s) rfl⟩
 ·@hf
tm y1v(ha:DE Z X EE a da)(hb:DE Z X EE b db):DE Z X EE (.Compare a [.LtE] [b] pos) (dOp leS da db):=q83 z5k z5l ha hb (nomark _)
nD OpM(K:PySem.W.Frag)(r:V->List V->Hp->VK->Prop)(f:W->List W->Option W):Prop:=∀(G H:Hp)(x:V)(xs:List V)(wx:W)(ws:List W)(w:W)(Q:VK),Same G H->Rep K G wx x->Reps K G ws xs->f wx ws=some w->(∀G' v H',Grow G H G' H'->Rep K G' w v->Q v H')->r x xs H Q
nD kindW(T:String):W->Bool
 |.str _=>T=="str"
 |.lst _=>T=="list"
 |_=>false
nD dMeth(T:String)(f:W->List W->Option W)(d:Den W)(dA:Den (List W)):Den W:=λe=>(d e).bind λx e1=>if kindW T x=true then(dA e1).bind λws e2=>ofOpt (f x ws) e2 else .no
section
variable{o e:Expr}{d:Den W}{p:Pos}{x:Str}
tm x3b{id:String}{name:Str}{r:V->List V->Hp->VK->Prop}{f:W->List W->Option W}(pa:PlainAttrs T)(slot:Slot T name id)(hty:typeOf (.builtin id)=pure (.type "method_descriptor"))(hm:MtR X id r)(hf:OpM X.K r f)(ho:DE Z X EE o d)(ha:DA Z X EE (e::es) dA)
  (hbase:attributeBase o name X.env (eval o X.env)=eval o X.env:=by rfl)
  (hfew:((backTo cpos (starEach (e::es) X.env)).all (λx=>!x.1)&&(backToKw cpos (keywordEach [] X.env)).all (λx=>x.1.isSome)&&decide ((e::es).length+([]:List Keyword).length+(if([]:List Keyword).isEmpty then 0 else 1)<30))=true:=by rfl)
  (hline:(apos.endLine==cpos.line)=true:=by rfl)(hs:starEach (e::es) X.env=(false,eval e X.env)::starEach es X.env:=by rfl)(hplain:(backTo cpos (starEach es X.env)).any (·.1)=false:=by rfl):
  DE Z X EE (.Call (.Attribute o name apos) (e::es) [] cpos) (dMeth T f d dA):=by
 rF PE.mono (x47 pa slot hty hm ho ha hbase hfew hline hs hplain) ?_;rintro σ H Q ⟨G,e,rel,h⟩;simp only[dMeth,R.holds_bind]at h;rF⟨G,e,rel,h.imp (λwx e1 h G1 v1 H1 r1 s1 p1=>?_) λ_ _ h=>h⟩
 split at h
 ·rename_i hk;rF⟨?_,G1,e1,r1,(R.holds_bind.mp h).imp (λws e2 h G2 vs H2 r2 s2 p2=>?_) λ_ _ h=>XH.trans s1 h⟩
  ·cases wx with
   |str z=>@p1;!(by simpa [kindW]using hk:T="str")
   |lst ws=>
    ~⟨a,xs,rfl,q,_⟩:=p1;!.inl ⟨by simpa [kindW]using hk,xs,r1.sub.seq q⟩
   |_=>@hk
  ·~⟨w,hw,h⟩:=ofOpt_holds.mp h;!hf G2 H2 v1 vs wx ws w Q r2.sub (Rep.mono s2 wx p1) p2 hw λG' v H' g p=>h G' v H' (r2.grow g) ((s1.trans s2).trans g.gg) p
 ·!h.elim
end
nD strsW:List W->Option (List Str)
 |[]=>some []
 |.str x::r=>(strsW r).map (x::·)
 |_=>none
nD joinOk(sep:Str)(ys:List Str):Bool:=Nat.ble ((ys.map λx=>x.length).sum+ys.length*sep.length) 16777216
nD joinW:W->List W->Option W
 |.str sep,[w]=>match seqW w with
  |some ws=>match strsW ws with
   |some ys=>if joinOk sep ys=true then some (.str (Txt.join sep ys))else none
   |none=>none
  |none=>none
 |_,_=>none
nD rJoin(K:PySem.W.Frag):V->List V->Hp->VK->Prop:=λx vs H Q=>∃sep b zs ys,x=.str sep/\vs=[.ref b]/\(SqL K H b zs\/SqT K H b zs)/\zs=ys.map V.str/\joinOk sep ys=true/\Q (.str (Txt.join sep ys)) H
tm x1h:∀{ys:List Str}{its:List Value},Vals (ys.map V.str) its->PyProof.Rows.StrsAre its ys
 |[],its,h=>by @h;!.nil
 |y::ys,its,h=>by
  cases h with
  |cons r t=>
   ~⟨k,rfl⟩:=r;!.cons y k (x1h t)
tm y9p:MtR X "str.join" (rJoin X.K):=by
 intro pins s σ H x vs v us Q I rx rv h;~⟨sep,b,zs,ys,rfl,rfl,hB,rfl,hz,q⟩:=h;~⟨t,rfl⟩:=rx;~⟨u,rfl,ru⟩:=rv.one;@ru;#hz':=w3p hz;#fin:∀(t':Tok)(k:Nat),EP X pins σ Q (Value.str (Txt.join sep ys) t') {s with toks:=k}:=λt' k=>⟨.str _,H,I.tok k,⟨t',rfl⟩,q⟩
 rcases hB with hB|hB
 ·~⟨its,r,pl,_⟩:=I.list hB;!PyProof.Rows.join_list pl.isList (by simpa using x1h r) hz' fin
 ·~⟨its,r,pl,_⟩:=I.tuple hB;!PyProof.Rows.join_tuple pl (by simpa using x1h r) hz' fin
tm x6c:∀{ws:List W}{ys:List Str}{xs:List V},strsW ws=some ys->Reps K G ws xs->xs=ys.map V.str
 |[],ys,xs,h,r=>by @h;!r
 |.str x::ws,ys,xs,h,r=>by
  unfold strsW at h;~⟨zs,h1,rfl⟩:=w0x.mp h;~⟨v,t,rfl,p,q⟩:=r;@p;rw[x6c h1 q];rfl
 |.non::ws,_,_,h,_=>by @h
 |.bl _::ws,_,_,h,_=>by @h
 |.int _::ws,_,_,h,_=>by @h
 |.tup _::ws,_,_,h,_=>by @h
 |.lst _::ws,_,_,h,_=>by @h
 |.exc _::ws,_,_,h,_=>by @h
tm y9q:OpM K (rJoin K) joinW:=by
 intro G H x xs wx ws w Q s px pr hf h;unfold joinW at hf;split at hf
 ·rename_i sep w0;~⟨y,r,rfl,py,pr⟩:=pr;cases(show r=[]from pr);@px;split at hf
  ·rename_i us hu;split at hf
   ·rename_i ys hy;split at hf
    ·rename_i ho;@hf
     #step:∀c cs,y=.ref c->(SqL K G c cs\/SqT K G c cs)->Reps K G us cs->rJoin K (.str sep) [y] H Q:=λc cs hc hq hr=>by
      subst hc;rF⟨sep,c,cs,ys,rfl,rfl,?_,x6c hy hr,ho,h G _ H (.refl s) rfl⟩;rcases hq with q|q
      ·!.inl (s.seq q)
      ·!.inr (s.tup q)
     unfold seqW at hu;split at hu
     ·@hu;~⟨c,cs,hc,q,hr⟩:=py
      grind
     ·@hu;~⟨c,cs,hc,q,hr⟩:=py
      grind
     ·@hu
    ·@hf
   ·@hf
  ·@hf
 ·@hf
section
variable{o e:Expr}{d:Den W}
tm x0b(ho:DE Z X EE o d)(ha:DA Z X EE [e] dA)
  (hbase:attributeBase o "join" X.env (eval o X.env)=eval o X.env:=by rfl)
  (hfew:((backTo cpos (starEach [e] X.env)).all (λx=>!x.1)&&(backToKw cpos (keywordEach [] X.env)).all (λx=>x.1.isSome)&&decide ([e].length+([]:List Keyword).length+(if([]:List Keyword).isEmpty then 0 else 1)<30))=true:=by rfl)
  (hline:(apos.endLine==cpos.line)=true:=by rfl)(hs:starEach [e] X.env=(false,eval e X.env)::starEach [] X.env:=by rfl)(hplain:(backTo cpos (starEach [] X.env)).any (·.1)=false:=by rfl):
  DE Z X EE (.Call (.Attribute o "join" apos) [e] [] cpos) (dMeth "str" joinW d dA):=
 x3b PySem.F.plainAttrs_str PySem.F.slot_str_join PySem.F.type_str_join y9p y9q ho ha hbase hfew hline hs hplain
end
nD SR.turnT(r:SR)(k:List S->SR):SR:=match r with
 |.nx e'=>k e'
 |.ct e'=>k e'
 |.bk e'=>.nx e'
 |.rt s e'=>.rt s e'
 |.ex c e'=>.ex c e'
 |.no=>.no
nD idxS(x:Str):List Str->Option Nat
 |[]=>none
 |y::ys=>if y=x then some 0 else(idxS x ys).map (·+1)
structure TabK(P:Program)(w:World)(K:PySem.W.Frag)(d:Addr)(tb:List (Str×Int)):Prop where
 tab:∀h,K.In h->PyProof.Rows.StrTab P w h d (PySem.W.kdpD tb)
 obj:∃o,K.lookup d=some o/\o.cls=.type "dict" /\ o.dict=none
nD tabW(tb:List (Str×Int)):W->Option W
 |.str s=>if PySem.W.kdpHas tb s=true then some (.int (kdpLook tb s 0))else none
 |_=>none
nD tabGet(tb:List (Str×Int)):List W->Option W
 |[.str s,.int e]=>some (.int (kdpLook tb s e))
 |_=>none
section
variable{e k:Expr}{dk:Den W}{p:Pos}{x:Str}{d:Addr}{tb:List (Str×Int)}
nD rTab(d:Addr)(tb:List (Str×Int)):R2:=λx y H Q=>∃s,x=.ref d/\y=.str s/\PySem.W.kdpHas tb s=true/\Q (.int (kdpLook tb s 0)) H
tm z5m(T:TabK X.prog X.w X.K d tb):IxR X (rTab d tb):=by
 intro value slice pins s σ H x y v u Q I rx ry h hs;~⟨z,rfl,rfl,hh,q⟩:=h;@rx;~⟨t,rfl⟩:=ry;~⟨o,h1,h2,h3⟩:=T.obj;!PyProof.Rows.tail_any ⟨o,I.kIn d o h1,h2⟩ F.slot_dict_getitem.lookup (PySem.W.kdp_getItem (T.tab s.heap I.kIn) hh λt'=>⟨.int _,H,I.tok _,⟨t',rfl⟩,q⟩) hs
tm y43(T:TabK X.prog X.w X.K d tb)(hm:X.mg x=some (.ref d))(hk:DE Z X EE k dk)(hg:Gl X x:=by rfl)(hd:(x==("__debug__":Str))=false:=by decide)(hs:PlainIx k:=by intro _ _;rfl):
  DE Z X EE (.Subscript (.Name x p) k pos) (dUn (tabW tb) dk):=by
 rF PE.mono (x46 (z5m T) (q7s (v:=.ref d) hg hm rfl hd) hk hs) ?_;rintro σ H Q ⟨G,e,rel,h⟩;simp only[dUn,R.holds_bind,ofOpt_holds]at h;rF⟨G,e,rel,h.imp (λw e1 h G1 v1 H1 r1 s1 p1=>?_) λ_ _ h=>h⟩
 ~⟨w',hw,h⟩:=h;unfold tabW at hw;split at hw
 ·split at hw
  ·rename_i hh;@hw;@p1;!⟨_,rfl,rfl,hh,h G1 _ H1 r1 s1 rfl⟩
  ·@hw
 ·@hw
tm z5n{id:String}{name:Str}{r:V->List V->Hp->VK->Prop}{o:Expr}{ob:Obj}{t:TA}(pa:PlainAttrs T)(slot:Slot T name id)(hty:typeOf (.builtin id)=pure (.type "method_descriptor"))(hm:MtR X id r)(ho:PE X o (tC (.ref d)))
  (hK:X.K.lookup d=some ob)(hc:ob.cls=.type T)(hdn:ob.dict=none)(ha:PA X (e::es) t)
  (hbase:attributeBase o name X.env (eval o X.env)=eval o X.env:=by rfl)
  (hfew:((backTo cpos (starEach (e::es) X.env)).all (λx=>!x.1)&&(backToKw cpos (keywordEach [] X.env)).all (λx=>x.1.isSome)&&decide ((e::es).length+([]:List Keyword).length+(if([]:List Keyword).isEmpty then 0 else 1)<30))=true:=by rfl)
  (hline:(apos.endLine==cpos.line)=true:=by rfl)(hs:starEach (e::es) X.env=(false,eval e X.env)::starEach es X.env:=by rfl)(hplain:(backTo cpos (starEach es X.env)).any (·.1)=false:=by rfl):
  PE X (.Call (.Attribute o name apos) (e::es) [] cpos) (λσ H Q=>t σ H λxs H2=>r (.ref d) xs H2 Q):=by
 intro pins s σ H Q I h;rF wpAny_Call_method_late hbase hfew hline rfl (thn (ho pins s σ H (λx H1=>x=.ref d/\t σ H1 λxs H2=>r (.ref d) xs H2 Q) I ⟨rfl,h⟩) λv s1 ⟨x,H1,I1,r1,hx,q1⟩=>?_)
 subst hx;@r1;rF⟨T,id,pa,slot,hty,⟨ob,I1.kIn d ob hK,hc⟩,λa ea=>?_,?_⟩
 ·@ea;!⟨ob,I1.kIn _ ob hK,hdn⟩
 #hA:=ha cpos pins s1 σ H1 _ I1 q1;rw[hs]at hA |-
 rF Calls.callWith_builtin (by grind) (Calls.evalArgs_plain ?_);!thn hA λus s2 ⟨vs,H2,I2,r2,q2⟩=>hm pins s2 σ H2 (.ref d) vs (.ref d) us Q I2 rfl r2 q2
nD rTabGet(d:Addr)(tb:List (Str×Int)):V->List V->Hp->VK->Prop:=λx vs H Q=>∃s e,x=.ref d/\vs=[.str s,.int e]/\Q (.int (kdpLook tb s e)) H
tm y1w(T:TabK X.prog X.w X.K d tb):MtR X "dict.get" (rTabGet d tb):=by
 intro pins s σ H x vs v us Q I rx rv h;~⟨z,e,rfl,rfl,q⟩:=h;@rx;cases rv with
 |cons r1 rv=>
  ~⟨u,rfl,r2⟩:=Vals.one rv;~⟨t1,rfl⟩:=r1;~⟨t2,rfl⟩:=r2;!PySem.W.kdp_get2 (T.tab s.heap I.kIn) λt'=>⟨.int _,H,I.tok _,⟨t',rfl⟩,q⟩
tm y1x(T:TabK X.prog X.w X.K d tb)(hm:X.mg x=some (.ref d))(ha:DA Z X EE (e::es) dA)(hg:Gl X x:=by rfl)(hd:(x==("__debug__":Str))=false:=by decide)
  (hbase:attributeBase (.Name x p) "get" X.env (eval (.Name x p) X.env)=eval (.Name x p) X.env:=by rfl)
  (hfew:((backTo cpos (starEach (e::es) X.env)).all (λx=>!x.1)&&(backToKw cpos (keywordEach [] X.env)).all (λx=>x.1.isSome)&&decide ((e::es).length+([]:List Keyword).length+(if([]:List Keyword).isEmpty then 0 else 1)<30))=true:=by rfl)
  (hline:(apos.endLine==cpos.line)=true:=by rfl)(hs:starEach (e::es) X.env=(false,eval e X.env)::starEach es X.env:=by rfl)(hplain:(backTo cpos (starEach es X.env)).any (·.1)=false:=by rfl):
  DE Z X EE (.Call (.Attribute (.Name x p) "get" apos) (e::es) [] cpos) (dFn (tabGet tb) dA):=by
 ~⟨ob,h1,h2,h3⟩:=T.obj;rF PE.mono (z5n PySem.F.plainAttrs_dict PySem.F.slot_dict_get PySem.F.type_dict_get (y1w T) (q7s (v:=.ref d) hg hm rfl hd) h1 h2 h3 ha hbase hfew hline hs hplain) ?_;rintro σ H Q ⟨G,e,rel,h⟩;simp only[dFn,R.holds_bind,ofOpt_holds]at h;rF⟨G,e,rel,h.imp (λws e1 h G1 vs H1 r1 s1 p1=>?_) λ_ _ h=>h⟩
 ~⟨w',hw,h⟩:=h;unfold tabGet at hw;split at hw
 ·@hw;~⟨y1,q1,rfl,e1,y2,q2,rfl,e2,rfl⟩:=p1;@e1;@e2;!⟨_,_,rfl,rfl,h G1 _ H1 r1 s1 rfl⟩
 ·@hw
end
section
variable{w:W}
nD putC(i:Nat)(e:List S)(b:Option Nat)(ws:List W)(w:W):Option Nat->SR
 |some j=>.nx (e.set i (.own b (ws.set j w)))
 |none=>.no
nD putB(i:Nat)(e:List S)(w:W):W->Option S->SR
 |.int k,some (.own b ws)=>putC i e b ws w (ixN ws.length k)
 |_,_=>.no
nD putA(i:Nat)(dk:Den W)(w:W)(e:List S):Option S->SR
 |some (.own _ _)=>(dk e).stm λk e2=>putB i e2 w k e2[i]?
 |_=>.no
tm z5o{dv:Den W}:dPut i dv dk e=(dv e).stm λw e1=>putA i dk w e1 e1[i]?:=by
 unfold dPut;congr 1
tm y44:putA i dk w e (some (.own b ws))=(dk e).stm λk e2=>putB i e2 w k e2[i]?:=rfl
tm y45:putB i e w (.int k) (some (.own b ws))=putC i e b ws w (ixN ws.length k):=rfl
tm y1y:putC i e b ws w (some j)=.nx (e.set i (.own b (ws.set j w))):=rfl
nD lendC(e:List S):FR->R W
 |.ok (.fr w)=>if scalW w=true then .ok w e else .no
 |_=>.no
nD lendB(F:List W->FR)(us:List W)(e:List S):Option S->R W
 |some (.own _ ws)=>lendC e (F (.lst ws::us))
 |_=>.no
nD lendA(F:List W->FR)(i:Nat)(dA:Den (List W))(e:List S):Option S->R W
 |some (.own _ _)=>(dA e).bind λus e1=>lendB F us e1 e1[i]?
 |_=>.no
tm y9r:dLend F i dA e=lendA F i dA e e[i]?:=by
 unfold dLend lendA;cases e[i]? with
 |none=>rfl
 |some s=>cases s with
  |own b ws=>
   dsimp only;congr 1
  |_=>rfl
tm y1z:lendA F i dA e (some (.own b ws))=(dA e).bind λus e1=>lendB F us e1 e1[i]?:=rfl
tm y10:lendB F us e (some (.own b ws))=lendC e (F (.lst ws::us)):=rfl
tm y46:lendC e (.ok (.fr w))=if scalW w=true then .ok w e else .no:=rfl
nD extB(i:Nat)(e:List S)(b:Option Nat)(xs:List W):Option (List W)->SR
 |some ys=>if xs.length+ys.length<=16777216 then .nx (e.set i (.own b (xs++ys)))else .no
 |none=>.no
nD extA(i:Nat)(e:List S):List W->Option S->SR
 |[w],some (.own b xs)=>extB i e b xs (seqW w)
 |_,_=>.no
nD ext0(i:Nat)(d:Den (List W))(e:List S):Option S->SR
 |some (.own _ _)=>(d e).stm λws e1=>extA i e1 ws e1[i]?
 |_=>.no
tm z5p:dExt i d e=ext0 i d e e[i]?:=by
 unfold dExt ext0;cases e[i]? with
 |none=>rfl
 |some s=>cases s with
  |own b ws=>
   dsimp only;congr 1
  |_=>rfl
tm y47:ext0 i d e (some (.own b xs))=(d e).stm λws e1=>extA i e1 ws e1[i]?:=rfl
tm y48:extA i e [w] (some (.own b xs))=extB i e b xs (seqW w):=rfl
tm y11:extB i e b xs (some ys)=if xs.length+ys.length<=16777216 then .nx (e.set i (.own b (xs++ys)))else .no:=rfl
tm y9s:dMeth T f d dA e=(d e).bind λx e1=>if kindW T x=true then(dA e1).bind λws e2=>ofOpt (f x ws) e2 else .no:=rfl
tm z5q:kindW "str" (.str z)=true:=rfl
tm z5r:kindW "list" (.lst ws)=true:=rfl
tm z5s{i:Str}:ltS (.str i) (.str j)=some (.bl (decide (i.cps.toList<j.cps.toList))):=rfl
tm le_str{i:Str}:leS (.str i) (.str j)=some (.bl (!decide (j.cps.toList<i.cps.toList))):=rfl
end
nD forP(i j:Nat)(b:List S->SR):List (W×W)->List S->SR
 |[],e=>.nx e
 |p::ps,e=>(b ((e.set i (.fr p.1)).set j (.fr p.2))).turnT (forP i j b ps)
nD dForP(i j:Nat)(d:Den (List (W×W)))(b:List S->SR):List S->SR:=λe=>(d e).stm λps e1=>forP i j b ps e1
structure Walk2(K:PySem.W.Frag)(G1:Hp)(J:It)(ps:List (W×W)):Prop where
 go:∀(i:Nat)(G H:Hp),Same G1 G->Same G H->i<ps.length->J.go i H
 yld:∀(i:Nat)(G H:Hp)(x:V)(H':Hp),Same G1 G->Same G H->J.yld i H x H'->∀u v,ps[i]?=some (u,v) ->
  Grow G H G H'/\∀(m n:Nat)(σ:St)(Q:St->Hp->Prop),(∀y z,Rep K G u y->Rep K G v z->Q ((σ.set m (some y)).set n (some z)) H')->gTup K 2 (gCons (gName m) (gCons (gName n) gNil)) x σ H' Q
 stop:∀(i:Nat)(G H:Hp),Same G1 G->Same G H->ps.length<=i->J.stop i H
nD liftI(K:PySem.W.Frag)(Z:Zt)(EE:L2.St->XK)(d:Den (List (W×W))):TI:=λσ H R=>AtG K Z σ H λG e=>(d e).holds (λps e1=>∀G1 H1 J,Rel K Z G1 σ H1 e1->Same G G1->Walk2 K G1 J ps->R J H1) (XH K Z EE σ G)
nD DI(Z:Zt)(X:Cx)(EE:L2.St->XK)(tg iter:Expr)(d:Den (List (W×W))):Prop:=PI X tg iter (liftI X.K Z EE d)
tm PI.mono(h:PI X tg iter wi)(m:∀σ H R,wi' σ H R->wi σ H R):PI X tg iter wi':=λpins s σ H R I q=>h pins s σ H R I (m σ H R q)
tm y12(r:Rel K Z G' σ H e)(s:Same G1 G')(pu:Rep K G' p.1 x)(pv:Rep K G' p.2 y)
  (h:PostS K Z EE D G1 (forP i j s1 (p::ps) e))(hP:∀G'' σ'' H'' e'',Rel K Z G'' σ'' H'' e''->Same G1 G''->PostS K Z EE D G1 (forP i j s1 ps e'')->Pv σ'' H''):
  liftS K Z EE s1 {D with nx:=Pv,ct:=Pv,bk:=D.nx} ((σ.set i (some x)).set j (some y)) H:=by
 rF⟨G',_,(r.set pu).set pv,?_⟩;unfold forP at h;cases q:s1 ((e.set i (.fr p.1)).set j (.fr p.2))with
 |nx e'=>rw[q]at h;!λG'' σ'' H'' r'' s''=>hP G'' σ'' H'' e' r'' (s.trans s'') h
 |ct e'=>rw[q]at h;!λG'' σ'' H'' r'' s''=>hP G'' σ'' H'' e' r'' (s.trans s'') h
 |bk e'=>rw[q]at h;!λG'' σ'' H'' r'' s''=>h G'' σ'' H'' r'' (s.trans s'')
 |rt t e'=>rw[q]at h;!λG'' σ'' v H'' r'' s'' p=>h G'' σ'' v H'' r'' (s.trans s'') p
 |ex c e'=>rw[q]at h;!λG'' σ'' H'' r'' s''=>h G'' σ'' H'' r'' (s.trans s'')
 |no=>rw[q]at h;!h
tm x9q{ps:List (W×W)}(h:ps[k]?=some p):ps.drop k=p::ps.drop (k+1):=by
 grind [List.drop_eq_getElem_cons]
section
variable{elt iter e a:Expr}{body:List Stmt}{ifs:List Expr}{scope sc:Scope}{pt p3:Pos}{x y:Str}{Nf N:List Str}{di:Den (List (W×W))}{c:Den Bool}{d:Den W}{s1:List S->SR}
tm q6k(i j:Nat)(hN:X.N.Nodup)(hp:PassesOwn (model X.prog X.w) X.A X.env X.xe)(hc:X.calm=true)(hl:DI Z X EE (.Tuple [.Name x p1,.Name y p2] kt p3) e di)(hb:DSs Z X EE body s1)
  (hi:X.N[i]?=some x:=by rfl)(hx:Loc X.env.scope x:=by walk_at "3")(hf:X.fn x=true\/X.env.scope.names.lookup x=some .local:=by walk_at "2")
  (hj:X.N[j]?=some y:=by rfl)(hy:Loc X.env.scope y:=by walk_at "3")(hf':X.fn y=true\/X.env.scope.names.lookup y=some .local:=by walk_at "2")
  (hn:(assignEach [.Name x p1,.Name y p2] X.env).length=2:=by rfl)(hst:(assignEach [.Name x p1,.Name y p2] X.env).findIdx? (·.1)=none:=by rfl)
  (g1:(assignEach [.Name x p1,.Name y p2] X.env).map (·.2)=assign (.Name x p1) X.env::(assignEach [.Name y p2] X.env).map (·.2):=by rfl)(g2:(assignEach [.Name y p2] X.env).map (·.2)=assign (.Name y p2) X.env::(assignEach [] X.env).map (·.2):=by rfl)
  (hs:∀x,foldedSetIterable e X.env x=pure x:=by intro _;rfl):
  DS Z X EE (.For (.Tuple [.Name x p1,.Name y p2] kt p3) e body [] pos) (dForP i j di s1):=by
 rF PS.mono (x1v hp hc hl (z2x hc (x5k (q17 i hN hi hx hf) (x5k (q17 j hN hj hy hf') y7y g2) g1) hn hst) hb hs) ?_;rintro D σ H ⟨G,e,rel,h⟩;rF⟨G,e,rel,(q0w h).imp (λps e1 h G1 H1 J r1 q1 W0=>?_) λ_ _ h=>h⟩
 #h:=PostS.trans q1 h;rF⟨λk m σ' H'=>m=ps.length-k/\k<=ps.length/\∃G' e',Rel X.K Z G' σ' H' e'/\Same G1 G'/\PostS X.K Z EE D G1 (forP i j s1 (ps.drop k) e'),⟨ps.length,by omega,w1g _,G1,e1,r1,.refl _,h⟩,?_⟩
 rintro k m σ' H' ⟨rfl,hk,G',e',r',s',h'⟩
 by_cases hlt:k<ps.length
 ·rF .inr ⟨W0.go k G' H' s' r'.sub hlt,λσ'' H''=>∃G' e',Rel X.K Z G' σ'' H'' e'/\Same G1 G'/\PostS X.K Z EE D G1 (forP i j s1 (ps.drop (k+1)) e'),?_,λv H2 hy=>?_⟩
  ·rintro σ'' H'' ⟨G'',e'',r'',s'',h''⟩;!⟨ps.length-(k+1),by omega,rfl,hlt,G'',e'',r'',s'',h''⟩
  ·#hp:ps[k]?=some ((ps[k]).1,(ps[k]).2):=by grind
   ~⟨g3,hgo⟩:=W0.yld k G' H' v H2 s' r'.sub hy _ _ hp;rw[x9q hp]at h';!hgo i j σ' _ λy z py pz=>y12 (p:=((ps[k]).1,(ps[k]).2)) (r'.grow g3) s' py pz h' λG'' σ'' H'' e'' r'' s'' h''=>⟨G'',e'',r'',s'',h''⟩
 ·#:k=ps.length:=by omega
  subst this;rw[w3s]at h';!.inl ⟨W0.stop _ G' H' s' r'.sub oM,h' G' σ' H' r' s'⟩
nD pairsW:List W->Option (List (W×W))
 |[]=>some []
 |.tup [u,v]::ws=>(pairsW ws).map ((u,v)::·)
 |_=>none
nD srcP(d:Den W):Den (List (W×W)):=λe=>(d e).bind λw e1=>match seqW w with
 |some ws=>ofOpt (pairsW ws) e1
 |none=>.no
tm x37:∀{ws:List W}{ps:List (W×W)},pairsW ws=some ps->ws.length=ps.length/\∀(i:Nat) u v,ps[i]?=some (u,v)->ws[i]?=some (.tup [u,v])
 |[],ps,h=>by @h;grind
 |w::ws,ps,h=>by
  unfold pairsW at h;split at h
  ·rename_i z;@z
  ·rename_i u v ws' z;@z;~⟨q,hq,rfl⟩:=w0x.mp h;~⟨h1,h2⟩:=x37 hq
   grind
  ·@h
tm x38(W0:Walk J xs SQ)(rp:Reps K G1 ws xs)(hp:pairsW ws=some ps)(hSQ:∀G' H',Same G1 G'->Same G' H'->SQ H'):Walk2 K G1 J ps:=by
 ~⟨hl,hg⟩:=x37 hp;#hx:=rp.length;rF⟨λi G H a b h=>W0.go i H (hSQ G H a b) oM,λi G H x H' a b hy u v h=>?_,λi G H a b h=>W0.stop i H (hSQ G H a b) oM⟩
 #hlt:i<ps.length:=(w0m.mp h).1;~⟨rfl,hx'⟩:=W0.yld i H x H' (hSQ G H a b) hy oM;rF⟨Grow.refl b,λm n σ Q hQ=>?_⟩
 ~⟨w,hw,pw⟩:=rp.getV hx';rw[hg i u v h]at hw;@hw;#pw:=Rep.mono a _ pw;~⟨c,ys,rfl,hq,y1,q1,rfl,p1,y2,q2,rfl,p2,rfl⟩:=pw;!⟨c,[y1,y2],rfl,b.tup hq,rfl,y1,[y2],rfl,y2,[],rfl,rfl,hQ y1 y2 p1 p2⟩
tm x6d(hl:DE Z X EE l d0):DI Z X EE tg l (srcP d0):=by
 rF PI.mono (x13 hl) ?_;rintro σ H RR ⟨G,e,rel,h⟩;simp only[srcP,R.holds_bind]at h;rF⟨G,e,rel,h.imp (λw e1 h G1 v1 H1 r1 s1 p1=>?_) λ_ _ h=>h⟩
 split at h
 ·rename_i ws hw;~⟨ps,hp,h⟩:=ofOpt_holds.mp h;cases w with
  |tup us=>
   @hw;~⟨a,xs,rfl,hq,rp⟩:=p1;!⟨a,rfl,.inr ⟨⟨xs,r1.sub.tup hq⟩,h _ _ _ r1 s1 (x38 y1c rp hp λG' H' s s'=>Same.tup s' (Same.tup s hq))⟩⟩
  |lst us=>
   @hw;~⟨a,xs,rfl,hq,rp⟩:=p1;!⟨a,rfl,.inl ⟨⟨xs,r1.sub.seq hq⟩,h _ _ _ r1 s1 (x38 y1b rp hp λG' H' s s'=>Same.seq s' (Same.seq s hq))⟩⟩
  |_=>@hw
 ·!h.elim
nD enumL:Nat->List W->List (W×W)
 |_,[]=>[]
 |k,w::ws=>(.int k,w)::enumL (k+1) ws
nD srcE(dA:Den (List W)):Den (List (W×W)):=λe=>(dA e).bind λws e1=>match ws with
 |[.lst us]=>.ok (enumL 0 us) e1
 |_=>.no
tm q89:∀(k:Nat)(ws:List W),(enumL k ws).length=ws.length
 |_,[]=>rfl
 |k,w::ws=>by simp[enumL,q89 (k+1) ws]
tm q9a:∀(k:Nat)(ws:List W)(i:Nat)(u v:W),(enumL k ws)[i]?=some (u,v)->u=.int ((k+i:Nat):Int)/\ws[i]?=some v
 |_,[],i,u,v,h=>by simp[enumL]at h
 |k,w::ws,i,u,v,h=>by
  cases i with
  |zero=>
   #e:(W.int k,w)=(u,v):=Option.some.inj h
   grind
  |succ i=>
   #h:(enumL (k+1) ws)[i]?=some (u,v):=h;~⟨h1,h2⟩:=q9a (k+1) ws i u v h
   grind
nD Ite(K:PySem.W.Frag)(a:Addr):It:=
 ⟨λi H=>∃xs x,SqL K H a xs/\xs[i]?=some x,λi H x H'=>∃b y,x=.ref b/\H b=none/\(∀xs,SqL K H a xs->xs[i]?=some y)/\H'=upd H b (.tup [.int i,y]),λi H=>∃xs,SqL K H a xs/\xs.length<=i⟩
tm q9b{fp:List Addr}{b:Addr}(I:Inv X pins σ H s)(k:∀b o,b∉fp->s.heap.get? b=some o->h'.get? b=some o)(hf:∀b∈fp,FpOk X pins H b)(hp:s.heap.objs.size<=b)(new:ObjOk X.prog X.w (upd H b o) h' b o):Inv X pins σ (upd H b o) {s with heap:=h',toks:=t'}:=by
 #hn:H b=none:=I.hok.fresh hp;#ne:∀c u,H c=some u->c≠b:=λc u e=>q0p e hn
 #nfp:∀c u,H c=some u->c∉fp:=λc u e z=>by rw[(hf c z).1]at e;@e
 #lt:∀c o,s.heap.get? c=some o->c≠b:=λc o e=>w0w (w0s (Heap.lt_size e) hp)
 rF I.step (g':=s.gens) (d':=s.drawn) (ch:=fp) (λc hc=>?_) (λc o _ _ hc e _=>k c o hc e) (λc o _ _ hc e _=>⟨o.slots,k c o hc e⟩) (λc o _ e n=>by grind [q0g])
  (λc o hc e=>⟨o,k c o hc e⟩) (λc xs e=>by grind [q0g]) (λc o u e=>by grind [q0g]) (λc ps e=>⟨#[],by grind [q0g]⟩) (λm hm=>?_) (λc u e=>?_) I.bare
 ·~⟨f0,f1,f2,f3,f4,f5⟩:=hf c hc
  grind
 ·~⟨o,es,ep,ho,r⟩:=hm;!⟨o,es,ep,k _ o (λz=>(hf _ z).2.1 rfl) ho,r⟩
 ·by_cases hb:c=b
  ·grind [q0k]
  ·rw[q0g hb]at e;rF(I.hok c u e).stay (λd v hd q=>k d v ?_ q) (λd q=>by grind [q0g]) λd xs _ q=>by grind [q0g]
   grind
tm y13(a e it)(hne:e≠it):Turn P w K (.Tuple elts kt pt) (Ite K a) [e,it] e (λi h=>∃old,PySem.IsEnum h e it (i:Nat) old/\h.IsListIter it a i) where
 mem:=by simp
 obj:=λi h ⟨old,st1,st2⟩ b hb=>by
  simp only[w0d,w0h,or_false]at hb;rcases hb with rfl|rfl
  ·grind
  ·~⟨o,e,c,d⟩:=st2
   grind
 keep:=λi h h' ⟨old,st1,st2⟩ k=>⟨old,k e (by simp) _ st1,st2.at λo e=>k it (by simp) o e⟩
 item:=by
  intro X hP hw hK hc i pins s σ H E I hf st hg;subst hP hw hK;~⟨old,st1,st2⟩:=st;~⟨xs,x,hq,hx⟩:=hg;~⟨its,rv,p,hz⟩:=I.list hq;~⟨u,hu,ru⟩:=rv.get hx;rF wpAny_pyNext_enum_item st1 st2 p.isList (x:=u) (by simpa using hu) hne λh1 heo hit1 ht1 hz1 hk1=>⟨_,rfl,?_⟩
  rF wpAny_letOwnedTupleGo_enum heo λh2 he2 hs2=>?_
  #hs2:Heap.SameBut e h1 h2:=hs2;#hlt:e<s.heap.objs.size:=Heap.lt_size st1;#hfr:H s.heap.objs.size=none:=I.hok.fresh (w0b _);#ht2:h2.get? s.heap.objs.size=some {cls:=.type "tuple", data:=.seq #[.int i s.toks,u]}:=(hs2.2 _ (w2t hlt)).trans ht1;rF⟨.ref s.heap.objs.size,upd H s.heap.objs.size (.tup [.int i,x]),?_,rfl,⟨_,x,rfl,hfr,λys hy=>by rw[I.list_inj hy hq];!hx,rfl⟩,⟨u,he2,?_⟩,λb hb=>?_⟩
  ·show L2.Inv X pins σ _ {s with heap:=h2,toks:=s.toks+1};rF q9b (fp:=[e,it]) I (λb o hb q=>?_) hf (w0b _) ⟨?_,[.int i s.toks,u],.cons ⟨_,rfl⟩ (.cons ru .nil),⟨_,ht2,rfl,?_⟩,⟨_,ht2,rfl⟩⟩
   ·simp only[w0d,w0h,or_false,not_or]at hb;!(hs2.2 b hb.1).trans (hk1 b o hb.1 hb.2 q)
   all_goals grind [sizeLine_eq]
  ·!hit1.at λo q=>(hs2.2 it (Ne.symm hne)).trans q
  ·#:b≠s.heap.objs.size:=by
    obtain⟨o,q,_⟩:∃o,s.heap.get? b=some o/\True:=by
     simp only[w0d,w0h,or_false]at hb;rcases hb with rfl|rfl
     ·grind
     ·~⟨o,e,_⟩:=st2;grind
    !w0w (Heap.lt_size q)
   rw[q0g this];!(hf b hb).1
 done:=by
  intro X hP hw hK hc i pins s σ H E I hf st hg;subst hP hw hK;~⟨old,st1,st2⟩:=st;~⟨xs,hq,hx⟩:=hg;~⟨its,rv,p,hz⟩:=I.list hq;~⟨f0,f1,f2,f3,f4,f5⟩:=hf it (by simp);#hl:=rv.length;!wpAny_pyNext_enum_end (I.ok.hd hc) st1 st2 p.isList (by simp;omega) λh' eb=>⟨rfl,I.turned (t':=s.toks) (λb o hb e=>eb b o hb e) f0 f1 f3 f4 f5⟩
 self:=λ_ _ _ _ _ ⟨old,st1,_⟩ h=>wpAny_pyIter_enum st1 h
nD iEnum(K:PySem.W.Frag)(ta:TA):TI:=λσ H R=>ta σ H λvs H1=>∃a,vs=[.ref a]/\(∃xs,SqL K H1 a xs)/\R (Ite K a) H1
tm y9t{ta:TA}{p:Pos}(hg:Gl X "enumerate")(hm:X.mg "enumerate"=none)(ha:PA X [a] ta)(hs:starEach [a] X.env=[(false,eval a X.env)]:=by rfl):PI X (.Tuple elts kt pt) (.Call (.Name "enumerate" p) [a] [] pos) (iEnum X.K ta):=by
 intro pins s σ H R I h;rF PyProof.Rows.Call_ (q30 I hg hm PyProof.Rows.boot_enumerate (PyProof.Rows.callWith_type1 (thn (ha pos pins s σ H _ I h) λus s1 ⟨vs,H1,I1,r1,q1⟩=>?_) hs rfl))
 ~⟨l,e,⟨xs,hq⟩,q⟩:=q1;subst e;cases r1 with
 |cons r rr=>
  @rr;@r;~⟨its,rv,p,hz⟩:=I1.list hq;rF call_enumerate_list p.isList λh' he hit hsz hk=>?_
  rF wpAny_pyIter_enum he ?_;rF⟨s1.heap.objs.size+1,[s1.heap.objs.size+1,s1.heap.objs.size],_,_,H1,rfl,I1.kept (t':=s1.toks) hk,y13 l _ _ (w4o _),⟨_,he,hit⟩,λb hb=>?_,q⟩
  simp only[w0d,w0h,or_false]at hb;rcases hb with rfl|rfl
  ·!I1.fpOk oM (I1.hok.fresh oM)
  ·!I1.fpOk (w0b _) (I1.hok.fresh (w0b _))
tm x9r(rp:Reps K G1 ws xs)(hq:SqL K G1 b xs):Walk2 K G1 (Ite K b) (enumL 0 ws):=by
 #hx:=rp.length;#hl:=q89 0 ws;rF⟨λi G H s s' h=>⟨xs,xs[i]' oM,Same.seq s' (Same.seq s hq),by simp⟩,λi G H x H' s s' hy u v h=>?_,λi G H s s' h=>⟨xs,Same.seq s' (Same.seq s hq),by omega⟩⟩
 ~⟨c,y,rfl,hn,hx',rfl⟩:=hy;~⟨hu,hv⟩:=q9a 0 ws i u v h;~⟨w,hw,pw⟩:=rp.getV (hx' xs (Same.seq s' (Same.seq s hq)));rw[hv]at hw;@hw;rF⟨Grow.hid s' hn _,λm n σ Q hQ=>⟨c,[.int i,y],rfl,SqT.of q0k,rfl,.int i,[y],rfl,y,[],rfl,rfl,hQ _ _ ?_ (Rep.mono s _ pw)⟩⟩
 rw[hu,w4d];!rfl
tm y9u{p:Pos}(hm:X.mg "enumerate"=none)(ha:DA Z X EE [a] dA)(hg:Gl X "enumerate":=by rfl)(hs:starEach [a] X.env=[(false,eval a X.env)]:=by rfl):DI Z X EE (.Tuple elts kt pt) (.Call (.Name "enumerate" p) [a] [] pos) (srcE dA):=by
 rF PI.mono (y9t hg hm ha hs) ?_;rintro σ H RR ⟨G,e,rel,h⟩;simp only[srcE,R.holds_bind]at h;rF⟨G,e,rel,h.imp (λws e1 h G1 vs H1 r1 s1 p1=>?_) λ_ _ h=>h⟩
 split at h
 ·rename_i us;~⟨y,r,rfl,e1,e2⟩:=p1;cases(show r=[]from e2);~⟨b,xs,rfl,hq,rp⟩:=e1;!⟨b,rfl,⟨xs,r1.sub.seq hq⟩,h _ _ _ r1 s1 (x9r rp hq)⟩
 ·!h.elim
end
section
variable{w:W}{ps:List (W×W)}{c:Prop} [Decidable c]{s t:SR}{k:List S->SR}{st:S}
tm y9v:dForP i j di b e=(di e).stm λps e1=>forP i j b ps e1:=rfl
tm q2o:forP i j b (p::ps) e=(b ((e.set i (.fr p.1)).set j (.fr p.2))).turnT (forP i j b ps):=rfl
tm q07:(SR.nx e).turnT k=k e:=rfl
tm y49:(SR.ct e).turnT k=k e:=rfl
tm y5a:(SR.bk e).turnT k=.nx e:=rfl
tm y5b:(SR.rt st e).turnT k=.rt st e:=rfl
tm x6e:(SR.ex v e).turnT k=.ex v e:=rfl
tm y5c:(SR.no).turnT k=.no:=rfl
tm y14:(if c then s else t).turnT k=if c then s.turnT k else t.turnT k:=by split<;>rfl
nD srcEW(e:List S):List W->R (List (W×W))
 |[.lst us]=>.ok (enumL 0 us) e
 |_=>.no
tm z5t:srcE dA e=(dA e).bind λws e1=>srcEW e1 ws:=by
 unfold srcE;congr 1
tm y9w:srcEW e [.lst ws]=.ok (enumL 0 ws) e:=rfl
nD srcPW(e:List S):Option (List W)->R (List (W×W))
 |some ws=>ofOpt (pairsW ws) e
 |none=>.no
tm z5u:srcP d e=(d e).bind λw e1=>srcPW e1 (seqW w):=by
 unfold srcP;congr 1
tm x9s:srcPW e (some ws)=ofOpt (pairsW ws) e:=rfl
end
tm y15(l)(items)(n)(x)(u)(dd)(sl)(hc0:¬(!Builtin.List.listFitsIndex x)=true)(hc1:¬items.size*x.toNat>(2^63-1) / 8)(hc2:¬Builtin.List.listTooLong (items.size*x.toNat)=true):
  Meets (Builtin.«list.__mul__» ⟨[.ref l,.int x u],[]⟩) (λ_ R s=>s.heap.get? l=some {cls:=.type "list", dict:=dd,data:=.seq items n,slots:=sl}/\R (.ok (.ret (Value.ref s.heap.objs.size))) {s with heap:=s.heap.push {cls:=Value.type "list", data:=Data.seq (List.foldl (λx1 x2=>x1++x2) #[] (List.replicate (if items.isEmpty=true then 0 else x.toNat) items))},toks:=s.toks}):=
 .of_wp λprog w A R s h=>by
  ~⟨hp,g,d,tk,os⟩:=s;~⟨hl,h⟩:=h;#hsz:=PySem.AutoListH.joined_fits hc2
  wp_walk;rF wpAny_ite_false (decide_eq_false (w4j.mpr hsz)) ?_;wp_walk;!⟨_,rfl,h⟩
tm y16(a)(t)(l)(items)(n)(dd)(sl):
  Meets (Builtin.«int.__rmul__» ⟨[.int a t,.ref l],[]⟩) (λ_ R s=>s.heap.get? l=some {cls:=.type "list", dict:=dd,data:=.seq items n,slots:=sl}/\R (.ok (.ret Value.notImplemented)) s):=
 .of_wp λprog w A R s h=>by ~⟨hp,g,d,tk,os⟩:=s;~⟨hl,h⟩:=h;wp_walk;!⟨_,rfl,h⟩
nD rRepS(K:PySem.W.Frag):R2:=λx y H Q=>∃l k xs,x=.ref l/\y=.int k/\SqL K H l xs/\-(2^63)<=k/\k<2^63/\xs.length*k.toNat<=sizeLine /\
 ∀p,H p=none->Q (.ref p) (upd H p (.lst (List.replicate k.toNat xs).flatten))
tm y9x:OpR X (binaryOp .Mult) (rRepS X.K):=by
 intro pins s σ H x y v u Q I rx ry h;~⟨l,k,xs,rfl,rfl,hH,h1,h2,hz,q⟩:=h;@rx;~⟨t,rfl⟩:=ry;~⟨its,r,p1,_⟩:=I.list hH;~⟨⟨cls,dd,data,sl⟩,ho,hc,n,hd⟩:=id p1.isList;simp only at hc hd;subst hc hd;#hl:=r.length;#hlen:its.toArray.size*k.toNat<=sizeLine:=by grind
 #hcap:¬its.toArray.size*k.toNat>(2^63-1) / 8:=by
  grind [sizeLine]
 #hfit:¬(!Builtin.List.listFitsIndex k)=true:=by
  simp_all [fitsIndex_both]
 #hlong:¬Builtin.List.listTooLong (its.toArray.size*k.toNat)=true:=by
  simp_all [notLongL]
 #hnew:List.foldl (λx1 x2=>x1++x2) #[] (List.replicate (if its.toArray.isEmpty=true then 0 else k.toNat) its.toArray)=(List.replicate k.toNat its).flatten.toArray:=by
  #f0:∀m:Nat,List.foldl (λx1 x2=>x1++x2) #[] (List.replicate m its.toArray)=(List.replicate m its).flatten.toArray:=λm=>by
   grind [x3w]
  rw[f0];cases its with
  |nil=>simp
  |cons a r'=>rw[if_neg (by simp)]
 rF wpAny_binaryOp_repeat_ref (T:="list") (U:="int") (by decide) ⟨_,ho,rfl⟩ (λs'=>typeIs_int s' k t) noFill_list_mul F.fills_int_mul F.slot_int_rmul repeat_list F.slot_int_index.lookup
  (PySem.call_meets F.slot_int_rmul (typeIs_int s k t) F.entry_int_rmul (F.args_int_rmul_2 _ _) (y16 k t l its.toArray n dd sl)
   ⟨ho,rfl,⟨_,ho,rfl⟩,PySem.call_meets F.slot_list_mul ⟨_,ho,rfl⟩ F.entry_list_mul (F.args_list_mul_2 _ _) (y15 l its.toArray n k t dd sl hfit hcap hlong) ⟨ho,?_⟩⟩)
 rw[hnew];!⟨.ref _,_,I.lnew (t':=s.toks) (r.rep k.toNat) (by grind [y75]),rfl,q _ I.fresh⟩
nD repW:W->W->Option W
 |.lst ws,.int k=>if okI k=true/\ws.length*k.toNat<=16777216 then some (.lst (List.replicate k.toNat ws).flatten)else none
 |_,_=>none
tm x6f(r:Reps K G ws xs):∀k:Nat,Reps K G (List.replicate k ws).flatten (List.replicate k xs).flatten
 |0=>rfl
 |k+1=>by
  rw[w1n,w1n,w2w,w2w];!r.append (x6f r k)
tm z5v:Op2 K (rRepS K) repW:=by
 intro G H x y wx wy w Q s px py hf h;unfold repW at hf;split at hf
 ·rename_i ws k;split at hf
  ·rename_i hc;@hf;cases(show y=V.int k from py);~⟨l,xs,rfl,hq,rp⟩:=px;#hb:=q4v hc.1;rF⟨l,k,xs,rfl,rfl,s.seq hq,by omega,by omega,by rw[sizeLine_eq,rp.length];!hc.2,λp hp=>?_⟩
   #g:Grow G H (upd G p (.lst (List.replicate k.toNat xs).flatten)) (upd H p (.lst (List.replicate k.toNat xs).flatten)):=Grow.laid s hp _;!h _ _ _ g ⟨p,_,rfl,SqL.of q0k,Reps.mono g.gg _ (x6f rp _)⟩
  ·@hf
 ·@hf
tm y17(ha:DE Z X EE a da)(hb:DE Z X EE b db):DE Z X EE (.BinOp a .Mult b pos) (dOp repW da db):=q7f y9x z5v ha hb
tm z5w:repW (.lst ws) (.int k)=if okI k=true/\ws.length*k.toNat<=16777216 then some (.lst (List.replicate k.toNat ws).flatten)else none:=rfl
section
variable{w:World}
tm q9c(gi:s.heap.IsTupleIter j b k)(gt:s.heap.IsTuple b vs)(gx:vs[k]?=some x)
  (hQ:∀h',h'.IsTupleIter j b (k+1)->Heap.SameBut j s.heap h'->Q x {s with heap:=h'}):wpAny (model prog w) A (Builtin.SmallTypes.nextOf (.ref j)) Q E s:=by
 ~⟨o,ho,hc,hd⟩:=id gi;~⟨ot,hot,_,m,hdt⟩:=gt;unfold Builtin.SmallTypes.nextOf;rF wpAny_bind (wpAny_callSpecial?_slot (name:=Str.ofString "__next__") gi.typeIs F.slot_tuple_iterator_next (wpAny_call_entry F.slot_tuple_iterator_next gi.typeIs F.entry_tuple_iterator_next ?_ (F.args_tuple_iterator_next_1 _)));show wpAny _ _ (field (.ref j) 0 >>= _) _ _ s;rF wpAny_bind (wpAny_field ho hd (x:=.ref b) rfl ?_);show wpAny _ _ (if(Value.ref b==Value.none)=true then _ else _) _ _ s;rw[if_neg (show ¬((Value.ref b==Value.none)=true)from w1j)];show wpAny _ _ (field (.ref j) 1 >>= _) _ _ s;rF wpAny_bind (wpAny_field ho hd (x:=.int k 0) rfl ?_);show wpAny _ _ (seqItems? (.ref b) >>= _) _ _ s;rF wpAny_bind (wpAny_seqItems hot hdt ?_);simp only[w2b,gx];rF wpAny_bind (wpAny_setField ho hd (by simp) (wpAny_pure ⟨x,rfl,wpAny_pure (hQ _ ⟨_,Heap.get?_update_self _ ho (Obj.isFreed_of_fields (Obj.data_mapFields hd _)),(Obj.cls_mapFields ..).trans hc,by grind [Obj.data_mapFields,rawInt]⟩ (Heap.SameBut.update ..))⟩))
tm q7o(hh:A.handled=none)(gi:s.heap.IsTupleIter j b k)(gt:s.heap.IsTuple b vs)(gx:vs[k]?=none)
  (hE:∀h' e,Heap.ExtBut j s.heap h'->(∃o,h'.get? e=some o/\o.cls=.type "StopIteration")->E (.ref e) {s with heap:=h'}):wpAny (model prog w) A (Builtin.SmallTypes.nextOf (.ref j)) Q E s:=by
 ~⟨o,ho,hc,hd⟩:=id gi;~⟨ot,hot,_,m,hdt⟩:=gt;unfold Builtin.SmallTypes.nextOf;rF wpAny_bind (wpAny_callSpecial?_slot (name:=Str.ofString "__next__") gi.typeIs F.slot_tuple_iterator_next (wpAny_call_entry F.slot_tuple_iterator_next gi.typeIs F.entry_tuple_iterator_next ?_ (F.args_tuple_iterator_next_1 _)));show wpAny _ _ (field (.ref j) 0 >>= _) _ _ s;rF wpAny_bind (wpAny_field ho hd (x:=.ref b) rfl ?_);show wpAny _ _ (if(Value.ref b==Value.none)=true then _ else _) _ _ s;rw[if_neg (show ¬((Value.ref b==Value.none)=true)from w1j)];show wpAny _ _ (field (.ref j) 1 >>= _) _ _ s;rF wpAny_bind (wpAny_field ho hd (x:=.int k 0) rfl ?_);show wpAny _ _ (seqItems? (.ref b) >>= _) _ _ s;rF wpAny_bind (wpAny_seqItems hot hdt ?_);simp only[w2b,gx];rF wpAny_bind (wpAny_rule (wpAny_bind (wpAny_setField ho hd (by simp) ?_)));show wpAny _ _ (newExc (.type "StopIteration") [] >>= _) _ _ _;rF wpAny_bind ?_;simp only[newExc,newTuple];rF wpAny_bind (wpAny_newObj_type ?_ (by size_fits));rF wpAny_bind (m:=firstArgMember _ _) (wpAny_of_eq (a:=Value.none) (by first|rfl|(simp only[firstArgMember];rfl)) (wpAny_newObj_type ?_ (by size_fits)));simp only[raiseNew];rF wpAny_bind (wpAny_handled ?_)
 first|rw[show A.in1.handled=none from hh]|rw[hh]
 rF wpAny_bind (wpAny_pure (wpAny_throw (hE _ _ (((Heap.SameBut.update ..).extBut.push _).push _) ⟨_,Heap.get?_push_size _ rfl,rfl⟩)))
nD IsIt(t:Bool)(j b:Addr)(k:Nat)(h:Heap):Prop:=if t=true then h.IsTupleIter j b k else h.IsListIter j b k
nD IsSq(t:Bool)(b:Addr)(vs:Array Value)(h:Heap):Prop:=if t=true then h.IsTuple b vs else h.IsList b vs
tm IsIt.keep(x:IsIt t j b k h)(e:∀o,h.get? j=some o->h'.get? j=some o):IsIt t j b k h':=by
 cases t with
 |true=>~⟨o,ho,r⟩:=(show h.IsTupleIter j b k from x);!⟨o,e o ho,r⟩
 |false=>~⟨o,ho,r⟩:=(show h.IsListIter j b k from x);!⟨o,e o ho,r⟩
tm IsIt.obj(x:IsIt t j b k h):∃o,h.get? j=some o/\∀v,o.data≠.cell v:=by
 cases t with
 |true=>~⟨o,ho,c,d⟩:=(show h.IsTupleIter j b k from x);grind
 |false=>~⟨o,ho,c,d⟩:=(show h.IsListIter j b k from x);grind
tm IsSq.keep(x:IsSq t b vs h)(e:∀o,h.get? b=some o->h'.get? b=some o):IsSq t b vs h':=by
 cases t with
 |true=>~⟨o,ho,r⟩:=(show h.IsTuple b vs from x);!⟨o,e o ho,r⟩
 |false=>~⟨o,ho,r⟩:=(show h.IsList b vs from x);!⟨o,e o ho,r⟩
tm q6l(gi:IsIt t j b k s.heap)(gt:IsSq t b vs s.heap)(gx:vs[k]?=some x)
  (hQ:∀h',IsIt t j b (k+1) h'->Heap.SameBut j s.heap h'->Q x {s with heap:=h'}):wpAny (model prog w) A (Builtin.SmallTypes.nextOf (.ref j)) Q E s:=by
 cases t with
 |true=>!q9c gi gt gx hQ
 |false=>!wpAny_nextOf_list_item gi gt gx hQ
tm x2c(hh:A.handled=none)(gi:IsIt t j b k s.heap)(gt:IsSq t b vs s.heap)(gx:vs[k]?=none)
  (hE:∀h' e,Heap.ExtBut j s.heap h'->(∃o,h'.get? e=some o/\o.cls=.type "StopIteration")->E (.ref e) {s with heap:=h'}):wpAny (model prog w) A (Builtin.SmallTypes.nextOf (.ref j)) Q E s:=by
 cases t with
 |true=>!q7o hh gi gt gx hE
 |false=>!wpAny_nextOf_list_end hh gi gt gx hE
structure Apart(z I O i j a b:Addr):Prop where
 Iz:I≠z
 Oz:O≠z
 iz:i≠z
 jz:j≠z
 IO:I≠O
 Ii:I≠i
 Ij:I≠j
 Oi:O≠i
 Oj:O≠j
 ij:i≠j
 az:a≠z
 aO:a≠O
 ai:a≠i
 aj:a≠j
 bz:b≠z
 bO:b≠O
 bi:b≠i
 bj:b≠j
tm y9y{i:Addr}{q:Value}{Q:Value->Shared->Prop}(D:Apart z I O i j a b)
  (gz:IsZip s.heap z I O .none)(gI:IsPair s.heap I (.ref i) (.ref j))(gO:IsPair s.heap O p q)
  (g1:IsIt t i a k s.heap)(g2:IsIt u j b k s.heap)(l1:IsSq t a xs s.heap)(l2:IsSq u b ys s.heap)(hx:xs[k]?=some x)(hy:ys[k]?=some y)
  (hQ:∀h',IsZip h' z I O (rawInt s.heap.objs.size)->IsPair h' O x y->IsIt t i a (k+1) h'->IsIt u j b (k+1) h'->IsPair h' s.heap.objs.size x y->h'.objs.size=s.heap.objs.size+1 ->
   (∀c o,c≠z->c≠O->c≠i->c≠j->s.heap.get? c=some o->h'.get? c=some o)->Q (.ref s.heap.objs.size) {s with heap:=h'}):
  wpAny (model prog w) A (Builtin.«zip.__next__» ⟨[.ref z],[]⟩) (λfin s'=>∃v,fin=.done (.ret v)/\Q v s') E s:=by
 show wpAny _ _ (field (.ref z) 2 >>= _) _ _ _;rF wpAny_bind (wpAny_field gz rfl (x:=.bool false) rfl ?_);show wpAny _ _ (field (.ref z) 3 >>= _) _ _ _;rF wpAny_bind (wpAny_field gz rfl (x:=.ref I) rfl (wpAny_bind (wpAny_seqItems gI rfl ?_)));show wpAny _ _ (Builtin.SmallTypes.ownedTupleIsFree (.ref z) >>= _) _ _ _;rF wpAny_bind ?_;unfold Builtin.SmallTypes.ownedTupleIsFree;rF wpAny_bind (wpAny_field gz rfl (x:=.none) rfl (wpAny_pure ?_));simp only[if_true];rF wpAny_bind (wpAny_rule (wpAny_bind (wpAny_field gz rfl (x:=.ref O) rfl (wpAny_bind (wpAny_setField_rec gz (by simp) λha za sa=>?_)))))
 replace za:IsZip ha z I O .ellipsis:=za
 rF wpAny_bind ?_;simp only[List.zipIdx_cons,List.zipIdx_nil,w2j,w4f];rF wpAny_bind (wpAny_bind (wpAny_onRaise ?_));show wpAny _ _ (Builtin.SmallTypes.nextOf (.ref i) >>= _) _ _ _;rF wpAny_bind (q6l (s:={s with heap:=ha}) (g1.keep λo e=>sa.extBut _ _ D.iz e) (l1.keep λo e=>sa.extBut _ _ D.az e) hx λhb ib sb=>wpAny_pure ?_)
 #Ob:IsPair hb O p q:=sb.extBut _ _ D.Oi (sa.extBut _ _ D.Oz gO);rF wpAny_bind (wpAny_seqItems Ob rfl (wpAny_bind (wpAny_updateSeq_pair Ob λhc Oc sc=>?_)))
 replace Oc:IsPair hc O x q:=Oc
 rF wpAny_bind (wpAny_letGo (wpAny_pure (wpAny_bind (wpAny_bind (wpAny_onRaise ?_)))));show wpAny _ _ (Builtin.SmallTypes.nextOf (.ref j) >>= _) _ _ _;rF wpAny_bind (q6l (s:={s with heap:=hc}) (g2.keep λo e=>sc.extBut _ _ D.Oj.symm (sb.extBut _ _ D.ij.symm (sa.extBut _ _ D.jz e))) (l2.keep λo e=>sc.extBut _ _ D.bO (sb.extBut _ _ D.bi (sa.extBut _ _ D.bz e))) hy λhd jd sd=>wpAny_pure ?_)
 #Od:IsPair hd O x q:=sd.extBut _ _ D.Oj Oc;rF wpAny_bind (wpAny_seqItems Od rfl (wpAny_bind (wpAny_updateSeq_pair Od λhe Oe se=>?_)))
 replace Oe:IsPair he O x y:=Oe
 rF wpAny_bind (wpAny_letGo (wpAny_pure (wpAny_pure (wpAny_bind (wpAny_seqItems Oe rfl (wpAny_bind (wpAny_newTuple ?_)))))));#sz:he.objs.size=s.heap.objs.size:=by rw[se.1,sd.1,sc.1,sb.1,sa.1]
 #ze:IsZip he z I O .ellipsis:=se.extBut _ _ D.Oz.symm (sd.extBut _ _ D.jz.symm (sc.extBut _ _ D.Oz.symm (sb.extBut _ _ D.iz.symm za)));#ke:∀c o,c≠z->c≠O->c≠i->c≠j->s.heap.get? c=some o->he.get? c=some o:=λc o c1 c2 c3 c4 e=>se.extBut _ _ c2 (sd.extBut _ _ c4 (sc.extBut _ _ c2 (sb.extBut _ _ c3 (sa.extBut _ _ c1 e))))
 #ie:IsIt t i a (k+1) he:=ib.keep λo e=>se.extBut _ _ D.Oi.symm (sd.extBut _ _ D.ij (sc.extBut _ _ D.Oi.symm e))
 #je:IsIt u j b (k+1) he:=jd.keep λo e=>se.extBut _ _ D.Oj.symm e
 #zlt:z<he.objs.size:=Heap.lt_size ze;show wpAny _ _ (Builtin.SmallTypes.ownedTupleHandOut (.ref z) (.ref he.objs.size) >>= _) _ _ _;rF wpAny_bind ?_;unfold Builtin.SmallTypes.ownedTupleHandOut;#zf:IsZip (he.push {cls:=.type "tuple", data:=.seq #[x,y]}) z I O .ellipsis:=Heap.get?_push_of_some _ ze;rF wpAny_bind (wpAny_setField_rec zf (by simp) λhg zg sg=>?_)
 replace zg:IsZip hg z I O (rawInt he.objs.size):=zg
 rF wpAny_setField_rec zg (by simp) λhk zk sk=>?_
 replace zk:IsZip hk z I O (rawInt he.objs.size):=zk
 #up:∀c o,c≠z->he.get? c=some o->hk.get? c=some o:=λc o c1 e=>sk.extBut _ _ c1 (sg.extBut _ _ c1 (Heap.get?_push_of_some _ e))
 #Tk:IsPair hk he.objs.size x y:=sk.extBut _ _ (w2t zlt) (sg.extBut _ _ (w2t zlt) (Heap.get?_push_size _ rfl));#nk:hk.objs.size=he.objs.size+1:=by rw[sk.1,sg.1,Heap.size_push]
 rw[sz]at zk Tk nk;rF wpAny_pure ⟨_,rfl,?_⟩;show Q (.ref he.objs.size) _;rw[sz];!hQ hk zk (up _ _ D.Oz Oe) (ie.keep λo e=>up _ o D.iz e) (je.keep λo e=>up _ o D.jz e) Tk nk λc o c1 c2 c3 c4 e=>up c o c1 (ke c o c1 c2 c3 c4 e)
tm z5x{i:Addr}{q:Value}(hh:A.handled=none)(D:Apart z I O i j a b)
  (gz:IsZip s.heap z I O .none)(gI:IsPair s.heap I (.ref i) (.ref j))(gO:IsPair s.heap O p q)
  (g1:IsIt t i a k s.heap)(g2:IsIt u j b k s.heap)(l1:IsSq t a xs s.heap)(l2:IsSq u b ys s.heap)(hend:xs[k]?=none\/ys[k]?=none)
  (hE:∀h' e,(∀c o,c≠z->c≠O->c≠i->c≠j->s.heap.get? c=some o->h'.get? c=some o)->(∃o,h'.get? e=some o/\o.cls=.type "StopIteration")->E (.ref e) {s with heap:=h'}):
  wpAny (model prog w) A (Builtin.«zip.__next__» ⟨[.ref z],[]⟩) Q E s:=by
 show wpAny _ _ (field (.ref z) 2 >>= _) _ _ _;rF wpAny_bind (wpAny_field gz rfl (x:=.bool false) rfl ?_);show wpAny _ _ (field (.ref z) 3 >>= _) _ _ _;rF wpAny_bind (wpAny_field gz rfl (x:=.ref I) rfl (wpAny_bind (wpAny_seqItems gI rfl ?_)));show wpAny _ _ (Builtin.SmallTypes.ownedTupleIsFree (.ref z) >>= _) _ _ _;rF wpAny_bind ?_;unfold Builtin.SmallTypes.ownedTupleIsFree;rF wpAny_bind (wpAny_field gz rfl (x:=.none) rfl (wpAny_pure ?_));simp only[if_true];rF wpAny_bind (wpAny_rule (wpAny_bind (wpAny_field gz rfl (x:=.ref O) rfl (wpAny_bind (wpAny_setField_rec gz (by simp) λha za sa=>?_)))))
 replace za:IsZip ha z I O .ellipsis:=za
 rF wpAny_bind ?_;simp only[List.zipIdx_cons,List.zipIdx_nil,w2j,w4f];rF wpAny_bind (wpAny_bind (wpAny_onRaise ?_));show wpAny _ _ (Builtin.SmallTypes.nextOf (.ref i) >>= _) _ _ _;cases hx:xs[k]? with
 |none=>
  rF wpAny_bind (x2c (s:={s with heap:=ha}) hh (g1.keep λo e=>sa.extBut _ _ D.iz e) (l1.keep λo e=>sa.extBut _ _ D.az e) hx λhb e sb ge=>?_)
  ~⟨oe,hoe,hce⟩:=ge;#zb:IsZip hb z I O .ellipsis:=sb _ _ D.iz.symm za;#nz:e≠z:=λx=>by grind
  rF wpAny_setField_rec zb (by simp) λhc _ sc=>hE hc e (λc o c1 _ c3 _ x=>sc.extBut _ _ c1 (sb _ _ c3 (sa.extBut _ _ c1 x))) ⟨oe,sc.extBut _ _ nz hoe,hce⟩
 |some x=>
  #hy:ys[k]?=none:=by grind
  rF wpAny_bind (q6l (s:={s with heap:=ha}) (g1.keep λo e=>sa.extBut _ _ D.iz e) (l1.keep λo e=>sa.extBut _ _ D.az e) hx λhb ib sb=>wpAny_pure ?_)
  #Ob:IsPair hb O p q:=sb.extBut _ _ D.Oi (sa.extBut _ _ D.Oz gO);rF wpAny_bind (wpAny_seqItems Ob rfl (wpAny_bind (wpAny_updateSeq_pair Ob λhc Oc sc=>?_)))
  rF wpAny_bind (wpAny_letGo (wpAny_pure (wpAny_bind (wpAny_bind (wpAny_onRaise ?_)))));show wpAny _ _ (Builtin.SmallTypes.nextOf (.ref j) >>= _) _ _ _;rF wpAny_bind (x2c (s:={s with heap:=hc}) hh (g2.keep λo e=>sc.extBut _ _ D.Oj.symm (sb.extBut _ _ D.ij.symm (sa.extBut _ _ D.jz e))) (l2.keep λo e=>sc.extBut _ _ D.bO (sb.extBut _ _ D.bi (sa.extBut _ _ D.bz e))) hy λhd e sd ge=>?_)
  ~⟨oe,hoe,hce⟩:=ge;#zd:IsZip hd z I O .ellipsis:=sd _ _ D.jz.symm (sc.extBut _ _ D.Oz.symm (sb.extBut _ _ D.iz.symm za));#nz:e≠z:=λx=>by grind
  rF wpAny_setField_rec zd (by simp) λhe _ se=>hE he e (λc o c1 c2 c3 c4 x=>se.extBut _ _ c1 (sd _ _ c4 (sc.extBut _ _ c2 (sb.extBut _ _ c3 (sa.extBut _ _ c1 x))))) ⟨oe,se.extBut _ _ nz hoe,hce⟩
tm x8g{i:Addr}{q:Value}(D:Apart z I O i j a b)
  (gz:IsZip s.heap z I O .none)(gI:IsPair s.heap I (.ref i) (.ref j))(gO:IsPair s.heap O p q)
  (g1:IsIt t i a k s.heap)(g2:IsIt u j b k s.heap)(l1:IsSq t a xs s.heap)(l2:IsSq u b ys s.heap)(hx:xs[k]?=some x)(hy:ys[k]?=some y)
  (hQ:∀h',IsZip h' z I O (rawInt s.heap.objs.size)->IsPair h' O x y->IsIt t i a (k+1) h'->IsIt u j b (k+1) h'->IsPair h' s.heap.objs.size x y->h'.objs.size=s.heap.objs.size+1 ->
   (∀c o,c≠z->c≠O->c≠i->c≠j->s.heap.get? c=some o->h'.get? c=some o)->Q (some (.ref s.heap.objs.size)) {s with heap:=h'}):wpAny (model prog w) A (pyNext (.ref z)) Q E s:=by
 #hT:s.TypeIs (.ref z) "zip":=⟨_,gz,rfl⟩;unfold pyNext;!wpAny_bind (wpAny_attempt (wpAny_callSpecial?_slot (name:=Str.ofString "__next__") hT F.slot_zip_next (wpAny_call_entry F.slot_zip_next hT F.entry_zip_next (y9y D gz gI gO g1 g2 l1 l2 hx hy λh' a1 a2 a3 a4 a5 a6 a7=>wpAny_pure (hQ h' a1 a2 a3 a4 a5 a6 a7)) (F.args_zip_next_1 _))))
tm x8h{i:Addr}{q:Value}(hh:A.handled=none)(D:Apart z I O i j a b)
  (gz:IsZip s.heap z I O .none)(gI:IsPair s.heap I (.ref i) (.ref j))(gO:IsPair s.heap O p q)
  (g1:IsIt t i a k s.heap)(g2:IsIt u j b k s.heap)(l1:IsSq t a xs s.heap)(l2:IsSq u b ys s.heap)(hend:xs[k]?=none\/ys[k]?=none)
  (hQ:∀h',(∀c o,c≠z->c≠O->c≠i->c≠j->s.heap.get? c=some o->h'.get? c=some o)->Q none {s with heap:=h'}):wpAny (model prog w) A (pyNext (.ref z)) Q E s:=by
 #hT:s.TypeIs (.ref z) "zip":=⟨_,gz,rfl⟩;unfold pyNext;rF wpAny_bind (wpAny_attempt (wpAny_callSpecial?_slot (name:=Str.ofString "__next__") hT F.slot_zip_next (wpAny_call_entry F.slot_zip_next hT F.entry_zip_next (z5x hh D gz gI gO g1 g2 l1 l2 hend λh' e hk he=>?_) (F.args_zip_next_1 _))))
 ~⟨o,ho,hc⟩:=he;!wpAny_bind (wpAny_isInstance (T:="StopIteration") (b:=true) ⟨o,ho,hc⟩ isSubtype_stop (wpAny_pure (hQ _ hk)))
end
nD itT(t:Bool):String:=if t=true then "tuple_iterator" else "list_iterator"
noncomputable abbrev zq1(t:Bool)(h:Heap)(a:Addr):Heap:=h.push {cls:=.type (itT t),data:=.fields #[.ref a,.int 0 0]}
noncomputable abbrev zq2(t u:Bool)(h:Heap)(a b:Addr):Heap:=(zq1 t h a).push {cls:=.type (itT u),data:=.fields #[.ref b,.int 0 0]}
noncomputable abbrev zq3(t u:Bool)(h:Heap)(a b:Addr):Heap:=(zq2 t u h a b).push {cls:=.type "tuple", data:=.seq #[.ref h.objs.size,.ref (zq1 t h a).objs.size]}
noncomputable abbrev zq4(t u:Bool)(h:Heap)(a b:Addr):Heap:=(zq3 t u h a b).push {cls:=.type "tuple", data:=.seq #[.none,.none]}
noncomputable abbrev zq5(t u:Bool)(h:Heap)(a b:Addr):Heap:=(zq4 t u h a b).push {cls:=.type "zip", data:=.fields #[.none,.bool false,.bool false,.ref (zq2 t u h a b).objs.size,.ref (zq3 t u h a b).objs.size]}
tm z5y(t u)(a b)(xs ys):
  Meets (Builtin.«zip.__new__» ⟨[.type "zip", .ref a,.ref b],[]⟩) (λ_ R s=>IsSq t a xs s.heap/\IsSq u b ys s.heap/\R (.ok (.ret (.ref (zq4 t u s.heap a b).objs.size))) {s with heap:=zq5 t u s.heap a b}):=
 .of_wp λprog w A R s hyp=>by
  ~⟨hp,g,d,tk,os⟩:=s;~⟨g1,g2,h⟩:=hyp;#hsub:=sub_zip;#q2:IsSq u b ys (zq1 t hp a):=g2.keep λo e=>Heap.get?_push_of_some _ e
  cases t with
  |false=>
   #p1:Heap.IsList (Shared.heap ⟨hp,g,d,tk,os⟩) a xs:=g1;cases u with
   |false=>
    #p2:Heap.IsList (Shared.heap ⟨hp.push {cls:=.type "list_iterator", data:=.fields #[.ref a,.int 0 0]},g,d,tk,os⟩) b ys:=q2
    wp_walk using wpAny_pyIter_list p1,wpAny_pyIter_list p2
    !⟨_,rfl,h⟩
   |true=>
    #p2:Heap.IsTuple (Shared.heap ⟨hp.push {cls:=.type "list_iterator", data:=.fields #[.ref a,.int 0 0]},g,d,tk,os⟩) b ys:=q2
    wp_walk using wpAny_pyIter_list p1,wpAny_pyIter_tuple p2
    !⟨_,rfl,h⟩
  |true=>
   #p1:Heap.IsTuple (Shared.heap ⟨hp,g,d,tk,os⟩) a xs:=g1;cases u with
   |false=>
    #p2:Heap.IsList (Shared.heap ⟨hp.push {cls:=.type "tuple_iterator", data:=.fields #[.ref a,.int 0 0]},g,d,tk,os⟩) b ys:=q2
    wp_walk using wpAny_pyIter_tuple p1,wpAny_pyIter_list p2
    !⟨_,rfl,h⟩
   |true=>
    #p2:Heap.IsTuple (Shared.heap ⟨hp.push {cls:=.type "tuple_iterator", data:=.fields #[.ref a,.int 0 0]},g,d,tk,os⟩) b ys:=q2
    wp_walk using wpAny_pyIter_tuple p1,wpAny_pyIter_tuple p2
    !⟨_,rfl,h⟩
tm x6g(e:h.get? j=some o)(c:o.cls=.type (itT t))(d:o.data=.fields #[.ref a,.int 0 0]):IsIt t j a 0 h:=by
 cases t with
 |true=>!(show h.IsTupleIter j a 0 from⟨o,e,c,d⟩)
 |false=>!(show h.IsListIter j a 0 from⟨o,e,c,d⟩)
tm x39(g1:IsSq t a xs s.heap)(g2:IsSq u b ys s.heap)
  (h:∀h',IsZip h' (s.heap.objs.size+4) (s.heap.objs.size+2) (s.heap.objs.size+3) .none->IsPair h' (s.heap.objs.size+2) (.ref s.heap.objs.size) (.ref (s.heap.objs.size+1)) ->
   IsPair h' (s.heap.objs.size+3) .none .none->IsIt t s.heap.objs.size a 0 h'->IsIt u (s.heap.objs.size+1) b 0 h'->(∀c o,s.heap.get? c=some o->h'.get? c=some o)->Q (.ref (s.heap.objs.size+4)) {s with heap:=h'}):
  wpAny (model prog w) A (call (.type "zip") [.ref a,.ref b]) Q E s:=by
 rF callType_new F.called_zip (by decide) (F.typeCall_zip_2 _ _) (F.newCall_zip_2 _ _) (λobj=>F.args_object_init_3 obj _ _) F.entry_zip_new (z5y t u a b xs ys) ⟨g1,g2,?_⟩
 #n1:(zq1 t s.heap a).objs.size=s.heap.objs.size+1:=Heap.size_push ..;#n2:(zq2 t u s.heap a b).objs.size=s.heap.objs.size+2:=by rw[Heap.size_push,n1]
 #n3:(zq3 t u s.heap a b).objs.size=s.heap.objs.size+3:=by rw[Heap.size_push,n2]
 #n4:(zq4 t u s.heap a b).objs.size=s.heap.objs.size+4:=by rw[Heap.size_push,n3]
 #k5:(zq5 t u s.heap a b).get? (zq4 t u s.heap a b).objs.size=some _:=Heap.get?_push_size _ rfl;#k4:(zq5 t u s.heap a b).get? (zq3 t u s.heap a b).objs.size=some _:=Heap.get?_push_of_some _ (Heap.get?_push_size _ rfl);#k3:(zq5 t u s.heap a b).get? (zq2 t u s.heap a b).objs.size=some _:=Heap.get?_push_of_some _ (Heap.get?_push_of_some _ (Heap.get?_push_size _ rfl));#k2:(zq5 t u s.heap a b).get? (zq1 t s.heap a).objs.size=some _:=Heap.get?_push_of_some _ (Heap.get?_push_of_some _ (Heap.get?_push_of_some _ (Heap.get?_push_size _ rfl)));#k1:(zq5 t u s.heap a b).get? s.heap.objs.size=some _:=Heap.get?_push_of_some _ (Heap.get?_push_of_some _ (Heap.get?_push_of_some _ (Heap.get?_push_of_some _ (Heap.get?_push_size _ rfl))));#up:∀c o,s.heap.get? c=some o->(zq5 t u s.heap a b).get? c=some o:=λc o e=>Heap.get?_push_of_some _ (Heap.get?_push_of_some _ (Heap.get?_push_of_some _ (Heap.get?_push_of_some _ (Heap.get?_push_of_some _ e))))
 show _/\_;rw[n2,n3,n4]at k5;rw[n1,n2]at k3;rw[n3]at k4;rw[n1]at k2;rw[n4];!⟨⟨_,k5,rfl⟩,h _ k5 k3 k4 (x6g k1 rfl rfl) (x6g k2 rfl rfl) up⟩
nD SqG(K:PySem.W.Frag)(t:Bool)(H:Hp)(a:Addr)(xs:List V):Prop:=if t=true then SqT K H a xs else SqL K H a xs
tm q5y(I:Inv X pins σ H s)(h:SqG X.K t H a xs):∃its:List Value,Vals xs its/\IsSq t a its.toArray s.heap:=by
 cases t with
 |true=>
  ~⟨its,r,p,_⟩:=I.tuple h;!⟨its,r,(show s.heap.IsTuple a its.toArray from p)⟩
 |false=>
  ~⟨its,r,p,_⟩:=I.list h;!⟨its,r,p.isList⟩
tm y18(I:Inv X pins σ H s)(h:SqG X.K t H a xs)(h':SqG X.K t H a ys):xs=ys:=by
 cases t with
 |true=>!I.tuple_inj h h'
 |false=>!I.list_inj h h'
tm IsSq.obj(x:IsSq t a vs h):∃o,h.get? a=some o/\o.cls=.type (if t=true then "tuple" else "list"):=by
 cases t with
 |true=>~⟨o,ho,c,_⟩:=(show h.IsTuple a vs from x);!⟨o,ho,c⟩
 |false=>~⟨o,ho,c,_⟩:=(show h.IsList a vs from x);!⟨o,ho,c⟩
tm x0x{fp:List Addr}(I:Inv X pins σ H s)(k:∀b o,b∉fp->s.heap.get? b=some o->h'.get? b=some o)(hf:∀b∈fp,FpOk X pins H b):Inv X pins σ H {s with heap:=h',toks:=t'}:=by
 #nfp:∀c u,H c=some u->c∉fp:=λc u e z=>by rw[(hf c z).1]at e;@e
 rF I.step (g':=s.gens) (d':=s.drawn) (ch:=fp) (λc hc=>?_) (λc o _ _ hc e _=>k c o hc e) (λc o _ _ hc e _=>⟨o.slots,k c o hc e⟩) (λc o _ e n=>n)
  (λc o hc e=>⟨o,k c o hc e⟩) (λc xs e=>e) (λc o u e=>e) (λc ps e=>⟨#[],by rw[e];simp⟩) (λm hm=>?_) (λc u e=>?_) I.bare
 ·~⟨f0,f1,f2,f3,f4,f5⟩:=hf c hc
  grind
 ·~⟨o,es,ep,ho,r⟩:=hm;!⟨o,es,ep,k _ o (λz=>(hf _ z).2.1 rfl) ho,r⟩
 ·rF(I.hok c u e).stay (λd v hd q=>k d v ?_ q) (λd q=>q) λd xs _ q=>q
  grind
nD Itz(K:PySem.W.Frag)(t u:Bool)(a b:Addr):It:=
  ⟨λi H=>∃xs ys x y,SqG K t H a xs/\SqG K u H b ys/\xs[i]?=some x/\ys[i]?=some y,
   λi H v H'=>∃c x y,v=.ref c/\H c=none/\(∀xs,SqG K t H a xs->xs[i]?=some x)/\(∀ys,SqG K u H b ys->ys[i]?=some y)/\H'=upd H c (.tup [x,y]),
   λi H=>∃xs ys,SqG K t H a xs/\SqG K u H b ys/\(xs.length<=i\/ys.length<=i)⟩
tm y5d(t u)(a b z I O i j)(D:Apart z I O i j a b):
  Turn P w K (.Tuple elts kt pt) (Itz K t u a b) [z,I,O,i,j] z (λk h=>IsZip h z I O .none/\IsPair h I (.ref i) (.ref j)/\(∃p q,IsPair h O p q)/\IsIt t i a k h/\IsIt u j b k h) where
 mem:=by simp
 obj:=λk h ⟨s1,s2,⟨p,q,s3⟩,s4,s5⟩ c hc=>by
  simp only[w0d,w0h,or_false]at hc
  grind [IsIt.obj]
 keep:=λk h h' ⟨s1,s2,⟨p,q,s3⟩,s4,s5⟩ f=>⟨f z (by simp) _ s1,f I (by simp) _ s2,⟨p,q,f O (by simp) _ s3⟩,s4.keep λo e=>f i (by simp) o e,s5.keep λo e=>f j (by simp) o e⟩
 item:=by
  intro X hP hw hK hc k pins s σ H E Iv hf st hg;subst hP hw hK;~⟨s1,s2,⟨p,q,s3⟩,s4,s5⟩:=st;~⟨xs,ys,x,y,q1,q2,hx,hy⟩:=hg;~⟨is1,r1,p1⟩:=q5y Iv q1;~⟨is2,r2,p2⟩:=q5y Iv q2;~⟨ux,hux,rux⟩:=r1.get hx;~⟨uy,huy,ruy⟩:=r2.get hy;rF x8g D s1 s2 s3 s4 s5 p1 p2 (x:=ux) (y:=uy) (by simpa using hux) (by simpa using huy) λh1 z1 o1 i1 j1 t1 n1 k1=>⟨_,rfl,?_⟩
  rF wpAny_letOwnedTupleGo_zip z1 λh2 z2 b2=>?_
  #b2:Heap.SameBut z h1 h2:=b2;#zlt:z<s.heap.objs.size:=Heap.lt_size s1;#hfr:H s.heap.objs.size=none:=Iv.hok.fresh (w0b _);#t2:IsPair h2 s.heap.objs.size ux uy:=(b2.2 _ (w2t zlt)).trans t1;#I1:IsPair h1 I (.ref i) (.ref j):=k1 I _ D.Iz D.IO D.Ii D.Ij s2;rF⟨.ref s.heap.objs.size,upd H s.heap.objs.size (.tup [x,y]),?_,rfl,⟨_,x,y,rfl,hfr,λxs' h'=>by grind [y18],λys' h'=>by grind [y18],rfl⟩,⟨z2,(b2.2 _ D.Iz).trans I1,⟨ux,uy,(b2.2 _ D.Oz).trans o1⟩,i1.keep λo e=>(b2.2 _ D.iz).trans e,j1.keep λo e=>(b2.2 _ D.jz).trans e⟩,λc hc=>?_⟩
  ·show L2.Inv X pins σ _ {s with heap:=h2,toks:=s.toks};rF q9b (fp:=[z,I,O,i,j]) Iv (λc o hc q=>?_) hf (w0b _) ⟨?_,[ux,uy],.cons rux (.cons ruy .nil),⟨_,t2,rfl,?_⟩,⟨_,t2,rfl⟩⟩
   ·simp only[w0d,w0h,or_false,not_or]at hc;!(b2.2 c hc.1).trans (k1 c o hc.1 hc.2.2.1 hc.2.2.2.1 hc.2.2.2.2 q)
   all_goals grind [sizeLine_eq]
  ·#:c≠s.heap.objs.size:=by
    obtain⟨o,q,_⟩:∃o,s.heap.get? c=some o/\True:=by
     simp only[w0d,w0h,or_false]at hc
     grind [IsIt.obj]
    !w0w (Heap.lt_size q)
   rw[q0g this];!(hf c hc).1
 done:=by
  intro X hP hw hK hc k pins s σ H E Iv hf st hg;subst hP hw hK;~⟨s1,s2,⟨p,q,s3⟩,s4,s5⟩:=st;~⟨xs,ys,q1,q2,hlen⟩:=hg;~⟨is1,r1,p1⟩:=q5y Iv q1;~⟨is2,r2,p2⟩:=q5y Iv q2;#l1:=r1.length;#l2:=r2.length;rF x8h (Iv.ok.hd hc) D s1 s2 s3 s4 s5 p1 p2 (by grind) λh' k1=>⟨rfl,?_⟩
  #hfp:∀c∈[z,I,O,i,j],FpOk X pins H c:=hf;rF x0x (fp:=[z,I,O,i,j]) (t':=s.toks) Iv (λc o hc q=>?_) hfp
  grind
 self:=λ_ _ _ _ _ ⟨s1,_⟩ h=>wpAny_pyIter_zip s1 h
tm x4a(n a b:Nat)(ha:a<n)(hb:b<n):Apart (n+4) (n+2) (n+3) n (n+1) a b where
 Iz:=by grind
 Oz:=by grind
 iz:=by grind
 jz:=by grind
 IO:=by grind
 Ii:=by grind
 Ij:=by grind
 Oi:=by grind
 Oj:=by grind
 ij:=by grind
 az:=by grind
 aO:=by grind
 ai:=by grind
 aj:=by grind
 bz:=by grind
 bO:=by grind
 bi:=by grind
 bj:=by grind
section
variable{a1 a2:Expr}{pt:Pos}
nD iZip(K:PySem.W.Frag)(ta:TA):TI:=λσ H R=>ta σ H λvs H1=>∃t u a b,vs=[.ref a,.ref b]/\(∃xs,SqG K t H1 a xs)/\(∃ys,SqG K u H1 b ys)/\R (Itz K t u a b) H1
tm z5z{ta:TA}{p:Pos}(hg:Gl X "zip")(hm:X.mg "zip"=none)(ha:PA X [a1,a2] ta)(hs:starEach [a1,a2] X.env=[(false,eval a1 X.env),(false,eval a2 X.env)]:=by rfl)(hs2:starEach [a2] X.env=[(false,eval a2 X.env)]:=by rfl):
  PI X (.Tuple elts kt pt) (.Call (.Name "zip" p) [a1,a2] [] pos) (iZip X.K ta):=by
 intro pins s σ H R I h;rF PyProof.Rows.Call_ (q30 I hg hm PyProof.Rows.boot_zip (PyProof.Rows.callWith_type1 (thn (ha pos pins s σ H _ I h) λus s1 ⟨vs,H1,I1,r1,q1⟩=>?_) (by rw[hs,hs2]) (by rw[hs2];rfl)))
 ~⟨t,u,a,b,e,⟨xs,hx⟩,⟨ys,hy⟩,q⟩:=q1;subst e;cases r1 with
 |cons r rr=>
  cases rr with
  |cons r' rr=>
   @rr;@r;@r';~⟨is1,v1,p1⟩:=q5y I1 hx;~⟨is2,v2,p2⟩:=q5y I1 hy;~⟨oa,ea,_⟩:=p1.obj;~⟨ob,eb,_⟩:=p2.obj;#la:=Heap.lt_size ea;#lb:=Heap.lt_size eb;rF x39 p1 p2 λh' z1 i1 o1 k1 k2 up=>?_
   rF wpAny_pyIter_zip z1 ?_
   #D:Apart (s1.heap.objs.size+4) (s1.heap.objs.size+2) (s1.heap.objs.size+3) s1.heap.objs.size (s1.heap.objs.size+1) a b:=by
    grind [x4a]
   rF⟨s1.heap.objs.size+4,[s1.heap.objs.size+4,s1.heap.objs.size+2,s1.heap.objs.size+3,s1.heap.objs.size,s1.heap.objs.size+1],_,_,H1,rfl,I1.kept (t':=s1.toks) up,y5d t u a b _ _ _ _ _ D,⟨z1,i1,⟨_,_,o1⟩,k1,k2⟩,λc hc=>?_,q⟩
   simp only[w0d,w0h,or_false]at hc;rcases hc with rfl|rfl|rfl|rfl|rfl<;>!I1.fpOk oM (I1.hok.fresh oM)
nD srcZ(dA:Den (List W)):Den (List (W×W)):=λe=>(dA e).bind λws e1=>match ws with
 |[x,y]=>match seqW x,seqW y with
  |some us,some vs=>.ok (us.zip vs) e1
  |_,_=>.no
 |_=>.no
tm x0c(h:seqW w=some us)(p:Rep K G w v):∃t a xs,v=.ref a/\SqG K t G a xs/\Reps K G us xs:=by
 cases w with
 |tup l=>
  @h;~⟨a,xs,rfl,hq,rp⟩:=p;!⟨true,a,xs,rfl,hq,rp⟩
 |lst l=>
  @h;~⟨a,xs,rfl,hq,rp⟩:=p;!⟨false,a,xs,rfl,hq,rp⟩
 |_=>@h
tm q04(s:Same G H)(h:SqG K t G a xs):SqG K t H a xs:=by
 cases t with
 |true=>!s.tup h
 |false=>!s.seq h
tm y19(r1:Reps K G1 us xs)(r2:Reps K G1 vs ys)(h1:SqG K t G1 a xs)(h2:SqG K u G1 b ys):Walk2 K G1 (Itz K t u a b) (us.zip vs):=by
 #l1:=r1.length;#l2:=r2.length;#lz:(us.zip vs).length=min us.length vs.length:=w2v ..;rF⟨λi G H s s' h=>⟨xs,ys,xs[i]' oM,ys[i]' oM,q04 s' (q04 s h1),q04 s' (q04 s h2),by simp,by simp⟩,λi G H x H' s s' hy p q h=>?_,λi G H s s' h=>⟨xs,ys,q04 s' (q04 s h1),q04 s' (q04 s h2),by omega⟩⟩
 ~⟨c,x1,y1,rfl,hn,hx1,hy1,rfl⟩:=hy;~⟨hu,hv⟩:=w2h.mp h;~⟨w1,hw1,pw1⟩:=r1.getV (hx1 xs (q04 s' (q04 s h1)));~⟨w2,hw2,pw2⟩:=r2.getV (hy1 ys (q04 s' (q04 s h2)));rw[hu]at hw1;rw[hv]at hw2;@hw1;@hw2;!⟨Grow.hid s' hn _,λm n σ Q hQ=>⟨c,[x1,y1],rfl,SqT.of q0k,rfl,x1,[y1],rfl,y1,[],rfl,rfl,hQ _ _ (Rep.mono s _ pw1) (Rep.mono s _ pw2)⟩⟩
tm y2a{p:Pos}(hm:X.mg "zip"=none)(ha:DA Z X EE [a1,a2] dA)(hg:Gl X "zip":=by rfl)(hs:starEach [a1,a2] X.env=[(false,eval a1 X.env),(false,eval a2 X.env)]:=by rfl)(hs2:starEach [a2] X.env=[(false,eval a2 X.env)]:=by rfl):
  DI Z X EE (.Tuple elts kt pt) (.Call (.Name "zip" p) [a1,a2] [] pos) (srcZ dA):=by
 rF PI.mono (z5z hg hm ha hs hs2) ?_;rintro σ H RR ⟨G,e,rel,h⟩;simp only[srcZ,R.holds_bind]at h;rF⟨G,e,rel,h.imp (λws e1 h G1 vs H1 r1 s1 p1=>?_) λ_ _ h=>h⟩
 split at h
 ·rename_i w1 w2;split at h
  ·rename_i us ws hu hw;~⟨y1,r,rfl,q1,y2,r',rfl,q2,q3⟩:=p1;cases(show r'=[]from q3);~⟨t,a,xs,rfl,hx,rx⟩:=x0c hu q1;~⟨u,b,ys,rfl,hy,ry⟩:=x0c hw q2;!⟨t,u,a,b,rfl,⟨xs,q04 r1.sub hx⟩,⟨ys,q04 r1.sub hy⟩,h _ _ _ r1 s1 (y19 rx ry hx hy)⟩
  ·!h.elim
 ·!h.elim
end
nD srcZW(e:List S):List W->R (List (W×W))
 |[x,y]=>match seqW x,seqW y with
  |some us,some vs=>.ok (us.zip vs) e
  |_,_=>.no
 |_=>.no
tm z50:srcZ dA e=(dA e).bind λws e1=>srcZW e1 ws:=by
 unfold srcZ;congr 1
tm y5e:srcZW e [.tup us,.tup vs]=.ok (us.zip vs) e:=rfl
tm y5f:srcZW e [.lst us,.lst vs]=.ok (us.zip vs) e:=rfl
tm y5g:srcZW e [.tup us,.lst vs]=.ok (us.zip vs) e:=rfl
tm y5h:srcZW e [.lst us,.tup vs]=.ok (us.zip vs) e:=rfl
nD hide1:S->S
 |.own _ ws=>.fr (.lst ws)
 |.dic kvs=>.fr (.dic kvs)
 |.dw sh ks ws=>.fr (.dw false sh ks ws)
 |s=>s
nD hideS(e:List S):List S:=e.map hide1
nD borrowR(e:List S):R W->R W
 |.ok w _=>if scalW w=true then .ok w e else .no
 |.ex c _=>.ex c e
 |.no=>.no
nD dBorrow(d:Den W):Den W:=λe=>borrowR e (d (hideS e))
nD borrowT(e:List S):R Bool->R Bool
 |.ok b _=>.ok b e
 |.ex c _=>.ex c e
 |.no=>.no
nD dBorrowT(d:Den Bool):Den Bool:=λe=>borrowT e (d (hideS e))
tm Rel.hide(r:Rel K Z G σ H e):Rel K ⟨H,H,[]⟩ H σ H (hideS e):=by
 #g:∀(i:Nat)(s:S),(hideS e)[i]?=some s->∃s0,e[i]?=some s0/\s=hide1 s0:=λi s h=>by
  unfold hideS at h
  grind
 rF⟨.refl _,λi s h=>?_,by grind [hideS,len],λi j b b' ws ws' a h1 _ _ _=>?_,λa o h _=>h,(λa h=>nomatch h),λa _=>rfl⟩
 ·~⟨s0,h0,rfl⟩:=g i s h;#q:=r.slot i s0 h0;cases s0 with
  |no=>trivial
  |fr w=>
   ~⟨u,q1,q2⟩:=q;!⟨u,q1,Rep.mono r.sub w q2⟩
  |own b ws=>
   ~⟨a,xs,q1,q2,q3,q4,q5⟩:=q;!⟨.ref a,q1,a,xs,rfl,SqL.of q2,Reps.mono r.sub ws q5⟩
  |dic kvs=>
   ~⟨a,q1,q2,_⟩:=q;!⟨.ref a,q1,a,rfl,q2⟩
  |dw sh ks ws=>
   ~⟨a,kvs,kas,q1,q2,_,_,q5,q6,q7⟩:=q;!⟨.ref a,q1,a,kvs,kas,rfl,q2,q5,q6.mono r.sub,Reps.mono r.sub ws q7.reps⟩
 ·~⟨s0,_,h2⟩:=g i _ h1;cases s0 with
  |_=>@h2
tm Rel.back(r:Rel K Z G σ H e)(r2:Rel K ⟨H,H,[]⟩ G2 σ H2 e2):Rel K Z G σ H2 e:=by
 #hh:Same H H2:=λa o h=>r2.ent a o h (λz=>nomatch z)
 !r.grow ⟨hh,.refl _,λa o h=>hh a o (r.sub a o h),λ_ _=>rfl⟩
tm y5i(h:scalW w=true)(p:Rep K G w v):Rep K G' w v:=by
 cases w with
 |non=>!p
 |bl b=>!p
 |int b=>!p
 |str b=>!p
 |_=>@h
tm y2b{e:Expr}(he:∀Z',DE Z' X EE e d):DE Z X EE e (dBorrow d):=by
 intro pins s σ H Q I hq;~⟨G,e0,rel,h⟩:=hq;rF he ⟨H,H,[]⟩ pins s σ H Q I ⟨H,hideS e0,rel.hide,?_⟩;unfold dBorrow borrowR at h;cases q:d (hideS e0)with
 |ok w e2=>
  rw[q]at h;dsimp only at h;split at h
  ·rename_i hs;intro G2 v H2 r2 s2 p;!h G v H2 (rel.back r2) (.refl _) (y5i hs p)
  ·!h.elim
 |ex k e2=>
  rw[q]at h;intro G2 H2 r2 s2;!h G H2 (rel.back r2) (.refl _)
 |no=>rw[q]at h;!h.elim
tm x4b{e:Expr}(he:∀Z',DT Z' X EE e c):DT Z X EE e (dBorrowT c):=by
 intro pins s σ H Q I hq;~⟨G,e0,rel,h⟩:=hq;rF he ⟨H,H,[]⟩ pins s σ H Q I ⟨H,hideS e0,rel.hide,?_⟩;unfold dBorrowT borrowT at h;cases q:c (hideS e0)with
 |ok w e2=>
  rw[q]at h;intro G2 H2 r2 s2;!h G H2 (rel.back r2) (.refl _)
 |ex k e2=>
  rw[q]at h;intro G2 H2 r2 s2;!h G H2 (rel.back r2) (.refl _)
 |no=>rw[q]at h;!h.elim
section
variable [Decidable p]
tm y2c:dBorrow d e=borrowR e (d (hideS e)):=rfl
tm x9t:dBorrowT d e=borrowT e (d (hideS e)):=rfl
tm y2d:borrowR e (.ok w e')=if scalW w=true then .ok w e else .no:=rfl
tm y2e:borrowR e (.ex v e')=.ex v e:=rfl
tm x9u:borrowT e (.ok k e')=.ok k e:=rfl
tm x9v:borrowT e (.ex v e')=.ex v e:=rfl
tm x9w:borrowR e (if p then x else y)=if p then borrowR e x else borrowR e y:=by split<;>rfl
tm x7j:borrowT e (if p then x else y)=if p then borrowT e x else borrowT e y:=by split<;>rfl
tm y5j:hideS []=[]:=rfl
tm y2f{s:D.S}:hideS (s::e)=hide1 s::hideS e:=rfl
tm y5k:hide1 (.own b ws)=.fr (.lst ws):=rfl
tm y9z:hide1 (.fr w)=.fr w:=rfl
tm y90:hide1 .no=.no:=rfl
end
end D
namespace L2
open PySem PySem.Spec PyProof.Rows
structure FlyA(outer:List Env)(H H':Hp)(h h':Heap)(e:Addr)(cls:Value)(B:Heap):Prop where
 stay:B.StaysIn h'
 bare:B.get? e=none
 ff:h'.FunFrames B outer
 tr:∃a0 fl,h'.TracedAtW B e cls a0 fl
 old:∀b o,h.get? b=some o->H b=none->b∉frs outer->B.get? b=some o
 trk:∀b u o,H' b=some u->h'.get? b=some o->B.get? b=some o
 all:∀b o,h.get? b=some o->b∈frs outer\/∃o',B.get? b=some o'
 new:h.get? e=none
end L2
namespace D
open PySem L2
nD compX(c:Den Bool)(d:Den W)(pe:List S):List W->Option (Value ⊕ List W)
 |[]=>some (.inr [])
 |w::ws=>match c (.fr w::pe)with
  |.ok true e1=>match d e1 with
   |.ok y _=>(compX c d pe ws).map (Sum.map id (y::·))
   |.ex k _=>some (.inl k)
   |.no=>none
  |.ok false _=>compX c d pe ws
  |.ex k _=>some (.inl k)
  |.no=>none
nD compXR(e:List S):Option (Value ⊕ List W)->R (List W)
 |some (.inr out)=>.ok out e
 |some (.inl k)=>.ex k e
 |none=>.no
nD compKX(js:List Nat)(c:Den Bool)(d:Den W)(ws:List W)(e1:List S):R (List W):=
 if ws.length<=16777216 then compXR (frzs js e1) (compX c d (pjS js (frzs js e1)) ws)else .no
tm y5l:compKX js cc d ws e=if ws.length<=16777216 then compXR (frzs js e) (compX cc d (pjS js (frzs js e)) ws)else .no:=rfl
tm y2g:compXR e (some (.inr out))=.ok out e:=rfl
tm y2h:compXR e (some (.inl k))=.ex k e:=rfl
section
variable{X:Cx}{Z:Zt}{EE:L2.St->XK}{elt iter a b:Expr}{ifs:List Expr}{scope sc:Scope}{pos pt:Pos}{x:Str}{Nf N:List Str}{js:List Nat}{di:Den W}{dA:Den (List W)}{c:Den Bool}{d:Den W}
tm z51(h:(compKX js c d ws e1).holds P Ex):ws.length<=16777216/\∃out,compX c d (pjS js (frzs js e1)) ws=some out/\Sum.elim (λk=>Ex k (frzs js e1)) (λo=>P o (frzs js e1)) out:=by
 unfold compKX at h;split at h
 ·rename_i hl;cases ho:compX c d (pjS js (frzs js e1)) ws with
  |none=>rw[ho]at h;!h.elim
  |some out=>rw[ho]at h;!⟨hl,out,rfl,by @out<;>!h⟩
 ·!h.elim
end
end D
namespace L2
open PySem PySem.Spec PyProof.Rows
nD Rise(t:SetTable):Prop:=t.place.toList.Pairwise (·<·)/\t.dummies=#[]
nD valI:Value->Int
 |.int n _=>n
 |_=>0
structure SetData(prog:Program)(w:World)(es:Array (Int×Value))(t:SetTable)(S:List Int):Prop where
 el:ElemsOf (intKind prog w) es.toList
 sz:es.size<scanBound
 fit:t.fits es.size=true
 rise:Rise t
 led:t.led=!w.params.followText "set-order"
 whole:∀e∈es.toList,∃n k,e.2=Value.int n k
 perm:(es.toList.map λe=>valI e.2).Perm S
namespace SI
tm own:Manifest.owners.lookup (String.ofList ['r','o','t','a','r','e','t','i','_','t','e','s'].reverse)=some Manifest.sig_set_iterator:=by kernel_rfl
tm next:Slot "set_iterator" "__next__" "set_iterator.__next__":=.of (owner:="set_iterator") (n:="__next__") (by rw[typeLookup_type,builtinLookup_eq_fast];kernel_rfl) (by decide +kernel) (by decide +kernel) (by decide +kernel) (by first|!.inl (by decide +kernel)|!.inr (by decide +kernel)) (by rw[isSubtype_type];kernel_rfl)
tm iter:Slot "set_iterator" "__iter__" "set_iterator.__iter__":=.of (owner:="set_iterator") (n:="__iter__") (by rw[typeLookup_type,builtinLookup_eq_fast];kernel_rfl) (by decide +kernel) (by decide +kernel) (by decide +kernel) (by first|!.inl (by decide +kernel)|!.inr (by decide +kernel)) (by rw[isSubtype_type];kernel_rfl)
end SI
open PySem PySem.Spec PyProof.Rows
end L2
namespace D
open PySem L2
variable{X:Cx}{dA:Den (List W)}{e:Expr}{p pos:Pos}{Z:Zt}
nD rCat0(K:PySem.W.Frag):R2:=λx y H Q=>∃a b ys,x=.ref a/\y=.ref b/\SqT K H a []/\SqT K H b ys/\Q (.ref b) H
open PyProof.Rows in
tm op_cat0:OpR X (binaryOp .Add) (rCat0 X.K):=by
 intro pins s σ H x y v u Q I rx ry h;~⟨a,b,ys,rfl,rfl,ha,hb,q⟩:=h;@rx;@ry;~⟨its,r1,p1,_⟩:=I.tuple ha;~⟨its2,r2,p2,_⟩:=I.tuple hb;@r1;~⟨⟨cls,dd,data,sl⟩,ho,hc,n,hd⟩:=id p1;~⟨⟨cls2,dd2,data2,sl2⟩,ho2,hc2,n2,hd2⟩:=id p2;simp only at hc hd hc2 hd2;subst hc hd hc2 hd2;!concat_meets ⟨_,ho,rfl⟩ ⟨_,ho2,rfl⟩ noFill_tuple_add seq_tuple_add PySem.F.slot_tuple_add PySem.F.entry_tuple_add (PySem.F.args_tuple_add_2 _ _) (tuple_addW0 a b _ _ n n2 dd dd2 sl sl2 rfl) ⟨ho,ho2,.ref b,H,I,rfl,q⟩
nD addX:W->W->Option W
 |.tup xs,.tup ys=>if xs.length+ys.length<=16777216 then some (.tup (xs++ys))else none
 |x,y=>addW x y
tm y91:addX (.tup xs) (.tup ys)=if xs.length+ys.length<=16777216 then some (.tup (xs++ys))else none:=rfl
tm y92:addX (.int i) (.int j)=some (.int (i+j)):=rfl
tm y93:addX (.lst xs) (.lst ys)=if xs.length+ys.length<=16777216 then some (.lst (xs++ys))else none:=rfl
tm y94:addX (.str x) (.str y)=if x.length+y.length<=16777216 then some (.str (x++y))else none:=rfl
tm y95:Op2 K (λx y H Q=>rCat0 K x y H Q\/(rI0 (λi j=>.int (i+j)) x y H Q\/((∃i j,x=.str i/\y=.str j/\i.length+j.length<=sizeLine/\Q (.str (i++j)) H)\/(rCatT K x y H Q\/rCatS K x y H Q)))) addX:=by
 intro G H x y wx wy w Q s px py hf h;unfold addX at hf;split at hf
 ·rename_i xs ys;split at hf
  ·rename_i hl
   by_cases h0:xs=[]
   ·subst h0;@hf;~⟨a,vs,rfl,hq,rp⟩:=px;~⟨b,us,rfl,hq2,rp2⟩:=py;cases(show vs=[]from rp);!.inl ⟨a,b,us,rfl,rfl,s.tup hq,s.tup hq2,h G _ H (.refl s) ⟨b,us,rfl,hq2,rp2⟩⟩
   ·!.inr (y08 G H x y (.tup xs) (.tup ys) w Q s px py (by show(if xs≠[]/\xs.length+ys.length<=16777216 then some (W.tup (xs++ys))else none)=some w;grind) h)
  ·@hf
 ·!.inr (y08 G H x y _ _ w Q s px py hf h)
tm q0m{Z:D.Zt}{pos:PySem.Pos}(ha:DE Z X EE a da)(hb:DE Z X EE b db):DE Z X EE (.BinOp a .Add b pos) (dOp addX da db):=q7f (op_cat0.or (op_add.or (op_add_str.or (op_catT.or y8h)))) y95 ha hb
open PySem L2 PySem.Spec PyProof.Rows
end D
namespace L2
open PySem PySem.Spec PyProof.Rows
section
variable{κ:Type} [DecidableEq κ]
nD valV(kvs:List (κ×V))(k:κ):Option V:=(kvs.find? λkv=>decide (kv.1=k)).map (·.2)
nD putK(kvs:List (κ×V))(k:κ)(v:V):List (κ×V):=
 if(kvs.any λkv=>decide (kv.1=k))=true then kvs.map (λkv=>if kv.1=k then(kv.1,v)else kv)else kvs++[(k,v)]
tm q6z{k:κ}(e:p.1=k):valV (p::r) k=some p.2:=by simp[valV,w2l,e]
tm q60{k:κ}(e:¬p.1=k):valV (p::r) k=valV r k:=by simp[valV,w2l,e]
tm x6h(k):∀kvs:List (κ×V),(kvs.any λkv=>decide (kv.1=k))=(valV kvs k).isSome
 |[]=>rfl
 |p::r=>by
  rw[w4k]
  by_cases e:p.1=k
  ·simp_all [q6z]
  ·rw[q60 e,decide_eq_false e,Bool.false_or];!x6h k r
tm x0y(kvs)(k:κ)(v):(putK kvs k v).length<=kvs.length+1:=by
 grind [putK]
tm RelO.isSome_eq(r:RelO o u):o.isSome=u.isSome:=by
 cases o with
 |none=>cases u with
  |none=>rfl
  |some _=>!(show False from r).elim
 |some _=>cases u with
  |none=>!(show False from r).elim
  |some _=>rfl
tm KV.val(r:KV kvs vs)(k:κ):RelO (valV kvs k) (valueAt vs k):=by
 unfold KV at r
 induction r with
 |nil=>!True.intro
 | @cons p q ps qs h t ih=>
  ~⟨h1,h2⟩:=h
  by_cases e:p.1=k
  ·#e':q.1=k:=h1.symm.trans e;#b:valueAt (q::qs) k=some q.2:=by simp[valueAt,w2l,e']
   rw[q6z e,b];!h2
  simp_all [valueAt,q60]
tm KV.any(r:KV kvs vs)(k:κ):(kvs.any λkv=>decide (kv.1=k))=vs.any λkv=>decide (kv.1=k):=by
 unfold KV at r
 induction r with
 |nil=>rfl
 |cons h t ih=>grind
tm KV.repl(r:KV kvs vs)(k:κ)(ry:RelV y u):
  KV (kvs.map λkv=>if kv.1=k then(kv.1,y)else kv) (vs.map λkv=>if kv.1=k then(kv.1,u)else kv):=by
 unfold KV at r |-
 induction r with
 |nil=>!.nil
 | @cons p q ps qs h t ih=>
  rw[w0g,w0g];rF .cons ?_ ih
  grind
tm KV.put(r:KV kvs vs)(k:κ)(ry:RelV y u):KV (putK kvs k y) (stored vs k u):=by
 unfold putK stored;rw[r.any k]
 by_cases e:(vs.any λkv=>decide (kv.1=k))=true
 ·rw[if_pos e,if_pos e];!r.repl k ry
 ·rw[if_neg e,if_neg e];!Paired.snoc r ⟨rfl,ry⟩
tm KV.keys{kvs:List (κ×V)}{vs:List (κ×Value)}(r:KV kvs vs):kvs.map (·.1)=vs.map (·.1):=by
 unfold KV at r
 induction r with
 |nil=>rfl
 |cons h t ih=>grind
tm KV.length{kvs:List (κ×V)}{vs:List (κ×Value)}(r:KV kvs vs):kvs.length=vs.length:=Paired.length r
end
variable{a:Addr}{H:Hp}{σ:St}
tm x5b(r:RelV (kV k) u):(mixKind P w).is k u=true:=by
 cases k with
 |inl i=>~⟨t,e⟩:=(show ∃t,u=Value.int i t from r);grind [x7h]
 |inr x=>~⟨t,e⟩:=(show ∃t,u=Value.str x t from r);grind [x7i]
abbrev KT(sh:Sh)(H:Hp):List (Kx×V)->List (Kx×Addr×Value)->Prop:=Paired λp q=>p.1=q.1/\(KRep H p.1 (.ref q.2.1)/\Conf p.1 sh/\p.1.depth<=7)/\RelV p.2 q.2.2
tm KT.val(r:KT sh H kvs xs)(k):RelO (valV kvs k) ((atKey xs k).map (·.2)):=by
 induction r with
 |nil=>!True.intro
 | @cons p q ps qs h t ih=>
  ~⟨h1,_,h2⟩:=h
  by_cases e:p.1=k
  ·#e':q.1=k:=h1.symm.trans e;#b:atKey (q::qs) k=some q.2:=by simp[atKey,w2l,e']
   rw[q6z e,b];!h2
  simp_all [atKey,q60]
tm KT.repl(r:KT sh H kvs xs)(k)(ry:RelV y u):
  KT sh H (kvs.map λkv=>if kv.1=k then(kv.1,y)else kv) (xs.map (putAt k u)):=by
 induction r with
 |nil=>!.nil
 | @cons p q ps qs h t ih=>
  rw[w0g,w0g];rF .cons ?_ ih;~⟨h1,h2,h3⟩:=h;unfold putAt
  grind
tm KT.put(r:KT sh H kvs xs)(k)(hb:KRep H k (.ref b)/\Conf k sh/\k.depth<=7)(ry:RelV y u):
  KT sh H (putK kvs k y) (storedH xs k b u):=by
 #e:(kvs.any λkv=>decide (kv.1=k))=(atKey xs k).isSome:=by
  rw[x6h,(r.val k).isSome_eq,w2c]
 unfold putK storedH;rw[e]
 by_cases q:(atKey xs k).isSome=true
 ·rw[if_pos q,if_pos q];!r.repl k ry
 simp_all [Paired.snoc]
nD putAd(kvs:List (Kx×V))(kas:List Addr)(k:Kx)(b:Addr):List Addr:=if(valV kvs k).isSome=true then kas else kas++[b]
tm KT.putAd(r:KT sh H kvs xs)(ka:xs.map (·.2.1)=kas)(k):(storedH xs k b u).map (·.2.1)=L2.putAd kvs kas k b:=by
 unfold storedH L2.putAd;rw[(r.val k).isSome_eq,w2c]
 by_cases q:(atKey xs k).isSome=true
 ·rw[if_pos q,if_pos q,w0y,<- ka];rF w1s λx _=>?_
  show(putAt k u x).2.1=x.2.1
  grind [putAt]
 grind
tm KT.keeps(r:KT sh H kvs xs)(ht:∀b u,TupLike u->H b=some u->H' b=some u):KT sh H' kvs xs:=
 Paired.mapP r λ_ _ z=>⟨z.1,⟨KRep.keeps ht _ z.2.1.1,z.2.1.2⟩,z.2.2⟩
section
variable{P:Program}{w:World}{h:Heap}
tm y7l(ok:HOk P w H h)(e:Rd H a u):ObjOk P w H h a u:=e.ok ok
tm x5c(ok:HOk P w H h)(e:Rd H a (.dK kvs)):kvs.length<=sizeLine/\(a==sysModules)=false/\∃vs,KV kvs vs/\h.DictOf (mixKind P w) a vs:=
 show ObjOk P w H h a (.dK kvs)from y7l ok e
tm x5d(ok:HOk P w H h)(e:H a=some (.dK kvs)):kvs.length<=sizeLine/\(a==sysModules)=false/\∃vs,KV kvs vs/\h.DictOf (mixKind P w) a vs:=x5c ok (.inl e)
tm IsTup.seq{its:List Value}(p:IsTup h a its.toArray):∃o n,h.get? a=some o/\o.cls=.type "tuple" /\ o.data=.seq its.toArray n:=by
 ~⟨o,h1,h2,n,h3⟩:=p
 grind
mutual
theorem KRep.is(ok:HOk P w H h):∀(k:Kx){x:V}{v:Value},KRep H k x->RelV x v->KIs h k v
 |.non,x,v,e,r=>by cases(show x=.non from e);!r
 |.bl b,x,v,e,r=>by cases(show x=.bl b from e);!r
 |.int b,x,v,e,r=>by cases(show x=.int b from e);!r
 |.str b,x,v,e,r=>by cases(show x=.str b from e);!r
 |.tup ks,x,v,e,r=>by
  ~⟨a,xs,rfl,q,rs⟩:=e;cases(show v=Value.ref a from r);~⟨_,its,rv,p,_⟩:=(show ObjOk P w H h a (.tup xs)from Rd.ok q ok);~⟨o,n,h1,h2,h3⟩:=IsTup.seq p;!⟨a,o,its.toArray,n,rfl,h1,h2,h3,by simpa using KReps.are ok ks rs rv⟩
theorem KReps.are(ok:HOk P w H h):∀(ks:List Kx){xs:List V}{vs:List Value},KReps H ks xs->Vals xs vs->KAre h ks vs
 |[],xs,vs,e,r=>by
  cases(show xs=[]from e);@r;rfl
 |k::ks,xs,vs,e,r=>by
  ~⟨x,r0,rfl,h1,h2⟩:=e;cases r with
  |cons q t=>!⟨_,_,rfl,KRep.is ok k h1 q,KReps.are ok ks h2 t⟩
end
tm x2d(ok:HOk P w H h)(e:KRep H k (.ref a)/\Conf k sh/\k.depth<=7):(treeKind P w sh).is h k a:=⟨KRep.is ok k e.1 rfl,e.2⟩
tm x5e(ok:HOk P w H h)(e:Rd H a (.dT sh kvs kas)):kvs.length<=sizeLine/\(a==sysModules)=false /\
  ∃xs,KT sh H kvs xs/\xs.map (·.2.1)=kas/\h.DictOfH (treeKind P w sh) a xs:=by
 ~⟨z,y,xs,r,ka,o,es,ep,h1,h2,h3,h4,h5⟩:=(show ObjOk P w H h a (.dT sh kvs kas)from y7l ok e);rF⟨z,y,xs,r,ka,o,es,ep,h1,h2,h3,h4,λx hx=>?_,h5⟩
 #all:∀{l:List (Kx×V)}{m:List (Kx×Addr×Value)},KT sh H l m->∀x∈m,(treeKind P w sh).is h x.1 x.2.1:=by
  intro l m q
  induction q with
  |nil=>grind
  | @cons p q ps qs hq t ih=>
   intro x hx;rcases w0d.mp hx with e|hx
   ·subst e;!x2d ok (by grind)
   ·!ih x hx
 !all r x hx
tm z8z(ok:HOk P w H h)(e:H a=some (.dT sh kvs kas)):kvs.length<=sizeLine/\(a==sysModules)=false /\
  ∃xs,KT sh H kvs xs/\xs.map (·.2.1)=kas/\h.DictOfH (treeKind P w sh) a xs:=x5e ok (.inl e)
end
nD DGet(H:Hp)(a:Addr)(y:V)(r:Option V):Prop:=
 (∃kvs k,Rd H a (.dK kvs)/\y=kV k/\r=valV kvs k)\/∃sh kvs kas k b,Rd H a (.dT sh kvs kas)/\y=.ref b/\(KRep H k (.ref b)/\Conf k sh/\k.depth<=7)/\r=valV kvs k
nD DPut(H:Hp)(a:Addr)(y v:V)(H':Hp):Prop:=
 (∃kvs k,H a=some (.dK kvs)/\y=kV k/\kvs.length<sizeLine/\H'=upd H a (.dK (putK kvs k v))) \/
 ∃sh kvs kas k b,H a=some (.dT sh kvs kas)/\y=.ref b/\(KRep H k (.ref b)/\Conf k sh/\k.depth<=7)/\kvs.length<sizeLine/\H'=upd H a (.dT sh (putK kvs k v) (putAd kvs kas k b))
tm DGet.k{kvs:List (Key×V)}{k:Key}(e:H a=some (.dK kvs)):DGet H a (kV k) (valV kvs k):=.inl ⟨kvs,k,.inl e,rfl,rfl⟩
tm DPut.k{kvs:List (Key×V)}{k:Key}{v:V}(e:H a=some (.dK kvs))(hl:kvs.length<sizeLine):DPut H a (kV k) v (upd H a (.dK (putK kvs k v))):=.inl ⟨kvs,k,e,rfl,hl,rfl⟩
tm Inv.big(I:Inv X pins σ H s):sysModules<s.heap.objs.size:=by
 #h:mainGlobals<s.heap.objs.size:=(I.mod.glob.keeps I.bk).lt;!w5n (by decide) h
tm x1i{A:Around}(hu:A.units+20<cLine):(treeKind P w sh).room A.in1:=by
 show A.in1.units+8<cLine
 grind
tm y2i(hu:A.units+20<cLine)(I:Inv X pins σ H s)(g:DGet H a y (some v))(ry:RelV y u)(h:∀w' s',Inv X pins σ H s'->RelV v w'->Q w' s'):
  wpAny (model X.prog X.w) A (getItem (.ref a) u) Q E s:=by
 rcases g with⟨kvs,k,e,ey,l⟩|⟨sh,kvs,kas,k,b,e,ey,eb,l⟩
 ·subst ey;~⟨z,hd,vs,rel,dd⟩:=x5c I.hok e;~⟨w',hw,rw'⟩:=RelO.some_of (v:=v) (o:=valueAt vs k) (by rw[l];!rel.val k);!wpAny_getItem_of (x5b ry) dd.mapOf hw (h w' _ (I.tok _) rw')
 ·subst ey;cases(show u=Value.ref b from ry);~⟨z,hd,xs,rel,_,dd⟩:=x5e I.hok e;~⟨w',hw,rw'⟩:=RelO.some_of (v:=v) (o:=(atKey xs k).map (·.2)) (by rw[l];!rel.val k);~⟨p,hp,hp2⟩:=w0x.mp hw;rF wpAny_getItem_heap (x1i hu) (x2d I.hok eb) dd hp ?_;rw[hp2];!h w' _ (I.tok _) rw'
tm d_in(hu:A.units+20<cLine)(I:Inv X pins σ H s)(g:DGet H a y o)(ry:RelV y u)(h:∀s',Inv X pins σ H s'->Q (.bool o.isSome) s'):
  wpAny (model X.prog X.w) A (compareOp .In u (.ref a)) Q E s:=by
 rcases g with⟨kvs,k,e,ey,l⟩|⟨sh,kvs,kas,k,b,e,ey,eb,l⟩
 ·subst ey;~⟨z,hd,vs,rel,dd⟩:=x5c I.hok e;rF wpAny_in_of (x5b ry) hd dd.mapOf ?_;rw[<- (rel.val k).isSome_eq,<- l];!h _ (I.tok _)
 ·subst ey;cases(show u=Value.ref b from ry);~⟨z,hd,xs,rel,_,dd⟩:=x5e I.hok e;rF wpAny_in_heap (x1i hu) (x2d I.hok eb) hd dd ?_;#q:=(rel.val k).isSome_eq;rw[w2c]at q;rw[<- q,<- l];!h _ (I.tok _)
tm x0d(I:Inv X pins σ H s)(mu:Mut (H a))(hs:Heap.SameBut a s.heap h')(he:∃q,h'.get? a=some q)(new:ObjOk X.prog X.w (upd H a ob) h' a ob):
  Inv X pins σ (upd H a ob) {s with heap:=h',toks:=t'}:=
 I.write (x:=a) (e:=a) mu (.inl rfl) (λb q hb z=>(hs.2 b hb).trans z) he new
tm x6i(z:kvs.length<=sizeLine)(hd:(a==sysModules)=false)(rel:KV kvs vs)(dd:h'.DictOf (mixKind P w) a vs):
  ObjOk P w H' h' a (.dK kvs):=⟨z,hd,vs,rel,dd⟩
tm y2j(hu:A.units+20<cLine)(I:Inv X pins σ H s)(g:DPut H a y v H')(ry:RelV y u)(rv:RelV v r)(h:∀s',Inv X pins σ H' s'->Q () s'):
  wpAny (model X.prog X.w) A (setItem (.ref a) u r) Q E s:=by
 rcases g with⟨kvs,k,e,ey,l,eH⟩|⟨sh,kvs,kas,k,b,e,ey,eb,l,eH⟩
 ·subst ey eH;~⟨z,hd,vs,rel,dd⟩:=x5d I.hok e;#hz:vs.length<=sizeLine:=by grind [KV.length]
  #hl:(putK kvs k v).length<=sizeLine:=by grind [x0y]
  rF wpAny_setItem_pairs (hsz:=hz) (x5b ry) dd λh' dd' hs=>h _ ?_
  #he:∃q,h'.get? a=some q:=let ⟨q,_,_,hq,_⟩:=dd';⟨q,hq⟩;!x0d I (by rw[e];!True.intro) hs he (x6i hl hd (rel.put k rv) dd')
 ·subst ey eH;cases(show u=Value.ref b from ry);~⟨z,hd,xs,rel,ka,dd⟩:=z8z I.hok e;#hz:xs.length<=sizeLine:=by grind [Paired.length]
  #hl:(putK kvs k v).length<=sizeLine:=by grind [x0y]
  rF wpAny_setItem_heap (hsz:=hz) (x1i hu) (x2d I.hok eb) dd λh' dd' hs=>h _ ?_
  ~⟨q,es,ep,hq,h2,h3,h4,_,h5⟩:=dd';rF x0d I (by rw[e];!True.intro) hs ⟨q,hq⟩ ⟨hl,hd,_,(rel.put k eb rv).keeps λc u ys ec=>?_,rel.putAd ka k,q,es,ep,hq,h2,h3,h4,h5⟩
  rw[q0g (q3q ec e (λz=>by subst z;!ys))]
  !ec
nD NoSl(i:Expr):Prop:=∀ov iv,subscripted i false ov iv=operate [ov,iv] (getItem ov iv)
tm y96{id:String}
  (hl:typeLookup (.type T) "__getitem__"=pure (some (.builtin id)))(hs:NoSl slice)
  (h:wpAny (model prog w) A (eval value env) (λo s₁=>wpAny (model prog w) A (eval slice env) (λi s₂=>s₂.TypeIs o T/\wpAny (model prog w) A (getItem o i) Q E s₂) E s₁) E s):
  wpAny (model prog w) A (eval (.Subscript value slice pos) env) Q E s:=by
 rF Subscript_ (wpAny_mono h (λo s₁ h₁=>wpAny_mono h₁ (λi s₂ h₂=>?_) λ_ _ x=>x) λ_ _ x=>x)
 ~⟨hT,h₂⟩:=h₂;unfold subscriptTail;rF wpAny_bind ?_;rw[getitemInPython_of_ne hT.not_modules];rF wpAny_bind (wpAny_specialOf hT hl ?_)
 #fin:wpAny (model prog w) A (subscripted slice false o i) (λr s₃=>wpAny (model prog w) A (letTemporaryGo value o r >>= λ_=>pure r) Q E s₃) E s₂:=by
  rw[hs o i];!wpAny_operating (wpAny_mono h₂ (λr s₃ h₃=>wpAny_bind (wpAny_letTemporaryGo (wpAny_pure h₃))) λ_ _ x=>x)
 grind [wpAny_pure,wpAny_bind]
tm x7k(I:Inv X pins σ H s)(g:DGet H a y o):s.TypeIs (.ref a) "dict":=by
 rcases g with⟨kvs,k,e,_,_⟩|⟨sh,kvs,kas,k,b,e,_,_,_⟩
 ·~⟨_,_,vs,_,dd⟩:=x5c I.hok e;!dd.typeIs
 ·~⟨_,_,xs,_,_,dd⟩:=x5e I.hok e;!dd.typeIs
nD tDGet(td ty:TE):TE:=λσ H Q=>td σ H λx H1=>ty σ H1 λy H2=>∃a v,x=.ref a/\DGet H2 a y (some v)/\Q v H2
nD tDIn(ty td:TE):TE:=λσ H Q=>ty σ H λy H1=>td σ H1 λx H2=>∃a o,x=.ref a/\DGet H2 a y o/\Q (.bl o.isSome) H2
nD sDPut(td ty tv:TE):TS:=λD σ H=>tv σ H λv H1=>td σ H1 λx H2=>ty σ H2 λy H3=>∃a H4,x=.ref a/\DPut H3 a y v H4/\D.nx σ H4
tm x8i(hu:X.A.units+20<cLine)(ho:PE X o td)(hi:PE X i ty)(hs:NoSl i):PE X (.Subscript o i pos) (tDGet td ty):=by
 intro pins s σ H Q I h;rF y96 PySem.F.slot_dict_getitem.lookup hs (thn (ho pins s σ H _ I h) λu s1 ⟨x,H1,I1,rx,q1⟩=>thn (hi pins s1 σ H1 _ I1 q1) λiv s2 ⟨y,H2,I2,ry,a,v,ex,g,q2⟩=>?_)
 subst ex;obtain rfl:u=Value.ref a:=rx;!⟨x7k I2 g,y2i hu I2 g ry λw' s3 I3 rw'=>⟨v,H2,I3,rw',q2⟩⟩
tm y2k(hu:X.A.units+20<cLine)(hi:PE X i ty)(ho:PE X o td):PC X .In i o (tDIn ty td):=by
 intro pins s σ H Q I h;rF thn (hi pins s σ H _ I h) λiv s1 ⟨y,H1,I1,ry,q1⟩=>thn (ho pins s1 σ H1 _ I1 q1) λu s2 ⟨x,H2,I2,rx,a,ov,ex,g,q2⟩=>?_
 subst ex;obtain rfl:u=Value.ref a:=rx;!d_in hu I2 g ry λs3 I3=>⟨.bl ov.isSome,H2,I3,rfl,q2⟩
tm y97(hu:X.A.units+20<cLine)(ho:PE X o td)(hi:PE X i ty)(hv:PE X value tv)(hs:swapsWith value (some (.Subscript o i pos')) pos.line X.env=pure false):
  PS X (.Assign [.Subscript o i pos'] value pos) (sDPut td ty tv):=by
 intro pins s σ H D I h;rF wpAny_Assign_Subscript (thn (hv pins s σ H _ I h) λr s1 ⟨v,H1,I1,rv,q1⟩=>thn (ho pins s1 σ H1 _ I1 q1) λu s2 ⟨x,H2,I2,rx,q2⟩=>thn (hi pins s2 σ H2 _ I2 q2) λiv s3 ⟨y,H3,I3,ry,a,H4,ex,g,q3⟩=>?_) hs
 subst ex;obtain rfl:u=Value.ref a:=rx;!y2j hu I3 g ry rv λs4 I4=>⟨σ,H4,I4,q3⟩
tm y5m(h:Heap)(hb:sysModules<h.objs.size):ObjOk P w H (h.push {cls:=.type "dict", data:=.dict #[]}) h.objs.size (.dK []):=
 ⟨w1g _,beq_eq_false_iff_ne.mpr (Ne.symm (w0w hb)),[],.nil,Heap.DictOf.new h⟩
nD tDNewK:TE:=λ_ H Q=>∀p,H p=none->Q (.ref p) (upd H p (.dK []))
tm y5n:PE X (.Dict [] [] pos) tDNewK:=λpins s σ H Q I h=>
 wpAny_Dict_empty ⟨.ref s.heap.objs.size,_,I.laid (a:=s.heap.objs.size) (o:=.dK []) (t':=s.toks) (λ_ _ q=>Heap.get?_push_of_some _ q) (w0b _) (y5m s.heap I.big),rfl,h _ (I.hok.fresh (w0b _))⟩
end L2
namespace D
open PySem L2 PySem.Spec PyProof.Rows
variable{X:Cx}{σ:L2.St}{EE:L2.St->XK}{i:Nat}{K:PySem.W.Frag}{x:Str}{Z:Zt}
nD lk{κ:Type} [DecidableEq κ](kvs:List (κ×Sv))(x:κ):Option Sv:=(kvs.find? λp=>decide (p.1=x)).map (·.2)
nD putL{κ:Type} [DecidableEq κ](kvs:List (κ×Sv))(x:κ)(v:Sv):List (κ×Sv):=if(kvs.any λp=>decide (p.1=x))=true then kvs.map (λp=>if p.1=x then(p.1,v)else p)else kvs++[(x,v)]
tm x6j [DecidableEq κ](x):∀kvs:List (κ×Sv),valV (kvV kvs) x=(lk kvs x).map sV
 |[]=>rfl
 |p::r=>by
  #ih:=x6j x r
  by_cases h:p.1=x
  all_goals simp_all [kvV,q6z,lk,q60]
tm z52 [DecidableEq κ](x)(v)(kvs:List (κ×Sv)):putK (kvV kvs) x (sV v)=kvV (putL kvs x v):=by
 unfold putK putL kvV;rw[List.any_map];#e:((λkv:κ×V=>decide (kv.1=x)) ∘ λp:κ×Sv=>(p.1,sV p.2))=λp:κ×Sv=>decide (p.1=x):=rfl
 rw[e];split
 ·rw[w0y,w0y];rF w1s λp _=>?_
  grind
 grind
nD keyW:W->Option Key
 |.int i=>some (.inl i)
 |.str x=>some (.inr x)
 |_=>none
nD svW:W->Option Sv
 |.int i=>some (.inl i)
 |.bl b=>some (.inr b)
 |_=>none
nD wSv:Sv->W
 |.inl i=>.int i
 |.inr b=>.bl b
tm x3c(p:Rep K G w v)(h:keyW w=some k):v=kV k:=by
 @w<;>@h<;>!p
tm z53(p:Rep K G w v)(h:svW w=some k):v=sV k:=by
 @w<;>@h<;>!p
tm y2l(k):Rep K G (wSv k) (sV k):=by @k<;>rfl
nD dicOf:W->Option (List (Key×Sv))
 |.dic (.k kvs)=>some kvs
 |_=>none
tm x6k(h:dicOf w=some kvs):w=.dic (.k kvs):=by
 cases w with
 |dic d=>@d<;>@h;rfl
 |_=>@h
nD inD(w d:W):Option W:=(keyW w).bind λk=>(dicOf d).map λkvs=>.bl (lk kvs k).isSome
nD ixD(d w:W):Option W:=(keyW w).bind λk=>(dicOf d).bind λkvs=>(lk kvs k).map wSv
tm y2m:Op2 K (λy x H Q=>∃a o,x=.ref a/\DGet H a y o/\Q (.bl o.isSome) H) inD:=by
 intro G H x y wx wy w Q s px py hf h;~⟨k,hk,hf⟩:=w2q.mp hf;~⟨kvs,hd,hf⟩:=w0x.mp hf;@hf;cases x3c px hk;cases x6k hd;~⟨e,rfl,he⟩:=py;rF⟨e,_,rfl,DGet.k (k:=k) (s _ _ he),h G _ H (.refl s) ?_⟩;rw[x6j,w2c];rfl
tm z54:Op2 K (λx y H Q=>∃a v,x=.ref a/\DGet H a y (some v)/\Q v H) ixD:=by
 intro G H x y wx wy w Q s px py hf h;~⟨k,hk,hf⟩:=w2q.mp hf;~⟨kvs,hd,hf⟩:=w2q.mp hf;~⟨v,hv,rfl⟩:=w0x.mp hf;cases x3c py hk;cases x6k hd;~⟨e,rfl,he⟩:=px;#g:=DGet.k (k:=k) (s _ _ he);rw[x6j,hv]at g;!⟨e,_,rfl,g,h G _ H (.refl s) (y2l v)⟩
section
variable{a b e k:Expr}{da db d dk:Den W}{pos p tpos:Pos}
tm z55(hu:X.A.units+150<cLine)(ha:DE Z X EE a da)(hb:DE Z X EE b db)(hm:behindInMarks .In b=false:=by rfl):DE Z X EE (.Compare a [.In] [b] pos) (dOp inD da db):=
 PE.mono (z2q (y2k oM ha hb) hm) (q4k y2m)
tm z56(hu:X.A.units+150<cLine)(ha:DE Z X EE a da)(hb:DE Z X EE b db)(hm:behindInMarks .In b=false:=by rfl):DT Z X EE (.Compare a [.In] [b] pos) (dTest (dOp inD da db)):=
 PT.mono (z2r (y2k oM ha hb) hm) λσ H Q h=>q4k y2m σ H _ (x30 h)
tm z57(hu:X.A.units+150<cLine)(ha:DE Z X EE a da)(hb:DE Z X EE b db)(hs:NoSl b:=by intro _ _;rfl):DE Z X EE (.Subscript a b pos) (dOp ixD da db):=
 PE.mono (x8i oM ha hb hs) (q4k z54)
tm Rel.dic{G H:Hp}{e:List S}(r:Rel K Z G σ H e){kvs:Dd}(h:e[i]?=some (.dic kvs)):∃a,σ[i]?=some (some (.ref a))/\H a=some (dO kvs)/\G a=none/\Z.H a=none:=by
 ~⟨a,h1,h2,h3,h4⟩:=r.slot i _ h;rF⟨a,?_,h2,h3,h4⟩;cases q:σ[i]? with
 |none=>rw[q]at h1;@h1
 |some z=>rw[q]at h1;rw[show z=some (.ref a)from h1]
tm Rel.setDic{G H:Hp}{e:List S}(r:Rel K Z G σ H e){kvs:Dd}{a:Addr}(h2:H a=some (dO kvs))(h3:G a=none)(h4:Z.H a=none):Rel K Z G (σ.set i (some (.ref a))) H (e.set i (.dic kvs)):=by
 rF⟨r.sub,λj s z=>?_,by simpa using r.len,λj k b1 b2 w1 w2 c z1 z2 z3 z4=>?_,r.ent,r.ion,r.gen⟩
 ·by_cases hj:j=i
  ·subst hj
   #hi:j<e.length:=by
    #:=(w0m.mp z).1;simpa using this
   rw[w0p hi]at z;@z;rw[w0p (by rw[<- r.len];!hi)];!⟨a,rfl,h2,h3,h4⟩
  ·rw[w0f (λz=>hj z.symm)]at z |-
   !r.slot j s z
 ·#old:∀(k:Nat)(bb:Option Nat)(ww:List W),(e.set i (S.dic kvs))[k]?=some (.own bb ww)->k≠i/\e[k]?=some (.own bb ww):=λk bb ww z=>by
   by_cases hk:k=i
   ·subst hk
    #hi:k<e.length:=by
     #:=(w0m.mp z).1;simpa using this
    rw[w0p hi]at z;@z
   ·rw[w0f (λz=>hk z.symm)]at z;!⟨hk,z⟩
  ~⟨n1,q1⟩:=old _ _ _ z1;~⟨n2,q2⟩:=old _ _ _ z2;rw[w0f (λz=>n1 z.symm)]at z3
  rw[w0f (λz=>n2 z.symm)]at z4
  !r.dis _ _ _ _ _ _ _ q1 q2 z3 z4
nD isD:S->Bool
 |.dic _=>true
 |.dw sh _ _=>sh.isI
 |_=>false
tm Rel.mutDic{G H:Hp}{e:List S}(r:Rel K Z G σ H e){kvs kvs':Dd}{a:Addr}(h:e[i]?=some (.dic kvs))(ha:σ[i]?=some (some (.ref a)))(ho:∀j s,j≠i->e[j]?=some s->isD s=false):Rel K Z G σ (upd H a (dO kvs')) (e.set i (.dic kvs')):=by
 ~⟨a',h1,h2,h3,h4⟩:=r.dic h;rw[ha]at h1;@h1;#hi:i<e.length:=(w0m.mp h).1;rF⟨λc o z=>?_,λj s z=>?_,by simpa using r.len,λj k b1 b2 w1 w2 c z1 z2 z3 z4=>?_,λc o z n=>?_,λc z=>?_,r.gen⟩
 ·rw[q0g (q0p z h3)];!r.sub c o z
 ·by_cases hj:j=i
  ·subst hj;rw[w0p hi]at z;@z;!⟨a,by rw[ha];rfl,q0k,h3,h4⟩
  ·rw[w0f (λz=>hj z.symm)]at z
   #y:=r.slot j s z;cases s with
   |no=>trivial
   |fr w=>!y
   |own b2 w2=>
    ~⟨c,ys,y1,y2,y3,y4,y5⟩:=y;rF⟨c,ys,y1,?_,y3,y4,y5⟩;rw[q0g (q3q y2 h2 (λz=>q79 rfl z.symm))];!y2
   |dic kv=>have:=ho j _ hj z;@this
   |dw sh ks ws=>
    #hI:sh.isI=false:=ho j _ hj z;!DwOk.move y (.refl _) λl o ys k1 k2 k3=>⟨by rw[q0g (q3q k1 h2 (λz=>by rw[z7d hI]at z;!q79 rfl z.symm))];!k1,k2,k3⟩
 ·#old:∀(k:Nat)(bb:Option Nat)(ww:List W),(e.set i (S.dic kvs'))[k]?=some (.own bb ww)->e[k]?=some (.own bb ww):=λk bb ww z=>by
   by_cases hk:k=i
   ·subst hk;rw[w0p hi]at z;@z
   ·rw[w0f (λz=>hk z.symm)]at z;!z
  !r.dis _ _ _ _ _ _ _ (old _ _ _ z1) (old _ _ _ z2) z3 z4
 ·rw[q0g (q0p z h4)];!r.ent c o z n
 ·by_cases hc:c=a
  ·subst hc;rw[q0k];!λz=>nomatch z
  ·rw[q0g hc];!r.ion c z
nD dSetD(i:Nat):List S->SR:=λe=>.nx (e.set i (.dic (.k [])))
tm y98(i:Nat){pos' dpos:Pos}(hN:X.N.Nodup)(hi:X.N[i]?=some x:=by rfl)(hx:Loc X.env.scope x:=by walk_at "3")(hs:swapsWith (.Dict [] [] dpos) (some (.Name x pos')) pos.line X.env=pure false:=by rfl)(hf:X.fn x=true\/X.env.scope.names.lookup x=some .local:=by walk_at "2"):
  DS Z X EE (.Assign [.Name x pos'] (.Dict [] [] dpos) pos) (dSetD i):=by
 rF PS.mono (x11 i hN y5n hi hx hs hf) ?_;rintro D σ H ⟨G,e,rel,h⟩;intro q hq;#g:=Grow.hid rel.sub hq (.dK []);!h G _ _ ((rel.grow g).setDic (kvs:=.k []) q0k (rel.sub.free hq) (q7v rel hq)) (.refl _)
nD dRetD(i:Nat):List S->SR:=λe=>match e[i]? with
 |some (.dic d)=>.rt (.dic d) e
 |_=>.no
tm y99(i:Nat)(hN:X.N[i]?=some x:=by rfl)(hv:Vis X.env.scope x:=by walk_at "1")(hd:(x==("__debug__":Str))=false:=by decide)
  (hcd:(x==("__classdict__":Str))=false:=by decide):DS Z X EE (.Return (some (.Name x p)) pos) (dRetD i):=by
 rF PS.mono (q8y (pv i hN hv hd hcd)) ?_;rintro D σ H ⟨G,e,rel,h⟩;unfold dRetD at h;split at h
 ·rename_i kvs hw;~⟨a,h1,h2,h3,h4⟩:=rel.dic hw;!⟨.ref a,h1,h G σ _ H rel (.refl _) ⟨a,rfl,h2,h3,h4⟩⟩
 ·!h.elim
nD onlyD(i:Nat)(e:List S):Bool:=(List.range e.length).all λj=>decide (j=i)||!((e[j]?.map isD).getD false)
tm z0a{e:List S}(h:onlyD i e=true):∀j s,j≠i->e[j]?=some s->isD s=false:=λj s hj hs=>by
 #hl:j<e.length:=(w0m.mp hs).1;#:=w0z.mp h j (w1i.mpr hl)
 grind
nD putDC(i:Nat)(w kw:W)(e:List S):Option S->SR
 |some (.dic (.k kvs))=>match svW w,keyW kw with
  |some v,some x=>if kvs.length<16777216/\onlyD i e=true then .nx (e.set i (.dic (.k (putL kvs x v))))else .no
  |_,_=>.no
 |_=>.no
nD dPutD(i:Nat)(d dk:Den W):List S->SR:=λe=>(d e).stm λw e1=>match e1[i]? with
 |some (.dic _)=>(dk e1).stm λkw e2=>putDC i w kw e2 e2[i]?
 |_=>.no
tm z0b(i:Nat)(hu:X.A.units+150<cLine)(he:DE Z X EE e d)(hk:DE Z X EE k dk)(hN:X.N[i]?=some x:=by rfl)(hv:Vis X.env.scope x:=by walk_at "1")(hd:(x==("__debug__":Str))=false:=by decide)(hcd:(x==("__classdict__":Str))=false:=by decide)
  (hs:swapsWith e (some (.Subscript (.Name x p) k tpos)) pos.line X.env=pure false:=by rfl):DS Z X EE (.Assign [.Subscript (.Name x p) k tpos] e pos) (dPutD i d dk):=by
 rF PS.mono (y97 oM (pv i hN hv hd hcd) hk he hs) ?_;rintro D σ H ⟨G,e,rel,h⟩;rF⟨G,e,rel,(q0w h).imp (λw e1 h G1 v1 H1 r1 s1 p1=>?_) λ_ _ h=>h⟩
 split at h
 ·rename_i kv0 he0;~⟨a,q1,q2,q3,q4⟩:=r1.dic he0;rF⟨.ref a,q1,G1,e1,r1,(q0w (σ:=σ) h).imp (λkw e2 h G2 v2 H2 r2 s2 p2=>?_) λ_ _ h G' H' r s=>h G' H' r (s1.trans s)⟩
  unfold putDC at h;split at h
  ·rename_i kvs he2;~⟨a',g1,g2,g3,g4⟩:=r2.dic he2;rw[q1]at g1;@g1;split at h
   ·rename_i v t hv1 hk1;split at h
    ·rename_i hc;cases z53 p1 hv1;cases x3c p2 hk1;rF⟨a,_,rfl,DPut.k (k:=t) g2 (by rw[sizeLine_eq];unfold kvV;rw[w0j];!hc.1),?_⟩;rw[z52];!h G2 σ _ (r2.mutDic (kvs':=.k (putL kvs t v)) he2 q1 (z0a hc.2)) (s1.trans s2)
    ·!h.elim
   ·!h.elim
  ·!h.elim
 ·!h.elim
end
nD lkB(kvs:List (Key×Sv))(k:Key):Option Bool:=match lk kvs k with
 |some (.inr b)=>some b
 |_=>none
nD keysB(kvs l:List (Key×Sv)):List Key:=(l.filter λp=>lkB kvs p.1==some true).map (·.1)
nD kW:Key->W
 |.inl i=>.int i
 |.inr x=>.str x
nD keysC(e:List S):Option S->R (List W)
 |some (.dic (.k kvs))=>if kvs.length<16777216/\(kvs.all λp=>(lkB kvs p.1).isSome)=true then .ok ((keysB kvs kvs).map kW) e else .no
 |_=>.no
tm z0c:keysC e (some (.dic (.k kvs)))=if kvs.length<16777216/\(kvs.all λp=>(lkB kvs p.1).isSome)=true then .ok ((keysB kvs kvs).map kW) e else .no:=rfl
tm z0d:dSetD i e=.nx (e.set i (.dic (.k []))):=rfl
nD putD0(i:Nat)(dk:Den W)(w:W)(e1:List S):Option S->SR
 |some (.dic _)=>(dk e1).stm λkw e2=>putDC i w kw e2 e2[i]?
 |_=>.no
tm z0e:dPutD i d dk e=(d e).stm λw e1=>putD0 i dk w e1 e1[i]?:=by
 unfold dPutD putD0;rfl
tm z0f:putD0 i dk w e (some (.dic dd))=(dk e).stm λkw e2=>putDC i w kw e2 e2[i]?:=rfl
tm y5o:putDC i (.bl b) (.int n) e (some (.dic (.k kvs)))=if kvs.length<16777216/\onlyD i e=true then .nx (e.set i (.dic (.k (putL kvs (.inl n) (.inr b)))))else .no:=rfl
tm y5p:hide1 (.dic dd)=.fr (.dic dd):=rfl
tm z80:ixD (.dic (.k kvs)) (.int n)=(lk kvs (.inl n)).map wSv:=rfl
end D
namespace L2
open PySem PySem.Spec PyProof.Rows
end L2
namespace D
open PySem L2
end D
namespace L2
open PySem PySem.Spec PyProof.Rows
section
open HT
tm q8u{lo:Option Int}(ht:IsTup s.heap t items)(hs:s.heap.IsSliceOf sl vl vu .none)(pl:IsPart vl lo)(pu:IsPart vu hi)
  (hw:sIx items.size 0 lo=0/\sIx items.size items.size hi=items.size)(h:Q (.ref t) s):wpAny (model prog w) A (getItem (.ref t) (.ref sl)) Q E s:=by
 ~⟨os,hos,hcs,hds⟩:=id hs;#hTs:s.TypeIs (.ref sl) "slice":=⟨os,hos,hcs⟩;unfold getItem;try with_reducible rF wpAny_holding ?_
 first|rF wpAny_bind (wpAny_pure ?_)|skip
 rF wpAny_bind (wpAny_sequenceKey ht.typeIs (by decide) ?_)
 rF wpAny_bind (wpAny_callSpecial?_slot (name:=Str.ofString "__getitem__") ht.typeIs PyProof.Rows.slot_tuple_getitem
  (wpAny_call_entry PyProof.Rows.slot_tuple_getitem ht.typeIs entry_tuple_getitem ?_ (args_tuple_getitem _ _)))
 show wpAny _ _ (Builtin.Tuple.tupleItemsOf (.ref t) >>= _) _ _ s;rF wpAny_bind (tupleItemsOf_ ht ?_);rF wpAny_bind (wpAny_typeOf hTs ?_);rw[if_pos (by decide)];rF wpAny_bind (q6r hs pl pu ?_);show wpAny _ _ (if(((sIx items.size 0 lo:Nat):Int)==0&&(1:Int)==1&&(sIx items.size items.size hi-sIx items.size 0 lo)==items.size)=true then _ else _) _ _ s;rw[if_pos (by rw[hw.1,hw.2];simp)];rF wpAny_bind (wpAny_bind (wpAny_typeOf ht.typeIs (wpAny_pure ?_)));rw[if_pos (by decide)];!wpAny_bind (wpAny_rule (wpAny_pure ⟨_,rfl,wpAny_pure h⟩))
end
tm z0g:SlR X (λx lo hi H Q=>∃a xs,x=.ref a/\SqT X.K H a xs/\(HT.sIx xs.length 0 lo=0/\HT.sIx xs.length xs.length hi=xs.length)/\Q x H):=by
 intro pins s σ H x v vl vu lo hi sl Q I rx hs pl pu h;~⟨a,xs,rfl,hx,hw,q⟩:=h;@rx;~⟨its,r,ht,hz⟩:=I.tuple hx;#hlen:its.toArray.size=xs.length:=by rw[w2k];!r.length.symm
 rF⟨"tuple", _,PyProof.Rows.slot_tuple_getitem.lookup,ht.typeIs,?_⟩;!q8u ht hs pl pu (by rw[hlen];!hw) ⟨.ref a,H,I,rfl,q⟩
nD rSlS:V->Option Int->Option Int->Hp->VK->Prop:=λx lo hi H Q=>∃z,x=.str z/\z.length<=sizeLine/\Q (.str (Txt.slice z lo hi)) H
tm x8j(p:IsPart v o):∃q:Option (Int×Tok),v=partValue q/\q.map (·.1)=o:=by
 cases p with
 |none=>!⟨none,rfl,rfl⟩
 |int i t=>!⟨some (i,t),rfl,rfl⟩
tm z58:SlR X rSlS:=by
 intro pins s σ H x v vl vu lo hi sl Q I rx hs pl pu h;~⟨z,rfl,hz,q⟩:=h;~⟨t,rfl⟩:=rx;~⟨ql,rfl,e1⟩:=x8j pl;~⟨qu,rfl,e2⟩:=x8j pu;rF⟨"str", _,F.slot_str_getitem.lookup,typeIs_str _ _ _,?_⟩;rF wpAny_getItem_str_slice (l:=ql) (u:=qu) (st:=none) hs rfl ?_
 #e3:sliceMade z t ql qu none=if((1:Int)==1&&(Builtin.Str.strSliceIndices lo hi 1 z.length).length==z.length)=true then .val (.str z t)else .str ⟨((Builtin.Str.strSliceIndices lo hi 1 z.length).filterMap (z.cps[·]?)).toArray⟩:=by
  grind [sliceMade,slicePicked]
 rw[e3];#hq:Q (.str (Txt.slice z lo hi)) H:=q;#hl:=Txt.slice_le z lo hi;unfold Txt.slice at hq hl;split
 ·rename_i c;rw[if_pos c]at hq;!⟨.str z,H,I,⟨t,rfl⟩,hq⟩
 ·rename_i c;rw[if_neg c]at hq hl;!⟨w0v hl hz,.str _,H,I.tok _,⟨_,rfl⟩,hq⟩
nD signs(x:Str):List V:=x.cps.toList.map λc=>V.str ⟨#[c]⟩
nD Itx(x:Str):It:=⟨λi _=>i<x.cps.size,λi H v H'=>H'=H/\(signs x)[i]?=some v,λi _=>x.cps.size<=i⟩
tm y5q{K:PySem.W.Frag}(x)(t)(it)(hT:T="str_ascii_iterator"\/T="str_iterator"):Turn P w K tg (Itx x) [it] it (λi h=>h.IsStrIter it T x t i) where
 mem:=by simp
 obj:=λi h st b hb=>by
  #e:b=it:=by simpa using hb
  subst e;~⟨o,e,c,d⟩:=st
  grind
 keep:=λi h h' st k=>by
  ~⟨o,e,c,d⟩:=st;!⟨o,k it (by simp) o e,c,d⟩
 item:=by
  intro X hP hw hK hc i pins s σ H E I hf st hg;subst hP hw hK;#hg:i<x.cps.size:=hg;~⟨f0,f1,f2,f3,f4,f5⟩:=hf it (by simp)
  #fin:∀v h' tk,SignAt x i v->h'.IsStrIter it T x t (i+1)->(∀b o,b∉[it]->s.heap.get? b=some o->h'.get? b=some o)->∃u,some v=some u /\
    wpAny (model X.prog X.w) X.A (letOwnedTupleGo tg (.ref it) u) (λ_ s2=>∃y H',Inv X pins σ H' s2/\RelV y u/\(Itx x).yld i H y H'/\s2.heap.IsStrIter it T x t (i+1)/\∀b∈[it],H' b=none) E {s with heap:=h',toks:=tk}:=by
   intro v h' tk hv st' kk;~⟨c,u,hcx,rfl⟩:=hv;#I1:Inv X pins σ H {s with heap:=h',toks:=tk}:=I.turned (λb o hb e=>kk b o (by simpa using hb) e) f0 f1 f3 f4 f5
   ~⟨o,e,cc,d⟩:=id st';rF⟨_,rfl,x45 (s:={s with heap:=h',toks:=tk}) e cc d (by grind) ⟨.str ⟨#[c]⟩,H,I1,⟨u,rfl⟩,⟨rfl,?_⟩,st',λb hb=>(hf b hb).1⟩⟩
   grind [signs]
  rcases hT with rfl|rfl
  ·!(Walks.strAscii (prog:=X.prog) (w:=X.w) (I.ok.hd hc) it x t).item i s _ _ hg st fin
  ·!(Walks.strWide (prog:=X.prog) (w:=X.w) (I.ok.hd hc) it x t).item i s _ _ hg st fin
 done:=by
  intro X hP hw hK hc i pins s σ H E I hf st hg;subst hP hw hK;#hg:x.cps.size<=i:=hg;~⟨f0,f1,f2,f3,f4,f5⟩:=hf it (by simp);rcases hT with rfl|rfl
  ·!wpAny_pyNext_ascii_end (I.ok.hd hc) st (by simp;omega) λh' eb=>⟨rfl,I.turned (t':=s.toks) (λb o hb e=>eb b o hb e) f0 f1 f3 f4 f5⟩
  ·!wpAny_pyNext_wide_end (I.ok.hd hc) st (by simp;omega) λh' eb=>⟨rfl,I.turned (t':=s.toks) (λb o hb e=>eb b o hb e) f0 f1 f3 f4 f5⟩
 self:=λA i s Q E st h=>by
  grind [wpAny_pyIter_striter_ascii,wpAny_pyIter_striter_wide]
nD iStr(tl:TE):TI:=λσ H R=>tl σ H λx H1=>∃z,x=.str z/\R (Itx z) H1
tm z59(hl:PE X l tl):PI X tg l (iStr tl):=by
 intro pins s σ H R I h;rF thn (hl pins s σ H _ I h) λv s1 ⟨x,H1,I1,r1,q1⟩=>?_
 ~⟨z,e,q⟩:=q1;subst e;~⟨t,rfl⟩:=r1;rF wpAny_pyIter_strU ?_;rF⟨s1.heap.objs.size,[s1.heap.objs.size],_,_,H1,rfl,I1.kept (t':=s1.toks) λb o e=>Heap.get?_push_of_some _ e,y5q (T:=strIterType z) z t _ ?_,⟨_,Heap.get?_push_size _ rfl,rfl,rfl⟩,λb hb=>?_,q⟩
 ·grind [strIterType]
 ·#e:b=s1.heap.objs.size:=by simpa using hb
  subst e;!I1.fpOk (w0b _) (I1.hok.fresh (w0b _))
tm z0h(he:PE X e te)(r:PF X es t):PF X (.FormattedValue e 114 none pos::es) (λacc σ H Q=>te σ H λv H1=>∃z,v=.str z/\(reprText z).length<=sizeLine/\(acc++reprText z).length<=sizeLine/\t (acc++reprText z) σ H1 Q):=by
 intro acc pins s σ H Q I h;show wpAny _ _ (eval (.FormattedValue e 114 none pos) X.env) _ _ s;rF wpAny_FormattedValue_repr (thn (he pins s σ H _ I h) λu s1 ⟨v,H1,I1,rv,z,hz,h1,h2,q⟩=>?_)
 subst hz;~⟨tk,rfl⟩:=rv;rF wpAny_pyReprObj_str ?_ h1;!wpAny_formatField_str ⟨_,_,rfl,h2,r _ pins _ σ H1 Q (I1.tok _) q⟩ ⟨_,_,rfl,h2,r _ pins _ σ H1 Q (I1.tok _) q⟩ h1
end L2
namespace D
open PySem L2
variable{X:Cx}{EE:L2.St->XK}{N ps:List Str}{apos cpos p pos:Pos}{K:PySem.W.Frag}{x:Str}{Z:Zt}
nD slX:W->Option Int->Option Int->Option W
 |.str z,lo,hi=>if z.length<=16777216 then some (.str (Txt.slice z lo hi))else none
 |.tup ws,lo,hi=>if ¬(HT.sIx ws.length 0 lo=0/\HT.sIx ws.length ws.length hi=ws.length)then some (.tup (cutW ws lo hi))else some (.tup ws)
 |w,lo,hi=>slW w lo hi
nD dSlX(d:Den W)(dl dh:Den (Option Int)):Den W:=λe=>(d e).bind λw e1=>(dl e1).bind λlo e2=>(dh e2).bind λhi e3=>ofOpt (slX w lo hi) e3
section
variable{e a b:Expr}{da db:Den W}
tm q08(he:DE Z X EE e da)(hl:DO Z X EE lo dl)(hh:DO Z X EE hi dh):DE Z X EE (.Subscript e (.Slice lo hi none p2) pos) (dSlX da dl dh):=by
 rF PE.mono (y4b (((sl_list.or z3a).or z0g).or z58) he hl hh) ?_;rintro σ H Q ⟨G,e,rel,h⟩;simp only[dSlX,R.holds_bind,ofOpt_holds]at h;rF⟨G,e,rel,h.imp (λw e1 h G1 v1 H1 r1 s1 p1=>?_) λ_ _ h=>h⟩
 rF⟨G1,e1,r1,h.imp (λlo e2 h G2 H2 r2 s2=>?_) λ_ _ h=>XH.trans s1 h⟩
 rF⟨G2,e2,r2,h.imp (λhi e3 h G3 H3 r3 s3=>?_) λ_ _ h=>XH.trans (s1.trans s2) h⟩
 ~⟨y,hf,h⟩:=h;#p3:=Rep.mono (s2.trans s3) w p1;#s03:=(s1.trans s2).trans s3;cases w with
 |str z=>
  simp only[slX]at hf;split at hf
  ·rename_i hz;@hf;@p3;!.inr ⟨z,rfl,by grind [sizeLine_eq],h _ _ _ r3 s03 rfl⟩
  ·@hf
 |lst ws=>
  @hf;~⟨a,xs,rfl,q,r⟩:=p3;rF .inl (.inl (.inl ⟨a,xs,rfl,r3.sub.seq q,λp hp=>?_⟩))
  #g:=Grow.laid r3.sub hp (.lst (cutV xs lo hi));!h _ _ _ (r3.grow g) (s03.trans g.gg) ⟨p,_,rfl,SqL.of q0k,Reps.mono g.gg _ (r.cut lo hi)⟩
 |tup ws=>
  simp only[slX]at hf;~⟨a,xs,rfl,q,r⟩:=p3;split at hf
  ·rename_i hw;@hf;rF .inl (.inl (.inr ⟨a,xs,rfl,r3.sub.tup q,by rw[r.length];!hw,λp hp=>?_⟩))
   #g:=Grow.laid r3.sub hp (.tup (cutV xs lo hi));!h _ _ _ (r3.grow g) (s03.trans g.gg) ⟨p,_,rfl,SqT.of q0k,Reps.mono g.gg _ (r.cut lo hi)⟩
  ·rename_i hw;@hf;!.inl (.inr ⟨a,xs,rfl,r3.sub.tup q,by rw[r.length];grind,h _ _ _ r3 s03 ⟨a,xs,rfl,q,r⟩⟩)
 |_=>@hf
nD inS:W->W->Option W
 |.str i,.str j=>match i.cps.toList with
  |[c]=>some (.bl (decide (c∈j.cps.toList)))
  |_=>none
 |_,_=>none
nD mulS:W->W->Option W
 |.str x,.int n=>if 1<=x.length/\x.length<=1000/\0<=n/\n<=1000 then some (.str ⟨(List.replicate n.toNat x.cps).foldl (·++·) #[]⟩)else none
 |_,_=>none
tm z0i:OpR X (binaryOp .Mult) (λx y H Q=>∃z n,x=.str z/\y=.int n/\1<=z.length/\z.length<=1000/\0<=n/\n<=1000/\Q (.str ⟨(List.replicate n.toNat z.cps).foldl (·++·) #[]⟩) H):=by
 intro pins s σ H x y v u Q I rx ry h;~⟨z,n,rfl,rfl,h1,h2,h3,h4,q⟩:=h;~⟨t,rfl⟩:=rx;~⟨t',rfl⟩:=ry
 #hlen:z.length*n.toNat<=1000000:=by
  #:n.toNat<=1000:=by omega
  calc z.length*n.toNat<=1000*1000:=Nat.mul_le_mul h2 this
   _=1000000:=rfl
 rF P.mul_str ?_ (λn0 _=>?_) (λ_ _=>?_) ?_
 ·grind
 ·#:(1000:Int)<=(2^63-1) / n:=by
   rw[Int.le_ediv_iff_mul_le oM];omega
  omega
 ·grind [Builtin.Str.tooLong,sizeLine_eq]
 ·by_cases e1:n<1
  ·#h0:n=0:=by omega
   subst h0;rw[if_pos (by decide)];!⟨by decide,.str _,H,I.tok _,⟨_,rfl⟩,q⟩
  by_cases e0:n=1
  ·subst e0;rw[if_neg (by decide),if_pos (by simp)]
   #eq:(⟨(List.replicate (1:Int).toNat z.cps).foldl (·++·) #[]⟩:Str)=z:=by
    simp_all
   rw[eq]at q;!⟨.str _,H,I,⟨_,rfl⟩,q⟩
  #e2:(n==1||z.length==0)=false:=by
   grind
  rw[if_neg e1,if_neg (by grind)];rF⟨?_,.str _,H,I.tok _,⟨_,rfl⟩,q⟩
  #hs:∀(m:Nat)(acc:Array Nat),((List.replicate m z.cps).foldl (·++·) acc).size=acc.size+m*z.cps.size:=by
   intro m
   induction m with
   |zero=>intro acc;simp
   |succ m ih=>
    grind
  show((List.replicate n.toNat z.cps).foldl (·++·) #[]).size<=sizeLine
  grind [sizeLine_eq,Str.length]
tm z0j:Op2 K (λx y H Q=>∃z n,x=.str z/\y=.int n/\1<=z.length/\z.length<=1000/\0<=n/\n<=1000/\Q (.str ⟨(List.replicate n.toNat z.cps).foldl (·++·) #[]⟩) H) mulS:=by
 intro G H x y wx wy w Q s px py hf h;unfold mulS at hf;split at hf
 ·split at hf
  ·rename_i z n hc;@hf;@px;@py;!⟨z,n,rfl,rfl,hc.1,hc.2.1,hc.2.2.1,hc.2.2.2,h G _ H (.refl s) rfl⟩
  ·@hf
 ·@hf
tm x8k(ha:DE Z X EE a da)(hb:DE Z X EE b db):DE Z X EE (.BinOp a .Mult b pos) (dOp mulS da db):=q7f z0i z0j ha hb
nD reprK:W->Option Str
 |.str z=>if(reprText z).length<=1000000 then some (reprText z)else none
 |_=>none
nD fRepr(d:Den W)(r:Den Str):Den Str:=λe=>(d e).bind λw e1=>match reprK w with
 |some x=>(r e1).bind λy e2=>.ok (x++y) e2
 |none=>.no
tm z0k(he:DE Z X EE e da)(r:DFm Z X EE n es d):DFm Z X EE (n+1) (.FormattedValue e 114 none pos::es) (fRepr da d):=by
 rF PF.mono (z0h he r) ?_;rintro acc σ H Q ⟨hl,G,e,rel,h⟩;simp only[fRepr,R.holds_bind]at h;rF⟨G,e,rel,h.imp (λw e1 h G1 v1 H1 r1 s1 p1=>?_) λ_ _ h=>h⟩
 split at h
 ·rename_i x hx;unfold reprK at hx;split at hx
  ·split at hx
   ·rename_i z hz;@hx;@p1;#e1':(acc++reprText z).length=acc.length+(reprText z).length:=PySem.Str.length_append _ _;rF⟨z,rfl,by rw[sizeLine_eq];omega,by grind [sizeLine_eq],by omega,G1,e1,r1,(R.holds_bind.mp h).imp (λy e2 h G2 H2 r2 s2=>?_) λ_ _ h=>XH.trans s1 h⟩
    #z:=h G2 H2 r2 (s1.trans s2)
    rwa [q51]at z
   ·@hx
  ·@hx
 ·!h.elim
end
nD signsW(x:Str):List W:=x.cps.toList.map λc=>W.str ⟨#[c]⟩
nD dCompS(js:List Nat)(di:Den W)(c:Den Bool)(d:Den W):Den (List W):=λe=>(di e).bind λw e1=>match w with
 |.str z=>compK js c d (signsW z) e1
 |_=>.no
section
variable{elt iter a:Expr}{ifs:List Expr}{scope sc:Scope}{pt:Pos}{Nf:List Str}{js:List Nat}{di:Den W}{dA:Den (List W)}{c:Den Bool}{d:Den W}{kt:Nat}
tm z6a:Walk (Itx z) (signs z) (λ_=>True):=by
 rF⟨λi H q h=>show i<z.cps.size by simpa [signs]using h,λi H x H' q ⟨e,y⟩ h=>⟨e,y⟩,λi H q h=>show z.cps.size<=i by simpa [signs]using h⟩
tm x2e:∀(l:List Nat),Reps K G (l.map λc=>W.str ⟨#[c]⟩) (l.map λc=>V.str ⟨#[c]⟩)
 |[]=>rfl
 |c::l=>⟨_,_,rfl,rfl,x2e l⟩
tm x9x:∀σ H Q,liftF K Z EE (dCompS js di c d) σ H Q->tComp (iStr (liftE K Z EE di)) 1 js (gName 0) (cT K c) (cE K d) σ H Q:=by
 rintro σ H Q ⟨G,e,rel,h⟩;simp only[dCompS,R.holds_bind]at h;rF⟨G,e,rel,h.imp (λw e1 h G1 v1 H1 r1 s1 p1=>?_) λ_ _ h=>h⟩
 split at h
 ·rename_i z;@p1;rF⟨z,rfl,?_⟩;unfold compK at h;split at h
  ·rename_i hl;split at h
   ·rename_i out ho;~⟨G2,s2,r2⟩:=r1.frzs js;!q95 z6a r2 (s1.trans s2) (x2e _) (λ_ _ _ _=>trivial) hl (ionone r2) ho h
   ·!h.elim
  ·!h.elim
 ·!h.elim
tm y5r(hc:X.calm=true)(hi:DE Z X EE iter di)(ok:compOk sc scope N Nf js=true)
  (ht:∀Z' cl C s₀ H₀ ex,DTs Z' (X.cp ([x]++Nf) scope cl C s₀ H₀ ex) (λ_=>E0) ifs c)(he:∀Z' cl C s₀ H₀ ex,DE Z' (X.cp ([x]++Nf) scope cl C s₀ H₀ ex) (λ_=>E0) elt d)
  (hg:∀cl C s₀ H₀ ex,PG (X.cp ([x]++Nf) scope cl C s₀ H₀ ex) (.Name x pt) (gName 0))
  (hsc:X.env.scope=sc:=by rfl)(hN:X.N=N:=by rfl)(hs:∀x,foldedSetIterable iter X.env x=pure x:=by intro _;rfl):
  DF Z X EE (.ListComp elt [⟨.Name x pt,iter,ifs,0⟩] scope pos) (dCompS js di c d):=by
 !PE.mono (x5t (Nl:=[x]) (tc:=cT X.K c) (te:=cE X.K d) hc (z59 hi) ok hg (x49 ht) (x5a he) hsc hN hs) x9x
tm x7l(hh:A.handled=none)(it l)(hne:l≠it)(items):
  Draws prog w A it [it,l] items.size (λi v=>items[i]?=some v) (λi h=>h.IsTupleIter it l i/\h.IsTuple l items) where
 live:=λ_ _ st=>let ⟨o,ho,_⟩:=st.1;⟨o,ho⟩
 frame:=λ_ _ _ st hk=>⟨st.1.at λo e=>hk it (by simp) o e,st.2.at λo e=>hk l (by simp) o e⟩
 item:=λi s Q E hi st hQ=>by
  rF q9c st.1 st.2 (x:=items[i]) (by simp[hi]) λh' hit' hs'=>?_
  !hQ _ h' s.toks (by simp[hi]) ⟨hit',st.2.extBut hs'.extBut hne⟩ hs'
 done:=λs Q E st hE=>q7o hh st.1 st.2 (by simp) hE
tm y2n(hh:A.handled=none)(it l)(items)(i)(hx:items[i]?=none):
  Draws prog w A it [it,l] i (λ_ _=>False) (λj h=>j=i/\h.IsTupleIter it l j/\h.IsTuple l items) where
 live:=λ_ _ st=>let ⟨o,ho,_⟩:=st.2.1;⟨o,ho⟩
 frame:=λ_ _ _ st hk=>⟨st.1,st.2.1.at λo e=>hk it (by simp) o e,st.2.2.at λo e=>hk l (by simp) o e⟩
 item:=λj s Q E hi st hQ=>absurd st.1 (w0w hi)
 done:=λs Q E st hE=>q7o hh st.2.1 st.2.2 hx hE
nD srcET(dA:Den (List W)):Den (List (W×W)):=λe=>(dA e).bind λws e1=>match ws with
 |[.tup us]=>.ok (enumL 0 us) e1
 |_=>.no
nD IteT(K:PySem.W.Frag)(a:Addr):It:=
 ⟨λi H=>∃xs x,SqT K H a xs/\xs[i]?=some x,λi H x H'=>∃b y,x=.ref b/\H b=none/\(∀xs,SqT K H a xs->xs[i]?=some y)/\H'=upd H b (.tup [.int i,y]),λi H=>∃xs,SqT K H a xs/\xs.length<=i⟩
section
open AutoSeq1 (wpAny_loadPart')
tm q8b(l)(items)(n)(dct)(sl):
  Meets (Builtin.«enumerate.__new__» ⟨[.type "enumerate", .ref l],[]⟩) (λ_ R s=>s.heap.get? l=some {cls:=.type "tuple", dict:=dct,data:=.seq items n,slots:=sl} /\
   R (.ok (.ret (.ref (s.heap.push {cls:=.type "tuple_iterator", data:=.fields #[.ref l,.int 0 0]}).objs.size)))
    {s with heap:=(s.heap.push {cls:=.type "tuple_iterator", data:=.fields #[.ref l,.int 0 0]}).push {cls:=.type "enumerate", data:=.fields #[.none,.bool false,.ref s.heap.objs.size,rawInt 0,.none,.none]}}):=
 .of_wp λprog w A R s h=>by
  ~⟨hp,g,d,tk,os⟩:=s;~⟨hl,h⟩:=h;#hsub:=sub_enumerate;#hL:Heap.IsTuple (Shared.heap ⟨hp,g,d,tk,os⟩) l items:=⟨_,hl,rfl,n,rfl⟩
  wp_walk using wpAny_loadPart' hl
  rF wpAny_stack_any λst=>wpAny_pure ?_
  split
  ·rename_i c _ _ _ _ _;cases(c==Value.type "enumerate")
   ·wp_walk using wpAny_loadPart' hl,wpAny_pyIter_tuple hL
    !⟨_,rfl,h⟩
   ·wp_walk using wpAny_loadPart' hl,wpAny_pyIter_tuple hL
    !⟨_,rfl,h⟩
  ·wp_walk using wpAny_loadPart' hl,wpAny_pyIter_tuple hL
   !⟨_,rfl,h⟩
end
tm q8c{s:Shared}(hL:s.heap.IsTuple l items)
  (h:∀h',IsEnum h' (s.heap.objs.size+1) s.heap.objs.size 0 .none->h'.IsTupleIter s.heap.objs.size l 0->h'.objs.size=s.heap.objs.size+2 ->
   (∀b o,s.heap.get? b=some o->h'.get? b=some o)->Q (.ref (s.heap.objs.size+1)) {s with heap:=h'}):
  wpAny (model prog w) A (call (.type "enumerate") [.ref l]) Q E s:=by
 ~⟨⟨c,dct,dt,sl⟩,hl,hc,n,hd⟩:=hL
 replace hc:c=.type "tuple":=hc
 replace hd:dt=.seq items n:=hd
 subst hc hd
 rF callType_new F.called_enumerate (by decide) (F.typeCall_enumerate_1 _) (F.newCall_enumerate_1 _) (λobj=>F.args_object_init_2 obj _) F.entry_enumerate_new
  (q8b l items n dct sl) ⟨hl,?_⟩
 #hz:(s.heap.push {cls:=.type "tuple_iterator", data:=.fields #[.ref l,.int 0 0]}).objs.size=s.heap.objs.size+1:=Heap.size_push ..;show _/\_;rw[hz]
 #he:IsEnum ((s.heap.push {cls:=.type "tuple_iterator", data:=.fields #[.ref l,.int 0 0]}).push
   {cls:=.type "enumerate", data:=.fields #[.none,.bool false,.ref s.heap.objs.size,rawInt 0,.none,.none]}) (s.heap.objs.size+1) s.heap.objs.size 0 .none:=by
  #:=Heap.get?_push_size (s.heap.push {cls:=.type "tuple_iterator", data:=.fields #[.ref l,.int 0 0]})
   (o:={cls:=.type "enumerate", data:=.fields #[.none,.bool false,.ref s.heap.objs.size,rawInt 0,.none,.none]}) rfl
  grind
 rF⟨⟨_,he,rfl⟩,h _ he ⟨_,Heap.get?_push_of_some _ (Heap.get?_push_size _ rfl),rfl,rfl⟩ (by rw[Heap.size_push,hz]) λb o x=>Heap.get?_push_of_some _ (Heap.get?_push_of_some _ x)⟩
tm x9y(a e it)(hne:e≠it):Turn P w K (.Tuple elts kt pt) (IteT K a) [e,it] e (λi h=>∃old,PySem.IsEnum h e it (i:Nat) old/\h.IsTupleIter it a i) where
 mem:=by simp
 obj:=λi h ⟨old,st1,st2⟩ b hb=>by
  simp only[w0d,w0h,or_false]at hb;rcases hb with rfl|rfl
  ·grind
  ·~⟨o,e,c,d⟩:=st2
   grind
 keep:=λi h h' ⟨old,st1,st2⟩ k=>⟨old,k e (by simp) _ st1,st2.at λo e=>k it (by simp) o e⟩
 item:=by
  intro X hP hw hK hc i pins s σ H E I hf st hg;subst hP hw hK;~⟨old,st1,st2⟩:=st;~⟨xs,x,hq,hx⟩:=hg;~⟨its,rv,p,hz⟩:=I.tuple hq;~⟨u,hu,ru⟩:=rv.get hx
  #hli:a≠it:=λz=>by
   ~⟨o,e1,c1,_⟩:=st2;~⟨o',e2,c2,_⟩:=p
   grind
  #hea:e≠a:=λz=>by
   ~⟨o',e2,c2,_⟩:=p
   grind
  rF wpAny_pyNext_enum_itemD (x7l (A:=X.A.in1) (I.ok.hd hc) it a hli its.toArray) st1 ⟨st2,p⟩ (by grind) hne (by simp[hne,hea]) λu' h1 tk hu' heo hst1 ht1 hz1 hk1=>⟨_,rfl,?_⟩
  obtain rfl:u'=u:=Option.some.inj (by grind);#hit1:=hst1.1;rF wpAny_letOwnedTupleGo_enum heo λh2 he2 hs2=>?_
  #hs2:Heap.SameBut e h1 h2:=hs2;#hlt:e<s.heap.objs.size:=Heap.lt_size st1;#hfr:H s.heap.objs.size=none:=I.hok.fresh (w0b _);#ht2:h2.get? s.heap.objs.size=some {cls:=.type "tuple", data:=.seq #[.int i tk,u']}:=(hs2.2 _ (w2t hlt)).trans ht1;rF⟨.ref s.heap.objs.size,upd H s.heap.objs.size (.tup [.int i,x]),?_,rfl,⟨_,x,rfl,hfr,λys hy=>by rw[I.tuple_inj hy hq];!hx,rfl⟩,⟨u',he2,?_⟩,λb hb=>?_⟩
  ·show L2.Inv X pins σ _ {s with heap:=h2,toks:=tk+1};rF q9b (fp:=[e,it]) I (λb o hb q=>?_) hf (w0b _) ⟨?_,[.int i tk,u'],.cons ⟨_,rfl⟩ (.cons ru .nil),⟨_,ht2,rfl,?_⟩,⟨_,ht2,rfl⟩⟩
   ·simp only[w0d,w0h,or_false,not_or]at hb;!(hs2.2 b hb.1).trans (hk1 b o hb.1 hb.2 q)
   all_goals grind [sizeLine_eq]
  ·!hit1.at λo q=>(hs2.2 it (Ne.symm hne)).trans q
  ·#:b≠s.heap.objs.size:=by
    obtain⟨o,q,_⟩:∃o,s.heap.get? b=some o/\True:=by
     simp only[w0d,w0h,or_false]at hb;rcases hb with rfl|rfl
     ·grind
     ·~⟨o,e,_⟩:=st2;grind
    !w0w (Heap.lt_size q)
   rw[q0g this];!(hf b hb).1
 done:=by
  intro X hP hw hK hc i pins s σ H E I hf st hg;subst hP hw hK;~⟨old,st1,st2⟩:=st;~⟨xs,hq,hx⟩:=hg;~⟨its,rv,p,hz⟩:=I.tuple hq;~⟨f0,f1,f2,f3,f4,f5⟩:=hf it (by simp);#hl:=rv.length
  #hli:a≠it:=λz=>by
   ~⟨o,e1,c1,_⟩:=st2;~⟨o',e2,c2,_⟩:=p
   grind
  rF wpAny_pyNext_enum_endD (y2n (A:=X.A.in1) (I.ok.hd hc) it a its.toArray i (by simp;omega)) st1 ⟨rfl,st2,p⟩ λh' eb=>⟨rfl,I.turned (t':=s.toks) (λb o hb e=>eb b o hb e) f0 f1 f3 f4 f5⟩
 self:=λ_ _ _ _ _ ⟨old,st1,_⟩ h=>wpAny_pyIter_enum st1 h
nD iEnumT(K:PySem.W.Frag)(ta:TA):TI:=λσ H R=>ta σ H λvs H1=>∃a,vs=[.ref a]/\(∃xs,SqT K H1 a xs)/\R (IteT K a) H1
tm y5s{elts:List Expr}{ta:TA}(hg:Gl X "enumerate")(hm:X.mg "enumerate"=none)(ha:PA X [a] ta)(hs:starEach [a] X.env=[(false,eval a X.env)]:=by rfl):PI X (.Tuple elts kt pt) (.Call (.Name "enumerate" p) [a] [] pos) (iEnumT X.K ta):=by
 intro pins s σ H R I h;rF PyProof.Rows.Call_ (q30 I hg hm PyProof.Rows.boot_enumerate (PyProof.Rows.callWith_type1 (thn (ha pos pins s σ H _ I h) λus s1 ⟨vs,H1,I1,r1,q1⟩=>?_) hs rfl))
 ~⟨l,e,⟨xs,hq⟩,q⟩:=q1;subst e;cases r1 with
 |cons r rr=>
  @rr;@r;~⟨its,rv,p,hz⟩:=I1.tuple hq;rF q8c p λh' he hit hsz hk=>?_
  rF wpAny_pyIter_enum he ?_;rF⟨s1.heap.objs.size+1,[s1.heap.objs.size+1,s1.heap.objs.size],_,_,H1,rfl,I1.kept (t':=s1.toks) hk,x9y l _ _ (w4o _),⟨_,he,hit⟩,λb hb=>?_,q⟩
  simp only[w0d,w0h,or_false]at hb;rcases hb with rfl|rfl
  ·!I1.fpOk oM (I1.hok.fresh oM)
  ·!I1.fpOk (w0b _) (I1.hok.fresh (w0b _))
tm x7m(rp:Reps K G1 ws xs)(hq:SqT K G1 b xs):Walk2 K G1 (IteT K b) (enumL 0 ws):=by
 #hx:=rp.length;#hl:=q89 0 ws;rF⟨λi G H s s' h=>⟨xs,xs[i]' oM,Same.tup s' (Same.tup s hq),by simp⟩,λi G H x H' s s' hy u v h=>?_,λi G H s s' h=>⟨xs,Same.tup s' (Same.tup s hq),by omega⟩⟩
 ~⟨c,y,rfl,hn,hx',rfl⟩:=hy;~⟨hu,hv⟩:=q9a 0 ws i u v h;~⟨w,hw,pw⟩:=rp.getV (hx' xs (Same.tup s' (Same.tup s hq)));rw[hv]at hw;@hw;rF⟨Grow.hid s' hn _,λm n σ Q hQ=>⟨c,[.int i,y],rfl,SqT.of q0k,rfl,.int i,[y],rfl,y,[],rfl,rfl,hQ _ _ ?_ (Rep.mono s _ pw)⟩⟩
 rw[hu,w4d];!rfl
tm y5t{elts:List Expr}(hm:X.mg "enumerate"=none)(ha:DA Z X EE [a] dA)(hg:Gl X "enumerate":=by rfl)(hs:starEach [a] X.env=[(false,eval a X.env)]:=by rfl):DI Z X EE (.Tuple elts kt pt) (.Call (.Name "enumerate" p) [a] [] pos) (srcET dA):=by
 rF PI.mono (y5s hg hm ha hs) ?_;rintro σ H RR ⟨G,e,rel,h⟩;simp only[srcET,R.holds_bind]at h;rF⟨G,e,rel,h.imp (λws e1 h G1 vs H1 r1 s1 p1=>?_) λ_ _ h=>h⟩
 split at h
 ·rename_i us;~⟨y,r,rfl,e1,e2⟩:=p1;cases(show r=[]from e2);~⟨b,xs,rfl,hq,rp⟩:=e1;!⟨b,rfl,⟨xs,r1.sub.tup hq⟩,h _ _ _ r1 s1 (x7m rp hq)⟩
 ·!h.elim
end
tm z6b:dSlX d dl dh e=(d e).bind λw e1=>(dl e1).bind λlo e2=>(dh e2).bind λhi e3=>ofOpt (slX w lo hi) e3:=rfl
tm z81:slX (.lst ws) lo hi=some (.lst (cutW ws lo hi)):=rfl
tm y7m(h:¬(HT.sIx ws.length 0 lo=0/\HT.sIx ws.length ws.length hi=ws.length)):slX (.tup ws) lo hi=some (.tup (cutW ws lo hi)):=if_pos h
tm z82(h:z.length<=16777216):slX (.str z) lo hi=some (.str (Txt.slice z lo hi)):=if_pos h
tm z83:inS (.str ⟨#[c]⟩) (.str j)=some (.bl (decide (c∈j.cps.toList))):=rfl
nD compSW(js:List Nat)(c:Den Bool)(d:Den W)(e1:List S):W->R (List W)
 |.str z=>compK js c d (signsW z) e1
 |_=>.no
tm y5u:dCompS js da c d e=(da e).bind λw e1=>compSW js c d e1 w:=by
 unfold dCompS;congr 1
tm y5v:compSW js c d e (.str z)=compK js c d (signsW z) e:=rfl
nD srcETW(e1:List S):List W->R (List (W×W))
 |[.tup us]=>.ok (enumL 0 us) e1
 |_=>.no
tm z0l:srcET dA e=(dA e).bind λws e1=>srcETW e1 ws:=by
 unfold srcET;congr 1
tm y5w:srcETW e [.tup ws]=.ok (enumL 0 ws) e:=rfl
nD fRepK(r:Den Str)(e1:List S):Option Str->R Str
 |some x=>(r e1).bind λy e2=>.ok (x++y) e2
 |none=>.no
tm z0m:fRepr d r e=(d e).bind λw e1=>fRepK r e1 (reprK w):=by
 unfold fRepr;congr 1
tm x9z:fRepK r e (some x)=(r e).bind λy e2=>.ok (x++y) e2:=rfl
tm z0n(h:(reprText z).length<=1000000):reprK (.str z)=some (reprText z):=if_pos h
tm z84:inD (.str x) (.dic (.k kvs))=some (.bl (lk kvs (.inr x)).isSome):=rfl
tm z85:ixD (.dic (.k kvs)) (.str x)=(lk kvs (.inr x)).map wSv:=rfl
tm y5x:putDC i (.int n) (.str x) e (some (.dic (.k kvs)))=if kvs.length<16777216/\onlyD i e=true then .nx (e.set i (.dic (.k (putL kvs (.inr x) (.inl n)))))else .no:=rfl
nD retDC(e:List S):Option S->SR
 |some (.dic d)=>.rt (.dic d) e
 |_=>.no
tm z0o:dRetD i e=retDC e e[i]?:=by
 rfl
tm z0p:retDC e (some (.dic dd))=.rt (.dic dd) e:=rfl
tm z6c(h:0<=n/\n<=1000):mulS (.str ⟨#[c]⟩) (.int n)=some (.str ⟨(List.replicate n.toNat c).toArray⟩):=by
 show(if 1<=(Str.mk #[c]).length/\(Str.mk #[c]).length<=1000/\0<=n/\n<=1000 then some (W.str ⟨(List.replicate n.toNat #[c]).foldl (·++·) #[]⟩)else none)=_;#e1:(Str.mk #[c]).length=1:=rfl;rw[if_pos ⟨by omega,by omega,h.1,h.2⟩]
 #hs:∀(m:Nat)(acc:List Nat),((List.replicate m #[c]).foldl (·++·) acc.toArray)=(acc++List.replicate m c).toArray:=by
  intro m
  induction m with
  |zero=>intro acc;simp
  |succ m ih=>
   grind
 grind
tm z0q(e:PyProof.Rows.KTD.tabLook PyProof.Rows.KTD.flatLooks (λb=>K.lookup b) d (tb.map λp=>(p.1,PyData.int p.2))=true)
  (n:((tb.map λp=>(p.1,PyData.int p.2)).map (·.1)).Nodup)(q:PyProof.Rows.KTD.hashesOf (λb=>K.lookup b) d=(tb.map λp=>(p.1,PyData.int p.2)).map λp=>(PySem.strKind P w).hash p.1)
  (o:∃o,K.lookup d=some o/\o.cls=.type "dict" /\ o.dict=none):TabK P w K d tb:=by
 rF⟨λh x=>?_,o⟩
 #z:=PySem.W.kt_tab_in P w x e n q;rw[w0y]at z;!z
section
variable{e k:Expr}{es:List Expr}{dk:Den W}{dA:Den (List W)}{tb:List (Str×Int)}
tm q7h(T:∃d,X.mg x=some (.ref d)/\TabK X.prog X.w X.K d tb)(hk:DE Z X EE k dk)(hg:Gl X x:=by rfl)(hd:(x==("__debug__":Str))=false:=by decide)(hs:PlainIx k:=by intro _ _;rfl):
  DE Z X EE (.Subscript (.Name x p) k pos) (dUn (tabW tb) dk):=by
 grind [y43]
tm x90(T:∃d,X.mg x=some (.ref d)/\TabK X.prog X.w X.K d tb)(ha:DA Z X EE (e::es) dA)(hg:Gl X x:=by rfl)(hd:(x==("__debug__":Str))=false:=by decide)
  (hbase:attributeBase (.Name x p) "get" X.env (eval (.Name x p) X.env)=eval (.Name x p) X.env:=by rfl)
  (hfew:((backTo cpos (starEach (e::es) X.env)).all (λx=>!x.1)&&(backToKw cpos (keywordEach [] X.env)).all (λx=>x.1.isSome)&&decide ((e::es).length+([]:List Keyword).length+(if([]:List Keyword).isEmpty then 0 else 1)<30))=true:=by rfl)
  (hline:(apos.endLine==cpos.line)=true:=by rfl)(hs:starEach (e::es) X.env=(false,eval e X.env)::starEach es X.env:=by rfl)(hplain:(backTo cpos (starEach es X.env)).any (·.1)=false:=by rfl):
  DE Z X EE (.Call (.Attribute (.Name x p) "get" apos) (e::es) [] cpos) (dFn (tabGet tb) dA):=by
 grind [y1x]
end
open PyProof.Rows (envOfC)
inductive MutAt(K:PySem.W.Frag)(G H:Hp)(vs:List V)(a1 a2:Addr)(ws1 ws2 ws:List W):Prop where
 |mk (xs1 xs2 us:List V) (h0:vs=.ref a1::.ref a2::us) (sg:Same G H) (ne:a1≠a2) (h1:H a1=some (.lst xs1)) (h2:H a2=some (.lst xs2)) (g1:G a1=none) (g2:G a2=none) (r1:Reps K G ws1 xs1) (r2:Reps K G ws2 xs2) (r:Reps K G ws us):MutAt K G H vs a1 a2 ws1 ws2 ws
structure MutOk(K:PySem.W.Frag)(G H G' H':Hp)(a1 a2:Addr)(o1 o2:List W):Prop where
 ent:∀a o,H a=some o->a≠a1->a≠a2->H' a=some o
 gg:Same G G'
 sub:Same G' H'
 new:∀a,H a≠none->G' a=G a
 l1:∃ys,H' a1=some (.lst ys)/\Reps K G' o1 ys
 l2:∃ys,H' a2=some (.lst ys)/\Reps K G' o2 ys
nD mres(r:FR)(P:List W->List W->Prop):Prop:=match r with
 |.ok (.fr (.tup [.lst o1,.lst o2]))=>P o1 o2
 |_=>False
nD spM(K:PySem.W.Frag)(F:List W->FR):Sp:=λvs H Q E=>∃G a1 a2 ws1 ws2 ws,MutAt K G H vs a1 a2 ws1 ws2 ws/\mres (F (.lst ws1::.lst ws2::ws)) λo1 o2=>∀G' H',MutOk K G H G' H' a1 a2 o1 o2->Q .non H'
nD SR.fm:SR->FR
 |.nx (.own (some 0) o1::.own (some 1) o2::_)=>.ok (.fr (.tup [.lst o1,.lst o2]))
 |_=>.no
nD initM(n:Nat):List W->List S
 |.lst ws1::.lst ws2::ws=>.own (some 0) ws1::.own (some 1) ws2::(ws.map .fr++List.replicate (n-2-ws.length) .no)
 |_=>[]
tm x3d{r:FR}{P:List W->List W->Prop}(h:mres r P):r≠.no:=λz=>by rw[z]at h;!h
tm y2o{G H:Hp}{y:Str}{a1 a2:Addr}{ws1 ws2 ws:List W}{vs:List V}(m:MutAt K G H vs a1 a2 ws1 ws2 ws):Rel K ⟨H,G,[a1,a2]⟩ G (L2.start (x::y::N) vs) H (initM (x::y::N).length (.lst ws1::.lst ws2::ws)):=by
 ~⟨xs1,xs2,us,rfl,s,ne,h1,h2,g1,g2,r1,r2,r⟩:=m;#hl:=r.length;#hk:(x::y::N).length-2-ws.length=N.length-ws.length:=by simp
 #hst:L2.start (x::y::N) (.ref a1::.ref a2::us)=some (.ref a1)::some (.ref a2)::(us.map some++List.replicate (N.length-us.length) none):=by
  unfold L2.start;simp
 #hin:initM (x::y::N).length (.lst ws1::.lst ws2::ws)=.own (some 0) ws1::.own (some 1) ws2::(ws.map .fr++List.replicate (N.length-ws.length) .no):=by
  show S.own (some 0) ws1::S.own (some 1) ws2::(ws.map S.fr++List.replicate ((x::y::N).length-2-ws.length) S.no)=_;rw[hk]
 rw[hst,hin]
 #hfr:∀(i:Nat)(s:S),(ws.map S.fr++List.replicate (N.length-ws.length) S.no)[i]?=some s->(s=.no)\/∃w,s=.fr w/\ws[i]?=some w:=λi s h=>by
  grind
 #hown:∀(i:Nat)(b:Option Nat)(w:List W),(S.own (some 0) ws1::S.own (some 1) ws2::(ws.map S.fr++List.replicate (N.length-ws.length) S.no))[i]?=some (.own b w)->i=0\/i=1:=λi b w h=>by
  grind
 rF⟨s,λi t h=>?_,by simp[hl],λi j b b' w1 w2 a z1 z2 z3 z4=>?_,λa o h _=>h,(λa h=>?_),λa _=>rfl⟩
 ·rcases i with _|_|i
  ·@h;!⟨a1,xs1,rfl,h1,g1,rfl,r1⟩
  ·@h;!⟨a2,xs2,rfl,h2,g2,rfl,r2⟩
  ·rcases hfr i t h with rfl|⟨w,rfl,q1⟩
   ·trivial
   ·~⟨v,q2,q3⟩:=r.get q1;rF⟨v,?_,q3⟩
    grind
 all_goals grind
section
variable{P:Program}{w:World}{mg:Str->Option Value}{base:Heap}
tm z0r{F:List W->FR}{G H:Hp}{a1 a2:Addr}{ws:List W}{Q:VK}{E:XK}{r:SR}(he:r.fm=F ws)(h:mres (F ws) λo1 o2=>∀G' H',MutOk K G H G' H' a1 a2 o1 o2->Q .non H'):
  PostS K ⟨H,G,[a1,a2]⟩ (λ_=>E) {nx:=λ_ H'=>Q .non H',rt:=Q} G r:=by
 rw[<- he]at h;unfold SR.fm at h;split at h
 ·rename_i o1 o2 tl;intro G' σ' H' r s;~⟨b1,ys1,k1,k2,k3,k4,k5⟩:=r.own (i:=0) rfl;~⟨b2,ys2,m1,m2,m3,m4,m5⟩:=r.own (i:=1) rfl;#e1:a1=b1:=Option.some.inj k4;#e2:a2=b2:=Option.some.inj m4;subst e1;subst e2;rF h G' H' ⟨λa o z n1 n2=>r.ent a o z ?_,s,r.sub,λa z=>r.gen a z,⟨ys1,k2,k5⟩,⟨ys2,m2,m5⟩⟩
  grind
 ·!h.elim
tm conM2{y1 y2:Str}{st:Stmt}{k:Nat}{F:List W->FR}(A:At K mg x st ps)(sc:FnScope (y1::y2::N) ps (defScope st))(len:∀ws,F ws≠.no->ws.length=ps.length)
  (hb:∀ws,F ws≠.no->∀(f:Addr)(cdv:Value)(A:Around)(outer:List Env)(s:Shared)(H:Hp)(E:XK)(Z:Zt),Room k (A.deeper (envOfC x (defScope st) s.heap.objs.size f cdv)) ->
   ∃d,DSs Z (cxOf (CX1 P w) P w K mg base (y1::y2::N) x (defScope st) f cdv A outer s H E) (λ_=>E) (defBody st) d/\(d (initM (y1::y2::N).length ws)).fm=F ws):Cal P w K mg base (k+1) x ps (spM K F):=by
 rF A.cal sc (λvs H Q E h=>?_) (λf cdv A outer s H vs Q E hr h=>?_)
 ·~⟨G,a1,a2,ws1,ws2,ws,m,h⟩:=h;~⟨xs1,xs2,us,rfl,_,_,_,_,_,_,_,_,r⟩:=m
  grind [x3d,Reps.length]
 ·~⟨G,a1,a2,ws1,ws2,ws,m,h⟩:=h;~⟨d,hd,he⟩:=hb _ (x3d h) f cdv A outer s H E ⟨H,G,[a1,a2]⟩ hr;!⟨_,hd,G,_,y2o m,z0r he h⟩
tm con0M{st:Stmt}{F:List W->FR}(A:At K mg x st ps)(hF:∀ws,F ws=.no:=by intro _;rfl):Cal P w K mg base 0 x ps (spM K F):=by
 ~⟨f,fd,F0,m,b⟩:=A.ex
 #no:∀{vs H Q E},spM K F vs H Q E->False:=λh=>by
  ~⟨G,a1,a2,ws1,ws2,ws,m,h⟩:=h;!x3d h (hF _)
 !⟨f,fd,⟨λvs H Q E h=>(no h).elim,λA outer s H args us vs Q E _ _ _ _ h=>(no h).elim⟩,m,F0.kp,b⟩
end
tm Rel.mut2{G G' H H':Hp}{σ:St}{e:List S}(r:Rel K Z G σ H e){i j:Nat}{b1 b2:Option Nat}{ws1 ws2 o1 o2:List W}{a1 a2:Addr}(hij:i≠j)(h1:e[i]?=some (.own b1 ws1))(h2:e[j]?=some (.own b2 ws2))
  (s1:σ[i]?=some (some (.ref a1)))(s2:σ[j]?=some (some (.ref a2)))(m:MutOk K G H G' H' a1 a2 o1 o2):Rel K Z G' σ H' ((e.set i (.own b1 o1)).set j (.own b2 o2)):=by
 ~⟨c1,xs1,q1,q2,q3,q4,q5⟩:=r.own h1;~⟨c2,xs2,p1,p2,p3,p4,p5⟩:=r.own h2;rw[s1]at q1;@q1;rw[s2]at p1;@p1
 #ne:a1≠a2:=λz=>by
  subst z;!hij (r.dis i j _ _ _ _ _ h1 h2 s1 s2)
 ~⟨ys1,l1,t1⟩:=m.l1;~⟨ys2,l2,t2⟩:=m.l2
 let H1:Hp:=λa=>if a=a1\/a=a2 then H a else H' a
 #g:Grow G H G' H1:=by
  rF⟨λa o z=>?_,m.gg,λa o z=>?_,m.new⟩
  ·show(if a=a1\/a=a2 then H a else H' a)=some o;split
   ·!z
   ·rename_i n;!m.ent a o z (λk=>n (.inl k)) (λk=>n (.inr k))
  ·show(if a=a1\/a=a2 then H a else H' a)=some o;split
   ·rename_i n
    #:H a≠none:=by
     grind
    rw[m.new a this]at z;!r.sub a o z
   ·!m.sub a o z
 #r2:=(r.grow g).mut h1 s1 t1;#r3:=r2.mut (i:=j) (by rw[w0f hij];!h2) s2 t2
 #he:upd (upd H1 a1 (.lst ys1)) a2 (.lst ys2)=H':=by
  funext a
  by_cases z2:a=a2
  ·grind [q0k]
  ·rw[q0g z2]
   by_cases z1:a=a1
   ·grind [q0k]
   ·rw[q0g z1]
    grind
 rw[he]at r3;!r3
nD mut2C(i j:Nat)(e:List S)(b1 b2:Option Nat):FR->SR
 |.ok (.fr (.tup [.lst o1,.lst o2]))=>.nx ((e.set i (.own b1 o1)).set j (.own b2 o2))
 |_=>.no
nD mut2B(F:List W->FR)(i j:Nat)(us:List W)(e:List S):Option S->Option S->SR
 |some (.own b1 ws1),some (.own b2 ws2)=>mut2C i j e b1 b2 (F (.lst ws1::.lst ws2::us))
 |_,_=>.no
nD mut2A(F:List W->FR)(i j:Nat)(dA:Den (List W))(e:List S):Option S->Option S->SR
 |some (.own _ _),some (.own _ _)=>(dA e).stm λus e1=>mut2B F i j us e1 e1[i]? e1[j]?
 |_,_=>.no
nD dMut2(F:List W->FR)(i j:Nat)(dA:Den (List W)):List S->SR:=λe=>mut2A F i j dA e e[i]? e[j]?
section
variable{es:List Expr}{dA:Den (List W)}{pos' p2 pn:Pos}{k:Nat}{F:List W->FR}{y f:Str}
tm x3e(i j:Nat)(hij:i≠j)(C:Cal X.prog X.w X.K X.mg X.base k f ps (spM X.K F))(hr:Room k X.A)(hx:PassX (CX1 X.prog X.w) X EE)(ha:DA Z X EE es dA)
  (hN:X.N[i]?=some x:=by rfl)(hvis:Vis X.env.scope x:=by walk_at "1")(hd:(x==("__debug__":Str))=false:=by decide)(hcd:(x==("__classdict__":Str))=false:=by decide)
  (hN2:X.N[j]?=some y:=by rfl)(hvis2:Vis X.env.scope y:=by walk_at "1")(hd2:(y==("__debug__":Str))=false:=by decide)(hcd2:(y==("__classdict__":Str))=false:=by decide)
  (hg:Gl X f:=by rfl)(hdb:(f==("__debug__":Str))=false:=by decide)(he:starEach (.Name x p::.Name y p2::es) X.env=(false,eval (.Name x p) X.env)::starEach (.Name y p2::es) X.env:=by rfl)(he2:starEach (.Name y p2::es) X.env=(false,eval (.Name y p2) X.env)::starEach es X.env:=by rfl)
  (hpl:(backTo pos (starEach (.Name y p2::es) X.env)).any (·.1)=false:=by rfl)(hs:swapsWith (.Call (.Name f pn) (.Name x p::.Name y p2::es) [] pos) none pos'.line X.env=pure false:=by rfl):
  DS Z X EE (.Expr (.Call (.Name f pn) (.Name x p::.Name y p2::es) [] pos) pos') (dMut2 F i j dA):=by
 rF PS.mono (q7t (x5u C hr hx (q5c (pv i hN hvis hd hcd) (q5c (pv j hN2 hvis2 hd2 hcd2) ha he2) he) hg hdb he hpl) hs) ?_;rintro D σ H ⟨G,e,rel,h⟩;unfold dMut2 mut2A at h;split at h
 ·rename_i b1 ws1 b2 ws2 q1 q2;~⟨a1,xs1,k1,k2,k3,k4,k5⟩:=rel.own q1;~⟨a2,xs2,m1,m2,m3,m4,m5⟩:=rel.own q2;rF⟨.ref a1,k1,.ref a2,m1,G,e,rel,(q0w h).imp (λus e1 h G1 vs H1 r1 s1 p1=>?_) λ_ _ h=>h⟩
  unfold mut2B at h;split at h
  ·rename_i c1 vs1 c2 vs2 t1 t2;~⟨a1',ys1,n1,n2,n3,n4,n5⟩:=r1.own t1;~⟨a2',ys2,l1,l2,l3,l4,l5⟩:=r1.own t2;rw[k1]at n1;@n1;rw[m1]at l1;@l1;rF⟨G1,a1,a2,vs1,vs2,us,⟨ys1,ys2,vs,by simp,r1.sub,λz=>?_,n2,l2,n3,l3,n5,l5,p1⟩,?_⟩
   ·subst z;!hij (r1.dis i j _ _ _ _ _ t1 t2 k1 m1)
   ·unfold mut2C at h;split at h
    ·rename_i o1 o2 hF;rw[hF];intro G' H' m;!h G' σ H' (r1.mut2 hij t1 t2 k1 m1 m) (s1.trans m.gg)
    ·!h.elim
  ·!h.elim
 ·!h.elim
end
section
variable{e:List S}{ws1 ws2 us o1 o2:List W}{b1 b2:Option Nat}{i j n:Nat}{F:List W->FR}{dA:Den (List W)}
tm z0s:dMut2 F i j dA e=mut2A F i j dA e e[i]? e[j]?:=rfl
tm z0t:mut2A F i j dA e (some (.own b1 ws1)) (some (.own b2 ws2))=(dA e).stm λus e1=>mut2B F i j us e1 e1[i]? e1[j]?:=rfl
tm z0u:mut2B F i j us e (some (.own b1 ws1)) (some (.own b2 ws2))=mut2C i j e b1 b2 (F (.lst ws1::.lst ws2::us)):=rfl
tm z0v:mut2C i j e b1 b2 (.ok (.fr (.tup [.lst o1,.lst o2])))=.nx ((e.set i (.own b1 o1)).set j (.own b2 o2)):=rfl
tm z0w:initM n (.lst ws1::.lst ws2::us)=.own (some 0) ws1::.own (some 1) ws2::(us.map .fr++List.replicate (n-2-us.length) .no):=rfl
tm z86:SR.fm (.nx (.own (some 0) o1::.own (some 1) o2::e))=.ok (.fr (.tup [.lst o1,.lst o2])):=rfl
end
open PySem L2 PySem.Spec PyProof.Rows
open PySem.Builtin.Str (occurrences partsBetween strKind strSub)
tm x4c:∀(tk:Nat)(xs:List Str),Vals (xs.map V.str) (strsFrom tk xs)
 |_,[]=>.nil
 |tk,x::xs=>.cons ⟨tk,rfl⟩ (x4c (tk+1) xs)
nD okSplit(x y:Str):Bool:=!(y.length==0)&&decide (x.length<=16777216)&&decide ((Txt.split x y).length<=16777216)
nD rSplit:V->List V->Hp->VK->Prop:=λv vs H Q=>∃x y:Str,v=.str x/\vs=[.str y]/\okSplit x y=true/\∀l,H l=none->Q (.ref l) (upd H l (.lst ((Txt.split x y).map V.str)))
tm y5y{X:L2.Cx}:MtR X "str.split" rSplit:=by
 intro pins s σ H x vs v us Q I rx rv h;~⟨x0,y0,rfl,rfl,ok,q⟩:=h;unfold okSplit at ok;rw[w0l,w0l,w3l]at ok;~⟨⟨hy,hx⟩,hn⟩:=ok;#hx:=of_decide_eq_true hx;#hn:=of_decide_eq_true hn;~⟨t,rfl⟩:=rx;~⟨u,rfl,ru⟩:=rv.one;~⟨t2,rfl⟩:=ru
 #lay:∀(its:List Value)(tk:Nat),Vals ((Txt.split x0 y0).map V.str) its->EP X pins σ Q (.ref s.heap.objs.size) {s with toks:=tk,heap:=s.heap.push {cls:=.type "list", data:=.seq its.toArray}}:=λits tk hv=>
  ⟨.ref _,_,I.laid (t':=tk) (λb o e=>Heap.get?_push_of_some _ e) (w0b _) (show ObjOk X.prog X.w _ _ _ (.lst ((Txt.split x0 y0).map V.str))from⟨by grind [sizeLine_eq],its,0,hv,Heap.get?_push_size _ rfl⟩),rfl,q _ (I.hok.fresh (w0b _))⟩
 cases h1:(decide (x0.length<y0.length)||decide (strKind x0<strKind y0))
 ·cases hf:(occurrences x0 y0 0 x0.length (x0.length+1)).isEmpty
  ·#e:Txt.split x0 y0=partsBetween x0 (occurrences x0 y0 0 x0.length (x0.length+1)) y0.length:=(if_neg (ne_true_of_eq_false h1)).trans (if_neg (ne_true_of_eq_false hf));rF call_meets F.slot_str_split (typeIs_str _ _ _) F.entry_str_split (F.args_str_split_2 _ _) (meets_str_split_sep x0 y0 t t2 h1 hy hf (by grind [sizeLine_eq]) (by grind [sizeLine_eq])) ?_
   grind [x4c]
  ·#e:Txt.split x0 y0=[x0]:=(if_neg (ne_true_of_eq_false h1)).trans (if_pos hf);rF call_meets F.slot_str_split (typeIs_str _ _ _) F.entry_str_split (F.args_str_split_2 _ _) (meets_str_split_not_found x0 y0 t t2 h1 hy hf) ?_;!lay [.str x0 t] s.toks (by rw[e];!.cons ⟨t,rfl⟩ .nil)
 ·#e:Txt.split x0 y0=[x0]:=if_pos h1;rF call_meets F.slot_str_split (typeIs_str _ _ _) F.entry_str_split (F.args_str_split_2 _ _) (meets_str_split_cannot_occur x0 y0 t t2 h1) ?_;!lay [.str x0 t] s.toks (by rw[e];!.cons ⟨t,rfl⟩ .nil)
tm q9d:∀xs:List Str,Reps K G (xs.map W.str) (xs.map V.str)
 |[]=>rfl
 |_::xs=>⟨_,_,rfl,rfl,q9d xs⟩
nD splitW:W->List W->Option W
 |.str x,[.str y]=>if okSplit x y=true then some (.lst ((Txt.split x y).map .str))else none
 |_,_=>none
tm y5z:OpM K rSplit splitW:=by
 intro G H x xs wx ws w Q s px pr hf h;unfold splitW at hf;split at hf
 ·rename_i x0 y0;split at hf
  ·rename_i ok;@hf;~⟨y,r,rfl,py,pr⟩:=pr;cases(show r=[]from pr);cases(show x=V.str x0 from px);cases(show y=V.str y0 from py);!⟨x0,y0,rfl,rfl,ok,λl hl=>h _ (.ref l) _ (Grow.laid s hl _) ⟨l,_,rfl,SqL.of q0k,q9d _⟩⟩
  ·@hf
 ·@hf
nD partT(x y:Str):List Str:=match occurrences x y 0 x.length 1 with
 |i::_=>[strSub x 0 i,y,strSub x (i+y.length) x.length]
 |[]=>[x,Str.empty,Str.empty]
tm y2p(x y):(partT x y).length=3:=by grind [partT]
nD okPart(x y:Str):Bool:=!(y.length==0)&&decide (x.length<=16777216)
nD rPart:V->List V->Hp->VK->Prop:=λv vs H Q=>∃x y:Str,v=.str x/\vs=[.str y]/\okPart x y=true/\∀l,H l=none->Q (.ref l) (upd H l (.tup ((partT x y).map V.str)))
tm z0x{X:L2.Cx}:MtR X "str.partition" rPart:=by
 intro pins s σ H x vs v us Q I rx rv h;~⟨x0,y0,rfl,rfl,ok,q⟩:=h;unfold okPart at ok;rw[w0l,w3l]at ok;~⟨hy,hx⟩:=ok;#hx:=of_decide_eq_true hx;~⟨t,rfl⟩:=rx;~⟨u,rfl,ru⟩:=rv.one;~⟨t2,rfl⟩:=ru
 #lay:∀(its:List Value)(tk:Nat),Vals ((partT x0 y0).map V.str) its->EP X pins σ Q (.ref s.heap.objs.size) {s with toks:=tk,heap:=s.heap.push {cls:=.type "tuple", data:=.seq its.toArray}}:=λits tk hv=>
  ⟨.ref _,_,I.laid (t':=tk) (λb o e=>Heap.get?_push_of_some _ e) (w0b _) (show ObjOk X.prog X.w _ _ _ (.tup ((partT x0 y0).map V.str))from⟨by grind [y2p,sizeLine_eq],its,hv,IsTup.new _ _,_,Heap.get?_push_size _ rfl,rfl⟩),rfl,q _ (I.hok.fresh (w0b _))⟩
 rF call_meets F.slot_str_partition (typeIs_str _ _ _) F.entry_str_partition (F.args_str_partition_2 _ _) (meets_str_partition x0 y0 t t2 hy (by grind [sizeLine_eq])) ?_
 #e:partT x0 y0=match occurrences x0 y0 0 x0.length 1 with
  |i::_=>[strSub x0 0 i,y0,strSub x0 (i+y0.length) x0.length]
  |[]=>[x0,Str.empty,Str.empty]:=rfl
 revert e lay;generalize partT x0 y0=ps;cases occurrences x0 y0 0 x0.length 1 with
 |nil=>
  rintro lay rfl;!lay _ _ (.cons ⟨_,rfl⟩ (.cons ⟨_,rfl⟩ (.cons ⟨_,rfl⟩ .nil)))
 |cons i r=>
  rintro lay rfl;!lay _ _ (.cons ⟨_,rfl⟩ (.cons ⟨_,rfl⟩ (.cons ⟨_,rfl⟩ .nil)))
nD partW:W->List W->Option W
 |.str x,[.str y]=>if okPart x y=true then some (.tup ((partT x y).map .str))else none
 |_,_=>none
tm z0y:OpM K rPart partW:=by
 intro G H x xs wx ws w Q s px pr hf h;unfold partW at hf;split at hf
 ·rename_i x0 y0;split at hf
  ·rename_i ok;@hf;~⟨y,r,rfl,py,pr⟩:=pr;cases(show r=[]from pr);cases(show x=V.str x0 from px);cases(show y=V.str y0 from py);!⟨x0,y0,rfl,rfl,ok,λl hl=>h _ (.ref l) _ (Grow.laid s hl _) ⟨l,_,rfl,SqT.of q0k,q9d _⟩⟩
  ·@hf
 ·@hf
section
variable{o e:Expr}{d:Den W}{dA:Den (List W)}
tm x1j(ho:DE Z X EE o d)(ha:DA Z X EE [e] dA)
  (hbase:attributeBase o "split" X.env (eval o X.env)=eval o X.env:=by rfl)
  (hfew:((backTo cpos (starEach [e] X.env)).all (λx=>!x.1)&&(backToKw cpos (keywordEach [] X.env)).all (λx=>x.1.isSome)&&decide ([e].length+([]:List Keyword).length+(if([]:List Keyword).isEmpty then 0 else 1)<30))=true:=by rfl)
  (hline:(apos.endLine==cpos.line)=true:=by rfl)(hs:starEach [e] X.env=(false,eval e X.env)::starEach [] X.env:=by rfl)(hplain:(backTo cpos (starEach [] X.env)).any (·.1)=false:=by rfl):
  DE Z X EE (.Call (.Attribute o "split" apos) [e] [] cpos) (dMeth "str" splitW d dA):=
 x3b PySem.F.plainAttrs_str PySem.F.slot_str_split PySem.F.type_str_split y5y y5z ho ha hbase hfew hline hs hplain
tm z0z(ho:DE Z X EE o d)(ha:DA Z X EE [e] dA)
  (hbase:attributeBase o "partition" X.env (eval o X.env)=eval o X.env:=by rfl)
  (hfew:((backTo cpos (starEach [e] X.env)).all (λx=>!x.1)&&(backToKw cpos (keywordEach [] X.env)).all (λx=>x.1.isSome)&&decide ([e].length+([]:List Keyword).length+(if([]:List Keyword).isEmpty then 0 else 1)<30))=true:=by rfl)
  (hline:(apos.endLine==cpos.line)=true:=by rfl)(hs:starEach [e] X.env=(false,eval e X.env)::starEach [] X.env:=by rfl)(hplain:(backTo cpos (starEach [] X.env)).any (·.1)=false:=by rfl):
  DE Z X EE (.Call (.Attribute o "partition" apos) [e] [] cpos) (dMeth "str" partW d dA):=
 x3b PySem.F.plainAttrs_str PySem.F.slot_str_partition PySem.F.type_str_partition z0x z0y ho ha hbase hfew hline hs hplain
end
open PySem.Builtin.Str (occurrences partsBetween tooLong)
end D
namespace L2
open PySem PySem.Spec PyProof.Rows
end L2
namespace D
open PySem L2 PySem.Spec PyProof.Rows
open PyProof.Rows (envOfC)
end D
namespace L2
open PySem PySem.Spec PyProof.Rows
end L2
namespace D
open PySem L2 PySem.Spec PyProof.Rows
end D
namespace L2
open PySem PySem.Spec PyProof.Rows
end L2
namespace D
open PySem L2 PySem.Spec PyProof.Rows
open Classical
variable{X:Cx}{G H:Hp}{σ:L2.St}{EE:L2.St->XK}{ks:List Kx}{e:List S}{ws:List W}{i:Nat}{pos:Pos}{K:PySem.W.Frag}{sh:Sh}{Z:Zt}
mutual
noncomputable def kxW:W->Option Kx
 |.non=>some .non
 |.bl b=>some (.bl b)
 |.int i=>some (.int i)
 |.str x=>some (.str x)
 |.tup ws=>(kxWs ws).map .tup
 |_=>none
noncomputable def kxWs:List W->Option (List Kx)
 |[]=>some []
 |w::ws=>match kxW w,kxWs ws with
  |some k,some ks=>some (k::ks)
  |_,_=>none
end
nD lkW:List Kx->List W->Kx->Option W
 |k::ks,w::ws,x=>if k=x then some w else lkW ks ws x
 |_,_,_=>none
tm DAt.rd{fz:Bool}{a:Addr}{kvs:List (Kx×V)}{kas:List Addr}(s:Same G H)(h:DAt fz G a sh kvs kas):Rd H a (dwO sh kvs kas):=by
 cases fz with
 |true=>~⟨o,h⟩:=h;!.inr ⟨o,s _ _ h⟩
 |false=>!.inl (s _ _ h)
section
variable{a b e k o:Expr}{es:List Expr}{da db d dk:Den W}{dA:Den (List W)}{p tpos:Pos}{x:Str}{body:List Stmt}{s1:List S->SR}
nD isDw:S->Bool
 |.dw _ _ _=>true
 |.dic _=>true
 |_=>false
tm Rel.dwX{e:List S}(r:Rel K Z G σ H e)(h:e[i]?=some (.dw sh ks ws)):∃a kvs kas,σ[i]?=some (some (.ref a))/\H a=some (dwO sh kvs kas)/\G a=none/\Z.H a=none/\kvs.map (·.1)=ks/\KeysS sh G ks kas/\RepsX K Z G sh ws (kvs.map (·.2)):=by
 ~⟨a,kvs,kas,h1,h2,h3,h4,h5,h6,h7⟩:=r.slot i _ h;rF⟨a,kvs,kas,?_,h2,h3,h4,h5,h6,h7⟩;cases q:σ[i]? with
 |none=>rw[q]at h1;@h1
 |some z=>rw[q]at h1;rw[show z=some (V.ref a)from h1]
tm Rel.dw{e:List S}(r:Rel K Z G σ H e)(h:e[i]?=some (.dw sh ks ws)):∃a kvs kas,σ[i]?=some (some (.ref a))/\H a=some (dwO sh kvs kas)/\G a=none/\Z.H a=none/\kvs.map (·.1)=ks/\KeysS sh G ks kas/\Reps K G ws (kvs.map (·.2)):=by
 ~⟨a,kvs,kas,h1,h2,h3,h4,h5,h6,h7⟩:=r.dwX h;!⟨a,kvs,kas,h1,h2,h3,h4,h5,h6,h7.reps⟩
tm Rel.setS{e:List S}(r:Rel K Z G σ H e){s:S}{v:V}(hs:∀b ws,s≠.own b ws)(q:SlotOk K Z G H s (some v)):Rel K Z G (σ.set i (some v)) H (e.set i s):=by
 rF⟨r.sub,λj t z=>?_,by simpa using r.len,λj k b1 b2 w1 w2 c z1 z2 z3 z4=>?_,r.ent,r.ion,r.gen⟩
 ·by_cases hj:j=i
  ·subst hj
   #hi:j<e.length:=by
    #:=(w0m.mp z).1;simpa using this
   rw[w0p hi]at z;@z;rw[w0p (by rw[<- r.len];!hi)];!q
  ·rw[w0f (λz=>hj z.symm)]at z |-
   !r.slot j t z
 ·#old:∀(k:Nat)(bb:Option Nat)(ww:List W),(e.set i s)[k]?=some (.own bb ww)->k≠i/\e[k]?=some (.own bb ww):=λk bb ww z=>by
   by_cases hk:k=i
   ·subst hk
    #hi:k<e.length:=by
     #:=(w0m.mp z).1;simpa using this
    rw[w0p hi]at z;@z;!absurd rfl (hs _ _)
   ·rw[w0f (λz=>hk z.symm)]at z;!⟨hk,z⟩
  ~⟨n1,q1⟩:=old _ _ _ z1;~⟨n2,q2⟩:=old _ _ _ z2;rw[w0f (λz=>n1 z.symm)]at z3
  rw[w0f (λz=>n2 z.symm)]at z4
  !r.dis _ _ _ _ _ _ _ q1 q2 z3 z4
tm Rel.mutDw{e:List S}(r:Rel K Z G σ H e){sh:Sh}{ks':List Kx}{ws':List W}{a:Addr}{kvs':List (Kx×V)}{kas':List Addr}(h:e[i]?=some (.dw sh ks ws))(ha:σ[i]?=some (some (.ref a)))(ho:∀s∈e.set i .no,isDw s=false)
  (h5:kvs'.map (·.1)=ks')(h6:KeysS sh G ks' kas')(h7:RepsX K Z G sh ws' (kvs'.map (·.2))):Rel K Z G σ (upd H a (dwO sh kvs' kas')) (e.set i (.dw sh ks' ws')):=by
 ~⟨a',kvs,kas,h1,h2,h3,h4,_⟩:=r.dw h;rw[ha]at h1;@h1;#hi:i<e.length:=(w0m.mp h).1;rF⟨λc o z=>?_,λj s z=>?_,by simpa using r.len,λj k b1 b2 w1 w2 c z1 z2 z3 z4=>?_,λc o z n=>?_,λc z=>?_,r.gen⟩
 ·rw[q0g (q0p z h3)];!r.sub c o z
 ·by_cases hj:j=i
  ·subst hj;rw[w0p hi]at z;@z;!⟨a,kvs',kas',by rw[ha];rfl,q0k,h3,h4,h5,h6,h7⟩
  ·rw[w0f (λz=>hj z.symm)]at z
   #y:=r.slot j s z;cases s with
   |no=>trivial
   |fr w=>!y
   |own b2 w2=>
    ~⟨c,ys,y1,y2,y3,y4,y5⟩:=y;rF⟨c,ys,y1,?_,y3,y4,y5⟩;rw[q0g (q3q y2 h2 (λz=>q82 rfl z.symm))];!y2
   |dic _=>
    #:=ho _ (w1m (i:=j) (by rw[w0f (λz=>hj z.symm)];!z))
    @this
   |dw _ _ _=>
    #:=ho _ (w1m (i:=j) (by rw[w0f (λz=>hj z.symm)];!z))
    @this
 ·#old:∀(k:Nat)(bb:Option Nat)(ww:List W),(e.set i (S.dw sh ks' ws'))[k]?=some (.own bb ww)->e[k]?=some (.own bb ww):=λk bb ww z=>by
   by_cases hk:k=i
   ·subst hk;rw[w0p hi]at z;@z
   ·rw[w0f (λz=>hk z.symm)]at z;!z
  !r.dis _ _ _ _ _ _ _ (old _ _ _ z1) (old _ _ _ z2) z3 z4
 ·rw[q0g (q0p z h4)];!r.ent c o z n
 ·by_cases hc:c=a
  ·subst hc;rw[q0k];!λz=>nomatch z
  ·rw[q0g hc];!r.ion c z
nD setDI(i:Nat)(e:List S):FR->SR
 |.ok (.dw sh ks ws)=>.nx (e.set i (.fr (.dw false sh ks ws)))
 |_=>.no
nD dSetDI(i:Nat)(F:List W->FR)(dA:Den (List W)):List S->SR:=λe=>(dA e).stm λws e1=>setDI i e1 (F ws)
tm y50(i:Nat){f:Str}{k:Nat}{ps:List Str}{F:List W->FR}{np cpos:Pos}(hN:X.N.Nodup)(C:Cal X.prog X.w X.K X.mg X.base k f ps (spF X.K F))(hr:Room k X.A)(hx:PassX (CX1 X.prog X.w) X EE)(ha:DA Z X EE (e::es) dA)(hg:Gl X f:=by rfl)
  (hdb:(f==("__debug__":Str))=false:=by decide)(he:starEach (e::es) X.env=(false,eval e X.env)::starEach es X.env:=by rfl)(hpl:(backTo cpos (starEach es X.env)).any (·.1)=false:=by rfl)
  (hi:X.N[i]?=some x:=by rfl)(hl:Loc X.env.scope x:=by walk_at "3")(hs:swapsWith (.Call (.Name f np) (e::es) [] cpos) (some (.Name x p)) pos.line X.env=pure false:=by rfl)(hf:X.fn x=true\/X.env.scope.names.lookup x=some .local:=by walk_at "2"):
  DS Z X EE (.Assign [.Name x p] (.Call (.Name f np) (e::es) [] cpos) pos) (dSetDI i F dA):=by
 rF PS.mono (x11 i hN (x5u C hr hx ha hg hdb he hpl) hi hl hs hf) ?_;rintro D σ H ⟨G,e,rel,h⟩;rF⟨G,e,rel,(q0w h).imp (λws e1 h G1 vs H1 r1 s1 p1=>?_) λ_ _ h=>h⟩
 rF⟨G1,ws,r1.sub,by grind,?_⟩;cases q:F ws with
 |ok s=>
  rw[q]at h;intro G' H' v g sl;cases s with
  |dw sh ks ws'=>
   ~⟨a,kvs,kas,h1,h2,h3,h4,h5,h6,h7⟩:=sl;@h1;#hn:H1 a=none:=h4;#sg:Same G' (upd G' a (dwO sh kvs kas)):=q3a h3 _
   #g2:Grow G1 H1 (upd G' a (dwO sh kvs kas)) H':=
    ⟨g.hh,g.gg.trans sg,λc u z=>by
     by_cases hc:c=a
     ·grind [q0k]
     ·rw[q0g hc]at z;!g.sub _ _ z,λc z=>by rw[q0g (λy=>z (by rw[y];!hn))];!g.new c z⟩
   !h _ _ _ ((r1.grow g2).set (w:=.dw false sh ks ws') (v:=.ref a) ⟨a,kvs,kas,rfl,q0k,h5,h6.mono sg,Reps.mono sg ws' h7.reps⟩) (s1.trans g2.gg)
  |_=>!h.elim
 |ex c=>rw[q]at h;!h.elim
 |no=>rw[q]at h;!h.elim
tm y51{F:List W->FR}{e:List S}:dSetDI i F dA e=(dA e).stm λws e1=>setDI i e1 (F ws):=rfl
tm y52{e:List S}:setDI i e (.ok (.dw sh ks ws))=.nx (e.set i (.fr (.dw false sh ks ws))):=rfl
nD retW(e:List S):Option S->SR
 |some (.dw sh ks ws)=>.rt (.dw sh ks ws) e
 |_=>.no
nD dRetW(i:Nat):List S->SR:=λe=>retW e e[i]?
tm z00(i:Nat)(hN:X.N[i]?=some x:=by rfl)(hv:Vis X.env.scope x:=by walk_at "1")(hd:(x==("__debug__":Str))=false:=by decide)(hcd:(x==("__classdict__":Str))=false:=by decide):
  DS Z X EE (.Return (some (.Name x p)) pos) (dRetW i):=by
 rF PS.mono (q8y (pv i hN hv hd hcd)) ?_;rintro D σ H ⟨G,e,rel,h⟩;unfold dRetW retW at h;split at h
 ·rename_i sh ks ws hw;~⟨a,kvs,kas,h1,h2,h3,h4,h5,h6,h7⟩:=rel.dwX hw;!⟨.ref a,h1,h G σ (.ref a) H rel (.refl _) ⟨a,kvs,kas,rfl,h2,h3,h4,h5,h6,h7⟩⟩
 ·!h.elim
end
section
variable{w kw dflt:W}{x:Kx}{fz:Bool}
tm z01:dRetW i e=retW e e[i]?:=rfl
tm z6d:retW e (some (.dw sh ks ws))=.rt (.dw sh ks ws) e:=rfl
tm z02:hide1 (.dw sh ks ws)=.fr (.dw false sh ks ws):=rfl
end
open PySem L2
section
variable{a b:Expr}{da db:Den W}
nD ixS(d w:W):Option W:=match d,w with
 |.dw _ .str ks ws,.str n=>lkW ks ws (.str n)
 |_,_=>none
tm x8l{n:Str}:∀{kvs:List (Kx×V)}{ws:List W}{w:W},(∀k∈kvs.map (·.1),∃i,k=Kx.str i)->Reps K G ws (kvs.map (·.2))->lkW (kvs.map (·.1)) ws (.str n)=some w->∃v,valV (kvs.map λp=>(kxK p.1,p.2)) (.inr n:Key)=some v/\Rep K G w v
 |[],_,_,_,_,e=>by grind [lkW]
 |p::l,[],_,_,h,_=>nomatch (show(p::l).map (·.2)=[]from h)
 |p::l,w0::ws,w,hk,⟨y,r,e0,h1,h2⟩,e=>by
  injection e0 with e0 e0'
  subst e0;subst e0';~⟨i,hi⟩:=hk p.1 (by simp);#e:(if p.1=Kx.str n then some w0 else lkW (l.map (·.1)) ws (.str n))=some w:=e
  by_cases hp:p.1=Kx.str n
  ·rw[if_pos hp]at e;@e;rF⟨p.2,?_,h1⟩;rw[w0g,hp];!q6z rfl
  ·rw[if_neg hp]at e;~⟨v,h3,h4⟩:=x8l (λk hk'=>hk k (by grind)) h2 e
   rF⟨v,?_,h4⟩;rw[w0g,q60]
   ·!h3
   ·intro z;rw[hi]at z hp;injection z with z
    !hp (by rw[z])
tm z6e:Op2 K (λx y H Q=>∃a v,x=.ref a/\DGet H a y (some v)/\Q v H) ixS:=by
 intro G H x y wx wy w Q s px py hf h;unfold ixS at hf;split at hf
 ·rename_i fz ks ws n;cases(show y=V.str n from py);~⟨a,kvs,kas,rfl,h1,rfl,h3,h4⟩:=px;~⟨v,e1,e2⟩:=x8l h3 h4 hf;#rd:Rd H a (.dK (kvs.map λp=>(kxK p.1,p.2))):=h1.rd s
  !⟨a,v,rfl,.inl ⟨_,.inr n,rd,rfl,e1.symm⟩,h G v H (.refl s) e2⟩
 ·@hf
tm q2f(hu:X.A.units+150<cLine)(ha:DE Z X EE a da)(hb:DE Z X EE b db)(hs:NoSl b:=by intro _ _;rfl):DE Z X EE (.Subscript a b pos) (dOp ixS da db):=
 PE.mono (x8i oM ha hb hs) (q4k z6e)
end
end D
namespace L2
open PySem PySem.Spec PyProof.Rows
end L2
namespace D
open PySem PySem.Spec L2 PyProof.Rows
section
variable{prog:Program}{w:World}{A:Around}{E:Value->Shared->Prop}{s:Shared}
nD IsZp(h:Heap)(z I O c:Addr)(f:Bool):Prop:=h.get? z=some {cls:=.type "zip", data:=.fields #[rawInt c,.bool f,.bool false,.ref I,.ref O]}
tm alive{a:Addr}{o:Obj}{Q:Option Obj->Shared->Prop}(h:s.heap.get? a=some o)(q:Q (some o) s):wpAny (model prog w) A (loadIfAlive a) Q E s:=by
 intro Γ p _;show Sem.wp _ _ (Sem.loadIfAlive a Sem.pure) _ _ _ _;rw[Sem.wp_loadIfAlive,h];!q
tm x6l{z I O c:Addr}{f:Bool}{Q:Bool->Shared->Prop}{oc:Obj}(gz:IsZp s.heap z I O c f)(hc:s.heap.get? c=some oc)(hQ:∀h',IsZp h' z I O c true->Heap.SameBut z s.heap h'->Q false {s with heap:=h'}):
  wpAny (model prog w) A (Builtin.SmallTypes.ownedTupleIsFree (.ref z)) Q E s:=by
 unfold Builtin.SmallTypes.ownedTupleIsFree;rF wpAny_bind (wpAny_field gz rfl (x:=rawInt c) rfl ?_);show wpAny _ _ (loadIfAlive (((c:Nat):Int).toNat) >>= _) _ _ _;rF wpAny_bind (alive (o:=oc) hc ?_);show wpAny _ _ (field (.ref z) 1 >>= _) _ _ _;rF wpAny_bind (wpAny_field gz rfl (x:=.bool f) rfl ?_);cases f with
 |true=>!wpAny_pure (hQ s.heap gz (Heap.SameBut.refl _ _))
 |false=>
  show wpAny _ _ (setField (.ref z) 1 (.bool true) >>= _) _ _ _;!wpAny_bind (wpAny_setField_rec gz (by simp) λha za sa=>wpAny_pure (hQ ha za sa))
tm y53{z I O i j a b c:Addr}{t u f:Bool}{k:Nat}{xs ys:Array Value}{x y:Value}{oc:Obj}{Q:Value->Shared->Prop}(D:Apart z I O i j a b)
  (gz:IsZp s.heap z I O c f)(hc:s.heap.get? c=some oc)(gI:IsPair s.heap I (.ref i) (.ref j))
  (g1:IsIt t i a k s.heap)(g2:IsIt u j b k s.heap)(l1:IsSq t a xs s.heap)(l2:IsSq u b ys s.heap)(hx:xs[k]?=some x)(hy:ys[k]?=some y)
  (hQ:∀h',IsZp h' z I O c true->IsIt t i a (k+1) h'->IsIt u j b (k+1) h'->IsPair h' s.heap.objs.size x y->h'.objs.size=s.heap.objs.size+1 ->
   (∀c o,c≠z->c≠i->c≠j->s.heap.get? c=some o->h'.get? c=some o)->Q (.ref s.heap.objs.size) {s with heap:=h'}):
  wpAny (model prog w) A (Builtin.«zip.__next__» ⟨[.ref z],[]⟩) (λfin s'=>∃v,fin=.done (.ret v)/\Q v s') E s:=by
 show wpAny _ _ (field (.ref z) 2 >>= _) _ _ _;rF wpAny_bind (wpAny_field gz rfl (x:=.bool false) rfl ?_);show wpAny _ _ (field (.ref z) 3 >>= _) _ _ _;rF wpAny_bind (wpAny_field gz rfl (x:=.ref I) rfl (wpAny_bind (wpAny_seqItems gI rfl ?_)));show wpAny _ _ (Builtin.SmallTypes.ownedTupleIsFree (.ref z) >>= _) _ _ _;rF wpAny_bind (x6l gz hc λha za sa=>?_)
 simp only[w3h,if_false];rF wpAny_bind ?_;simp only[<- w3g,w2j,w4f];rF wpAny_bind (wpAny_bind (wpAny_holding ?_));show wpAny _ _ (Builtin.SmallTypes.nextOf (.ref i) >>= _) _ _ _;rF wpAny_bind (q6l (s:={s with heap:=ha}) (g1.keep λo e=>sa.extBut _ _ D.iz e) (l1.keep λo e=>sa.extBut _ _ D.az e) hx λhb ib sb=>wpAny_pure (wpAny_pure (wpAny_bind (wpAny_bind (wpAny_holding ?_)))))
 show wpAny _ _ (Builtin.SmallTypes.nextOf (.ref j) >>= _) _ _ _;rF wpAny_bind (q6l (s:={s with heap:=hb}) (g2.keep λo e=>sb.extBut _ _ D.ij.symm (sa.extBut _ _ D.jz e)) (l2.keep λo e=>sb.extBut _ _ D.bi (sa.extBut _ _ D.bz e)) hy λhd jd sd=>wpAny_pure (wpAny_pure (wpAny_pure (wpAny_bind (wpAny_newTuple (wpAny_pure ⟨_,rfl,?_⟩) (by rw[sizeLine_eq];simp))))))
 #sz:hd.objs.size=s.heap.objs.size:=by rw[sd.1,sb.1,sa.1]
 #up:∀c o,c≠z->c≠i->c≠j->s.heap.get? c=some o->(hd.push {cls:=.type "tuple", data:=.seq #[x,y]}).get? c=some o:=λc o c1 c3 c4 e=>Heap.get?_push_of_some _ (sd.extBut _ _ c4 (sb.extBut _ _ c3 (sa.extBut _ _ c1 e)))
 show Q (.ref hd.objs.size) _;#tk:IsPair (hd.push {cls:=.type "tuple", data:=.seq #[x,y]}) hd.objs.size x y:=Heap.get?_push_size _ rfl;rw[sz]at tk |-
 !hQ _ (Heap.get?_push_of_some _ (sd.extBut _ _ D.jz.symm (sb.extBut _ _ D.iz.symm za))) (ib.keep λo e=>Heap.get?_push_of_some _ (sd.extBut _ _ D.ij e)) (jd.keep λo e=>Heap.get?_push_of_some _ e) tk (by rw[Heap.size_push,sz]) up
tm z03{z I O i j a b c:Addr}{t u f:Bool}{k:Nat}{xs ys:Array Value}{oc:Obj}{Q:Fin->Shared->Prop}(hh:A.handled=none)(D:Apart z I O i j a b)
  (gz:IsZp s.heap z I O c f)(hc:s.heap.get? c=some oc)(gI:IsPair s.heap I (.ref i) (.ref j))
  (g1:IsIt t i a k s.heap)(g2:IsIt u j b k s.heap)(l1:IsSq t a xs s.heap)(l2:IsSq u b ys s.heap)(hend:xs[k]?=none\/ys[k]?=none)
  (hE:∀h' e,(∀c o,c≠z->c≠i->c≠j->s.heap.get? c=some o->h'.get? c=some o)->(∃o,h'.get? e=some o/\o.cls=.type "StopIteration")->E (.ref e) {s with heap:=h'}):
  wpAny (model prog w) A (Builtin.«zip.__next__» ⟨[.ref z],[]⟩) Q E s:=by
 show wpAny _ _ (field (.ref z) 2 >>= _) _ _ _;rF wpAny_bind (wpAny_field gz rfl (x:=.bool false) rfl ?_);show wpAny _ _ (field (.ref z) 3 >>= _) _ _ _;rF wpAny_bind (wpAny_field gz rfl (x:=.ref I) rfl (wpAny_bind (wpAny_seqItems gI rfl ?_)));show wpAny _ _ (Builtin.SmallTypes.ownedTupleIsFree (.ref z) >>= _) _ _ _;rF wpAny_bind (x6l gz hc λha za sa=>?_)
 simp only[w3h,if_false];rF wpAny_bind ?_;simp only[<- w3g,w2j,w4f];rF wpAny_bind (wpAny_bind (wpAny_holding ?_));show wpAny _ _ (Builtin.SmallTypes.nextOf (.ref i) >>= _) _ _ _;cases hx:xs[k]? with
 |none=>!wpAny_bind (x2c (s:={s with heap:=ha}) hh (g1.keep λo e=>sa.extBut _ _ D.iz e) (l1.keep λo e=>sa.extBut _ _ D.az e) hx λhb e sb ge=>hE hb e (λc o c1 c3 _ x=>sb _ _ c3 (sa.extBut _ _ c1 x)) ge)
 |some x=>
  #hy:ys[k]?=none:=by rcases hend with h|h;rw[hx]at h;@h;!h
  rF wpAny_bind (q6l (s:={s with heap:=ha}) (g1.keep λo e=>sa.extBut _ _ D.iz e) (l1.keep λo e=>sa.extBut _ _ D.az e) hx λhb ib sb=>wpAny_pure (wpAny_pure (wpAny_bind (wpAny_bind (wpAny_holding ?_)))))
  show wpAny _ _ (Builtin.SmallTypes.nextOf (.ref j) >>= _) _ _ _;!wpAny_bind (x2c (s:={s with heap:=hb}) hh (g2.keep λo e=>sb.extBut _ _ D.ij.symm (sa.extBut _ _ D.jz e)) (l2.keep λo e=>sb.extBut _ _ D.bi (sa.extBut _ _ D.bz e)) hy λhd e sd ge=>hE hd e (λc o c1 c3 c4 x=>sd _ _ c4 (sb.extBut _ _ c3 (sa.extBut _ _ c1 x))) ge)
nD ZSt(h:Heap)(z I O i j a b:Addr)(t u:Bool)(k:Nat)(cs:List Addr):Prop:=
 IsPair h I (.ref i) (.ref j)/\IsIt t i a k h/\IsIt u j b k h/\match cs with
  |[]=>IsZip h z I O .none/\∃p q,IsPair h O p q
  |c::_=>∃f,IsZp h z I O c f
tm z04{z I O i j a b:Addr}{t u:Bool}{k:Nat}{cs:List Addr}{xs ys:Array Value}{x y:Value}{Q:Option Value->Shared->Prop}(D:Apart z I O i j a b)(st:ZSt s.heap z I O i j a b t u k cs)(hcs:∀c∈cs,∃o,s.heap.get? c=some o)
  (l1:IsSq t a xs s.heap)(l2:IsSq u b ys s.heap)(hx:xs[k]?=some x)(hy:ys[k]?=some y)
  (hQ:∀h',ZSt h' z I O i j a b t u (k+1) (cs++[s.heap.objs.size])->IsPair h' s.heap.objs.size x y->h'.objs.size=s.heap.objs.size+1 ->
   (∀c o,c≠z->c≠O->c≠i->c≠j->s.heap.get? c=some o->h'.get? c=some o)->Q (some (.ref s.heap.objs.size)) {s with heap:=h'}):wpAny (model prog w) A (pyNext (.ref z)) Q E s:=by
 ~⟨gI,g1,g2,st⟩:=st;cases cs with
 |nil=>
  ~⟨gz,p,q,gO⟩:=st;!x8g D gz gI gO g1 g2 l1 l2 hx hy λh' a1 a2 a3 a4 a5 a6 a7=>hQ h' ⟨a7 _ _ D.Iz D.IO D.Ii D.Ij gI,a3,a4,false,a1⟩ a5 a6 a7
 |cons c cs=>
  ~⟨f,gz⟩:=st;~⟨oc,hc⟩:=hcs c w0i;#hT:s.TypeIs (.ref z) "zip":=⟨_,gz,rfl⟩;unfold pyNext;!wpAny_bind (wpAny_attempt (wpAny_callSpecial?_slot (name:=Str.ofString "__next__") hT F.slot_zip_next (wpAny_call_entry F.slot_zip_next hT F.entry_zip_next (y53 D gz hc gI g1 g2 l1 l2 hx hy λh' a1 a3 a4 a5 a6 a7=>wpAny_pure (hQ h' ⟨a7 _ _ D.Iz D.Ii D.Ij gI,a3,a4,true,a1⟩ a5 a6 λc o c1 _ c3 c4 e=>a7 c o c1 c3 c4 e)) (F.args_zip_next_1 _))))
tm z05{z I O i j a b:Addr}{t u:Bool}{k:Nat}{cs:List Addr}{xs ys:Array Value}{Q:Option Value->Shared->Prop}(hh:A.handled=none)(D:Apart z I O i j a b)(st:ZSt s.heap z I O i j a b t u k cs)(hcs:∀c∈cs,∃o,s.heap.get? c=some o)
  (l1:IsSq t a xs s.heap)(l2:IsSq u b ys s.heap)(hend:xs[k]?=none\/ys[k]?=none)
  (hQ:∀h',(∀c o,c≠z->c≠O->c≠i->c≠j->s.heap.get? c=some o->h'.get? c=some o)->Q none {s with heap:=h'}):wpAny (model prog w) A (pyNext (.ref z)) Q E s:=by
 ~⟨gI,g1,g2,st⟩:=st;cases cs with
 |nil=>
  ~⟨gz,p,q,gO⟩:=st;!x8h hh D gz gI gO g1 g2 l1 l2 hend hQ
 |cons c cs=>
  ~⟨f,gz⟩:=st;~⟨oc,hc⟩:=hcs c w0i;#hT:s.TypeIs (.ref z) "zip":=⟨_,gz,rfl⟩;unfold pyNext;rF wpAny_bind (wpAny_attempt (wpAny_callSpecial?_slot (name:=Str.ofString "__next__") hT F.slot_zip_next (wpAny_call_entry F.slot_zip_next hT F.entry_zip_next (z03 hh D gz hc gI g1 g2 l1 l2 hend λh' e hk he=>?_) (F.args_zip_next_1 _))))
  ~⟨o,ho,hc⟩:=he;!wpAny_bind (wpAny_isInstance (T:="StopIteration") (b:=true) ⟨o,ho,hc⟩ isSubtype_stop (wpAny_pure (hQ _ λc o c1 _ c3 c4 e=>hk c o c1 c3 c4 e)))
nD PairsAt(h:Heap)(cs:List Addr)(ps:List (Value×Value)):Prop:=cs.length=ps.length/\∀(k:Nat)(c:Addr)(p:Value×Value),cs[k]?=some c->ps[k]?=some p->IsPair h c p.1 p.2
tm PairsAt.keep{h h':Heap}{cs:List Addr}{ps:List (Value×Value)}(pa:PairsAt h cs ps)(e:∀c∈cs,∀o,h.get? c=some o->h'.get? c=some o):PairsAt h' cs ps:=⟨pa.1,λk c p h1 h2=>e c (w1m h1) _ (pa.2 k c p h1 h2)⟩
tm PairsAt.there{h:Heap}{cs:List Addr}{ps:List (Value×Value)}(pa:PairsAt h cs ps):∀c∈cs,∃o,h.get? c=some o:=λc hc=>by
 ~⟨q,hq,e⟩:=w3x hc;!⟨_,pa.2 q c (ps[q]'(by rw[<- pa.1];!hq)) (by rw[w0a hq,e]) (w0a _)⟩
tm PairsAt.snoc{h:Heap}{cs:List Addr}{ps:List (Value×Value)}{c:Addr}{p:Value×Value}(pa:PairsAt h cs ps)(e:IsPair h c p.1 p.2):PairsAt h (cs++[c]) (ps++[p]):=by
 rF⟨by simp[pa.1],λk c' p' h1 h2=>?_⟩
 by_cases hk:k<cs.length
 ·rw[w1u hk]at h1;rw[w1u (by rw[<- pa.1];!hk)]at h2;!pa.2 k c' p' h1 h2
 ·rw[w1d oM]at h1;rw[w1d (by rw[<- pa.1];omega)]at h2;rw[<- pa.1]at h2;cases hq:k-cs.length with
  |zero=>rw[hq]at h1 h2;@h1;@h2;!e
  |succ q=>rw[hq]at h1;simp at h1
tm z06{z I O i j a b S:Addr}{t u:Bool}{xs ys:Array Value}{R:Result->Shared->Prop}{res:Value}(hh:A.handled=none)(D:Apart z I O i j a b)(hS:S∉[z,O,i,j,a,b,I])(hn:(xs.toList.zip ys.toList).length<=sizeLine):
  ∀(m k:Nat)(s:Shared)(cs:List Addr)(n:Nat),(xs.toList.zip ys.toList).length-k=m->k<=(xs.toList.zip ys.toList).length->ZSt s.heap z I O i j a b t u k cs->PairsAt s.heap cs ((xs.toList.zip ys.toList).take k)->(∀c∈cs,c∉[z,O,i,j,S])->(∀d∈[z,O,i,j,S],d<s.heap.objs.size)->IsSq t a xs s.heap->IsSq u b ys s.heap ->
  s.heap.get? S=some {cls:=.type "list", dict:=none,data:=.seq (cs.map Value.ref).toArray n,slots:=#[]} ->
  (∀h' cs' n',(∃tl,cs'=cs++tl/\(∀c∈tl,s.heap.objs.size<=c)/\tl.Nodup)->PairsAt h' cs' (xs.toList.zip ys.toList)->h'.get? S=some {cls:=.type "list", dict:=none,data:=.seq (cs'.map Value.ref).toArray n',slots:=#[]} ->
   (∀c o,c∉[z,O,i,j,S]->s.heap.get? c=some o->h'.get? c=some o)->R (.ok (.ret res)) {s with heap:=h'}) ->
  codeAny (model prog w) A (.builtin "list.extend.loop" ⟨[.ref S,.ref z,res],[]⟩) R s:=by
 simp only[w0d,w0h,or_false,not_or]at hS;~⟨Sz,SO,Si,Sj,Sa,Sb,SI⟩:=hS;#no:∀c,c∉[z,O,i,j,S]↔c≠z/\c≠O/\c≠i/\c≠j/\c≠S:=λc=>by simp only[w0d,w0h,or_false,not_or]
 intro m
 induction m with
 |zero=>
  intro k s cs n hk hle st pa hcS hlt l1 l2 hSs hR;#ek:k=(xs.toList.zip ys.toList).length:=by omega
  rF codeAny_builtin F.entry_extend_loop ?_;rw[Around.under_plainId F.plain_extend_loop _];show wpAny _ A.in1 (pyNext (.ref z) >>= _) _ _ s;rF wpAny_bind (z05 hh D st pa.there l1 l2 ?_ λh' kp=>?_)
  ·rw[w2v]at ek;rcases Nat.le_total xs.toList.length ys.toList.length with h|h
   ·left;rw[w2m h]at ek;simp at ek |-;omega
   ·right;rw[Nat.min_eq_right h]at ek;simp at ek |-;omega
  ·rw[ek,w2g]at pa;rF wpAny_pure (hR h' cs n ⟨[],by simp,(λc hc=>nomatch hc),.nil⟩ (pa.keep λc hc o e=>?_) (kp S _ Sz SO Si Sj hSs) λc o hc e=>?_)
   ·~⟨c1,c2,c3,c4,_⟩:=(no c).mp (hcS c hc);!kp c o c1 c2 c3 c4 e
   ·~⟨c1,c2,c3,c4,_⟩:=(no c).mp hc;!kp c o c1 c2 c3 c4 e
 |succ m ih=>
  intro k s cs n hk hle st pa hcS hlt l1 l2 hSs hR;#hlk:k<(xs.toList.zip ys.toList).length:=by omega
  #hlk2:=hlk;rw[w2v]at hlk2;#kx:k<xs.size:=by simp at hlk2;omega
  #ky:k<ys.size:=by simp at hlk2;omega
  rF codeAny_builtin F.entry_extend_loop ?_;rw[Around.under_plainId F.plain_extend_loop _];show wpAny _ A.in1 (pyNext (.ref z) >>= _) _ _ s;rF wpAny_bind (z04 D st pa.there l1 l2 (w4g kx) (w4g ky) λh' st' pr sz kp=>?_)
  #hSs':=kp S _ Sz SO Si Sj hSs;#hcl:cs.length=k:=by rw[pa.1,w4p];omega
  show wpAny _ A.in1 (updateSeq S (·.push (.ref s.heap.objs.size)) >>= _) _ _ _;rF wpAny_bind ?_;#hl5:∀d∈[z,O,i,j,S],d≠s.heap.objs.size:=λd hd=>w0w (hlt d hd)
  obtain⟨n2,en⟩:∃n2,Obj.mapSeq (·.push (.ref s.heap.objs.size)) {cls:=.type "list", dict:=none,data:=.seq (cs.map Value.ref).toArray n,slots:=#[]}={cls:=.type "list", dict:=none,data:=.seq ((cs++[s.heap.objs.size]).map Value.ref).toArray n2,slots:=#[]}:=⟨_,by rw[w0n];unfold Obj.mapSeq;simp only[List.push_toArray];rfl⟩;#up:∀c o,c≠S->h'.get? c=some o->(h'.update S (Obj.mapSeq (·.push (.ref s.heap.objs.size)))).get? c=some o:=λc o hc e=>(Heap.get?_update_other _ _ (Ne.symm hc)).trans e
  #hcS':∀c∈cs++[s.heap.objs.size],c∉[z,O,i,j,S]:=λc hc=>by
   rcases w1c.mp hc with hc|hc
   ·!hcS c hc
   ·rw[w1k.mp hc];!λz=>hl5 _ z rfl
  #szu:(h'.update S (Obj.mapSeq (·.push (.ref s.heap.objs.size)))).objs.size=s.heap.objs.size+1:=by rw[Heap.size_update];!sz
  rF wpAny_updateSeq hSs' rfl (wpAny_pure ⟨plainId_quiet F.plain_extend_loop _,ih (k+1) _ (cs++[s.heap.objs.size]) n2 oM hlk ?_ ?_ hcS' ?_ ?_ ?_ ((Heap.get?_update_self _ hSs' rfl).trans (by rw[en])) λh'' cs' n' hcs' pa' hS'' kp'=>?_⟩)
   (by simp;omega) (by simp;omega)
  ·~⟨q1,q2,q3,q4⟩:=st';rF⟨up _ _ (Ne.symm SI) q1,q2.keep λo e=>up _ _ (Ne.symm Si) e,q3.keep λo e=>up _ _ (Ne.symm Sj) e,?_⟩
   cases cs with
   |nil=>~⟨f,q4⟩:=q4;!⟨f,up _ _ (Ne.symm Sz) q4⟩
   |cons c cs=>~⟨f,q4⟩:=q4;!⟨f,up _ _ (Ne.symm Sz) q4⟩
  ·#:(xs.toList.zip ys.toList).take (k+1)=(xs.toList.zip ys.toList).take k++[(xs[k],ys[k])]:=by
    rw[w2x,w0a hlk];simp
   rw[this];rF((pa.keep λc hc o e=>?_).snoc pr).keep λc hc o e=>?_
   ·~⟨c1,c2,c3,c4,_⟩:=(no c).mp (hcS c hc);!kp c o c1 c2 c3 c4 e
   ·!up c o ((no c).mp (hcS' c hc)).2.2.2.2 e
  ·intro d hd;show d<(h'.update S _).objs.size;rw[szu];!w1q (hlt d hd)
  ·!l1.keep λo e=>up _ _ (Ne.symm Sa) (kp _ _ D.az D.aO D.ai D.aj e)
  ·!l2.keep λo e=>up _ _ (Ne.symm Sb) (kp _ _ D.bz D.bO D.bi D.bj e)
  ·~⟨tl,rfl,htl,hnd⟩:=hcs'
   #htl:∀c∈tl,s.heap.objs.size+1<=c:=λc hc=>by
    #this:(h'.update S (Obj.mapSeq (·.push (.ref s.heap.objs.size)))).objs.size<=c:=htl c hc;rw[szu]at this;!this
   rF hR h'' _ n' ⟨s.heap.objs.size::tl,by simp,λc hc=>?_,w1v.mpr ⟨λhm=>?_,hnd⟩⟩ pa' hS'' λc o hc e=>?_
   ·rcases w0d.mp hc with rfl|hc
    ·!w0b _
    ·!Nat.le_of_succ_le (htl c hc)
   ·!absurd (htl _ hm) (Nat.not_succ_le_self _)
   ·~⟨c1,c2,c3,c4,c5⟩:=(no c).mp hc;!kp' c o hc (up c o c5 (kp c o c1 c2 c3 c4 e))
tm y54:typeLookup (.type "zip") "__len__"=pure none:=by rw[typeLookup_type,builtinLookup_eq_fast];kernel_rfl
tm y2q:typeLookup (.type "zip") "__length_hint__"=pure none:=by rw[typeLookup_type,builtinLookup_eq_fast];kernel_rfl
tm x7n{z I O i j a b:Addr}{t u:Bool}{xs ys:Array Value}{Q:List Value->Shared->Prop}(hh:A.handled=none)(D:Apart z I O i j a b)(gz:IsZip s.heap z I O .none)(gO:∃p q,IsPair s.heap O p q)(gI:IsPair s.heap I (.ref i) (.ref j))(g1:IsIt t i a 0 s.heap)(g2:IsIt u j b 0 s.heap)(l1:IsSq t a xs s.heap)(l2:IsSq u b ys s.heap)(hn:(xs.toList.zip ys.toList).length<=sizeLine)(hlt:∀d∈[z,O,i,j,a,b,I],d<s.heap.objs.size)
  (hQ:∀h' cs,(∀c∈cs,s.heap.objs.size<=c)->cs.Nodup->PairsAt h' cs (xs.toList.zip ys.toList)->(∀c o,c∉[z,O,i,j]->s.heap.get? c=some o->h'.get? c=some o)->Q (cs.map Value.ref) {s with heap:=h'}):wpAny (model prog w) A (collect (.ref z)) Q E s:=by
 #hSf:s.heap.objs.size∉[z,O,i,j,a,b,I]:=λhm=>w2n _ (hlt _ hm)
 #hSI:s.heap.objs.size≠z:=λe=>hSf (by rw[e];simp)
 #hT:∀h',(∀c o,s.heap.get? c=some o->h'.get? c=some o)->Shared.TypeIs {s with heap:=h'} (.ref z) "zip":=λh' up=>⟨_,up _ _ gz,rfl⟩
 #up1:∀c o,s.heap.get? c=some o->(s.heap.push {cls:=.type "list", data:=.seq ([]:List Value).toArray}).get? c=some o:=λc o e=>Heap.get?_push_of_some _ e
 unfold collect;rF wpAny_bind (wpAny_runValue (codeAny_builtin F.entry_proto_collect ?_));rw[Around.under_plainId F.plain_proto_collect _];show wpAny _ A.in1 (newList [] >>= λl=>again (.builtin "list.__iadd__" ⟨[l,.ref z],[]⟩)) _ _ s
 rF wpAny_bind (wpAny_newObj_type ?_);rF wpAny_pure ⟨plainId_quiet F.plain_list_iadd _,codeAny_builtin F.entry_list_iadd ?_⟩;rw[Around.under_plainId F.plain_list_iadd _];#hS1:(s.heap.push {cls:=.type "list", data:=.seq ([]:List Value).toArray}).get? s.heap.objs.size=some {cls:=.type "list", data:=.seq ([]:List Value).toArray}:=Heap.get?_push_size _ rfl;#h1:Builtin.List.listSameRef (.ref s.heap.objs.size) (.ref z)=false:=by simp[Builtin.List.listSameRef,hSI]
 show wpAny _ A.in1 (Builtin.List.listExtendWith (.ref s.heap.objs.size) (.ref z) (.ref s.heap.objs.size)) _ _ _;unfold Builtin.List.listExtendWith;rF wpAny_bind (wpAny_typeOf (hT _ up1) ?_);rw[if_neg (by rw[h1];decide)];rF wpAny_bind (wpAny_pyIter_zip (up1 _ _ gz) ?_);rF wpAny_bind (wpAny_holding ?_);unfold Builtin.List.listLengthHint;rF wpAny_bind (wpAny_specialOf (hT _ up1) y54 ?_);show wpAny _ A.in1 (specialOf (Value.ref z) (Str.ofString "__length_hint__") >>= _) _ _ _;rF wpAny_bind (wpAny_specialOf (hT _ up1) y2q ?_);rF wpAny_pure ?_
 show wpAny _ A.in1 (rule "list.extend.makes-room" >>= λ_=>Builtin.List.listTouch (.ref s.heap.objs.size) >>= λ_=>
  again (.builtin "list.extend.loop" ⟨[.ref s.heap.objs.size,.ref z,.ref s.heap.objs.size],[]⟩)) _ _ _
 rF wpAny_bind (wpAny_rule (wpAny_bind ?_));show wpAny _ A.in1 (updateSeq s.heap.objs.size (·.push .none) >>= λ_=>updateSeq s.heap.objs.size (·.pop)) _ _ _
 rF wpAny_bind (wpAny_updateSeq hS1 rfl ?_);#hS2:=Heap.get?_update_self (Obj.mapSeq (·.push Value.none)) hS1 rfl;rF wpAny_updateSeq hS2 rfl ?_;#hS3:=Heap.get?_update_self (Obj.mapSeq (·.pop)) hS2 rfl
 #oth:∀b o,s.heap.get? b=some o->(((s.heap.push {cls:=.type "list", data:=.seq ([]:List Value).toArray}).update s.heap.objs.size (Obj.mapSeq (·.push Value.none))).update s.heap.objs.size (Obj.mapSeq (·.pop))).get? b=some o:=
  λb o e=>(Heap.get?_update_other _ _ (w2t (Heap.lt_size e))).trans ((Heap.get?_update_other _ _ (w2t (Heap.lt_size e))).trans (up1 b o e))
 #sz3:(((s.heap.push {cls:=.type "list", data:=.seq ([]:List Value).toArray}).update s.heap.objs.size (Obj.mapSeq (·.push Value.none))).update s.heap.objs.size (Obj.mapSeq (·.pop))).objs.size=s.heap.objs.size+1:=by rw[Heap.size_update,Heap.size_update,Heap.size_push]
 rF wpAny_pure ⟨plainId_quiet F.plain_extend_loop _,z06 hh D hSf hn _ 0 _ [] _ rfl (w1g _) ⟨oth _ _ gI,g1.keep λo e=>oth _ _ e,g2.keep λo e=>oth _ _ e,oth _ _ gz,?_⟩ ⟨rfl,λ_ _ _ h=>nomatch h⟩ (λ_ h=>nomatch h) (λd hd=>?_) (l1.keep λo e=>oth _ _ e) (l2.keep λo e=>oth _ _ e) hS3 λh' cs n' hcs pa hS' kp=>?_⟩
 ·~⟨p,q,gO⟩:=gO;!⟨p,q,oth _ _ gO⟩
 ·show d<_;rw[sz3];simp only[w0d,w0h,or_false]at hd;rcases hd with rfl|rfl|rfl|rfl|rfl
  ·!w1q (hlt _ (by simp))
  ·!w1q (hlt _ (by simp))
  ·!w1q (hlt _ (by simp))
  ·!w1q (hlt _ (by simp))
  ·!Nat.lt_succ_self _
 ·~⟨tl,rfl,htl,hnd⟩:=hcs;show wpAny _ A (load s.heap.objs.size >>= _) _ _ _;rF wpAny_bind (wpAny_load hS' (wpAny_pure ?_));rF hQ h' _ (λc hc=>?_) hnd pa λc o hc e=>kp c o (λhm=>?_) (oth c o e)
  ·#:=htl c hc;#this:(((s.heap.push {cls:=.type "list", data:=.seq ([]:List Value).toArray}).update s.heap.objs.size (Obj.mapSeq (·.push Value.none))).update s.heap.objs.size (Obj.mapSeq (·.pop))).objs.size<=c:=this;rw[sz3]at this;omega
  ·simp only[w0d,w0h,or_false]at hm hc;rcases hm with h|h|h|h|h
   ·!hc (.inl h)
   ·!hc (.inr (.inl h))
   ·!hc (.inr (.inr (.inl h)))
   ·!hc (.inr (.inr (.inr h)))
   ·!absurd (Heap.lt_size e) (by rw[h];!w2n _)
tm x4w(z I O i j a b:Addr)(t u:Bool)(xs ys:Array Value)(D:Apart z I O i j a b)(hn:(xs.toList.zip ys.toList).length<=sizeLine):
  Meets (Builtin.«tuple.__new__» ⟨[.type "tuple", .ref z],[]⟩)
   (λA R s=>A.handled=none/\IsZip s.heap z I O .none/\(∃p q,IsPair s.heap O p q)/\IsPair s.heap I (.ref i) (.ref j)/\IsIt t i a 0 s.heap/\IsIt u j b 0 s.heap/\IsSq t a xs s.heap/\IsSq u b ys s.heap/\(∀d∈[z,O,i,j,a,b,I],d<s.heap.objs.size) /\
    ∀h' cs,(∀c∈cs,s.heap.objs.size<=c)->cs.Nodup->PairsAt h' cs (xs.toList.zip ys.toList)->(∀c o,c∉[z,O,i,j]->s.heap.get? c=some o->h'.get? c=some o) ->
    R (.ok (.ret (.ref h'.objs.size))) {s with heap:=h'.push {cls:=.type "tuple", data:=.seq (cs.map Value.ref).toArray}}):=
 .of_wp λprog w A R s h=>by
  ~⟨hh,gz,gO,gI,g1,g2,l1,l2,hlt,h⟩:=h;#hsub:=sub_tuple_self;#hinit:=init_tuple_lookup;#hmh:=madeHere_tuple;#hT:s.TypeIs (.ref z) "zip":=⟨_,gz,rfl⟩;#hh1:A.in1.handled=none:=hh
  wp_walk using wpAny_typeOf hT,x7n hh1 D gz gO gI g1 g2 l1 l2 hn hlt
  intro h' cs hc hnd pa kp;show wpAny _ _ (Builtin.Tuple.tupleExact (cs.map Value.ref).toArray >>= λv=>ret v) _ _ _
  unfold Builtin.Tuple.tupleExact;rF wpAny_bind (wpAny_newObj_type ?_ (show(cs.map Value.ref).toArray.size<=sizeLine by rw[w2k,w0j,pa.1];!hn));!wpAny_pure ⟨_,rfl,h h' cs hc hnd pa kp⟩
end
end D
namespace L2
open PySem PySem.Spec PyProof.Rows
tm Inv.adopt{X:Cx}{pins:List (Addr×Obj)}{σ:St}{H:Hp}{s:Shared}{p:Addr}{o:HO}(I:Inv X pins σ H s)(f:FpOk X pins H p)(new:ObjOk X.prog X.w (upd H p o) s.heap p o):Inv X pins σ (upd H p o) s:=by
 ~⟨hn,hl,hf,h0,hc,hpn⟩:=f;rF⟨I.ok,I.os,I.bare,⟨I.base.keep,I.base.slot,λb u h1 h2 h3=>?_,I.base.there,λb xs h1=>?_,λb u v h1=>?_,λb ps h1=>?_⟩,I.loc,I.cell,?_,λx c h1=>?_,λq hq=>?_,λb u h1=>?_,I.len⟩
 ·rw[q0g (λz=>?_)]
  ·!I.base.free b u h1 h2 h3
  ·subst z;!h0.elim h3 λz=>absurd (w0s (Heap.lt_size h1) z) (w2n _)
 ·#:=I.base.tups b xs h1;rw[q0g (q0p this hn)];!this
 ·#:=I.base.frzs b u v h1;rw[q0g (q0p this hn)];!this
 ·~⟨m,this⟩:=I.base.tbls b ps h1;!⟨m,by rw[q0g (q0p this hn)];!this⟩
 ·rw[q0g (Ne.symm hl)];!I.free
 ·rw[q0g (hc x c h1)];!I.freeC x c h1
 ·~⟨a1,a2,a3,a4,a5⟩:=I.pin q hq;!⟨a1,by rw[q0g (hpn q hq)];!a2,a3,a4,a5⟩
 ·by_cases hb:b=p
  ·subst hb;rw[q0k]at h1;@h1;!new
  ·rw[q0g hb]at h1;!(I.hok b u h1).stay (λc v _ q=>q) (λc q=>by rw[q0g (q0p q hn)];!q) λc xs _ q=>by rw[q0g (q0p q hn)];!q
end L2
namespace D
open PySem PySem.Spec L2 PyProof.Rows
nD layP(H:Hp):List Addr->List (V×V)->Hp
 |c::cs,p::ps=>layP (upd H c (.tup [p.1,p.2])) cs ps
 |_,_=>H
tm x6m{X:Cx}{pins:List (Addr×Obj)}{σ:L2.St}{s:Shared}:∀{cs:List Addr}{ps:List (V×V)}{qs:List (Value×Value)}{H:Hp},Inv X pins σ H s->(∀c∈cs,FpOk X pins H c)->cs.Nodup->PairsAt s.heap cs qs->ps.length=qs.length->(∀(k:Nat)(p:V×V)(q:Value×Value),ps[k]?=some p->qs[k]?=some q->RelV p.1 q.1/\RelV p.2 q.2)->Inv X pins σ (layP H cs ps) s
 |[],_,_,_,I,_,_,_,_,_=>I
 |_::_,[],_,_,I,_,_,_,_,_=>I
 |_::_,_::_,[],_,_,_,_,_,h,_=>by @h
 |c::cs,p::ps,q::qs,H,I,hf,hn,hp,hl,hr=>by
  #hc:=hp.2 0 c q rfl rfl;~⟨r1,r2⟩:=hr 0 p q rfl rfl;~⟨n1,n2⟩:=w1v.mp hn;#I2:Inv X pins σ (upd H c (.tup [p.1,p.2])) s:=I.adopt (hf c w0i) ⟨by rw[sizeLine_eq];simp,[q.1,q.2],.cons r1 (.cons r2 .nil),⟨_,hc,rfl,_,rfl⟩,⟨_,hc,rfl⟩⟩;show L2.Inv X pins σ (layP (upd H c (.tup [p.1,p.2])) cs ps) s;rF x6m (qs:=qs) I2 (λd hd=>?_) n2 ⟨by #:=hp.1;simpa using this,λk c' p' h1 h2=>hp.2 (k+1) c' p' h1 h2⟩ (by simpa using hl) λk p' q' h1 h2=>hr (k+1) p' q' h1 h2
  ~⟨f1,f2⟩:=hf d (w0e _ hd);!⟨by rw[q0g (λz=>n1 (by rw[<- z];!hd))];!f1,f2⟩
nD tTupZip(K:PySem.W.Frag)(ta:TA):TE:=λσ H Q=>ta σ H λvs H1=>∃t u a b xs ys,vs=[.ref a,.ref b]/\SqG K t H1 a xs/\SqG K u H1 b ys/\(xs.zip ys).length<=sizeLine/\∀cs l,cs.length=(xs.zip ys).length->cs.Nodup->(∀c∈cs,H1 c=none)->layP H1 cs (xs.zip ys) l=none->Q (.ref l) (upd (layP H1 cs (xs.zip ys)) l (.tup (cs.map V.ref)))
tm x4d:∀cs:List Addr,Vals (cs.map V.ref) (cs.map Value.ref)
 |[]=>.nil
 |_::cs=>.cons rfl (x4d cs)
tm Vals.rel{xs:List V}{us:List Value}(h:Vals xs us){k:Nat}{x:V}{u:Value}(h1:xs[k]?=some x)(h2:us[k]?=some u):RelV x u:=by
 ~⟨v,hv,r⟩:=h.get h1;rw[h2]at hv;@hv;!r
tm y2r{X:Cx}{a1 a2:Expr}{ta:TA}{p1 p2 pos1 pos2:Pos}(hc:X.calm=true)(hm1:X.mg "tuple"=none)(hm2:X.mg "zip"=none)(ha:PA X [a1,a2] ta)(hg1:Gl X "tuple":=by rfl)(hg2:Gl X "zip":=by rfl)
  (hs1:starEach [.Call (.Name "zip" p2) [a1,a2] [] pos2] X.env=(false,eval (.Call (.Name "zip" p2) [a1,a2] [] pos2) X.env)::starEach [] X.env:=by rfl)(hs:starEach [a1,a2] X.env=[(false,eval a1 X.env),(false,eval a2 X.env)]:=by rfl)(hs2:starEach [a2] X.env=[(false,eval a2 X.env)]:=by rfl):
  PE X (.Call (.Name "tuple" p1) [.Call (.Name "zip" p2) [a1,a2] [] pos2] [] pos1) (tTupZip X.K ta):=by
 intro pins s σ H Q I h;rF wpAny_Call_Name_kw (q30 I hg1 hm1 PyProof.Rows.Boot.«tuple» ?_ (by decide));rF PyProof.Rows.callWith_type1 ?_ hs1 rfl;rw[hs1];show wpAny _ _ (spliced ((false,eval (.Call (.Name "zip" p2) [a1,a2] [] pos2) X.env)::backTo pos1 (starEach [] X.env))) _ _ s;rF Calls.spliced_cons ?_;rF PyProof.Rows.Call_ (q30 I hg2 hm2 PyProof.Rows.boot_zip (PyProof.Rows.callWith_type1 (thn (ha pos2 pins s σ H _ I h) λus s1 ⟨vs,H1,I1,r1,q1⟩=>?_) (by rw[hs,hs2]) (by rw[hs2];rfl)))
 ~⟨t,u,a,b,xs,ys,e,hx,hy,hz,q⟩:=q1;subst e;~⟨u1,u2,rfl,r1,r2⟩:=r1.two;@r1;@r2;~⟨is1,v1,k1⟩:=q5y I1 hx;~⟨is2,v2,k2⟩:=q5y I1 hy;~⟨oa,ea,_⟩:=k1.obj;~⟨ob,eb,_⟩:=k2.obj;#la:=Heap.lt_size ea;#lb:=Heap.lt_size eb;rF x39 k1 k2 λh1 z1 i1 o1 g1 g2 up=>?_
 rF Calls.spliced_nil ?_
 #D:Apart (s1.heap.objs.size+4) (s1.heap.objs.size+2) (s1.heap.objs.size+3) s1.heap.objs.size (s1.heap.objs.size+1) a b:=by
  #la':(a:Nat)<s1.heap.objs.size:=la;#lb':(b:Nat)<s1.heap.objs.size:=lb;generalize s1.heap.objs.size=n at la' lb';!x4a n a b la' lb'
 #hh:X.A.handled=none:=I1.ok.hd hc;#hsz:(is1.toArray.toList.zip is2.toArray.toList).length=(xs.zip ys).length:=by simp[<- v1.length,<- v2.length]
 #zlt:=Heap.lt_size z1
 rF callType_new F.called_tuple (by decide) (F.typeCall_tuple_1 _) (F.newCall_tuple_1 _) (λobj=>F.args_object_init_2 obj _) F.entry_tuple_new
  (x4w _ _ _ _ _ a b t u is1.toArray is2.toArray D (by rw[hsz];!hz)) ⟨hh,z1,⟨_,_,o1⟩,i1,g1,g2,k1.keep λo e=>up _ _ e,k2.keep λo e=>up _ _ e,λd hd=>?_,λh' cs hcs hnd pa kp=>⟨⟨_,Heap.get?_push_size _ rfl,rfl⟩,?_⟩⟩
 ·show d<h1.objs.size;#z4:(s1.heap.objs.size+4:Nat)<h1.objs.size:=zlt;#la':(a:Nat)<s1.heap.objs.size:=la;#lb':(b:Nat)<s1.heap.objs.size:=lb;simp only[w0d,w0h,or_false]at hd;rcases hd with rfl|rfl|rfl|rfl|rfl|rfl|rfl
  ·!z4
  ·show(s1.heap.objs.size+3:Nat)<_;omega
  ·show(s1.heap.objs.size:Nat)<_;omega
  ·show(s1.heap.objs.size+1:Nat)<_;omega
  ·!w5n la (by show(s1.heap.objs.size:Nat)<h1.objs.size;omega)
  ·!w5n lb (by show(s1.heap.objs.size:Nat)<h1.objs.size;omega)
  ·show(s1.heap.objs.size+2:Nat)<_;omega
 ·#hcs':∀c∈cs,s1.heap.objs.size<=c:=λc hc=>by
   #h2:h1.objs.size<=c:=hcs c hc;#z4:(s1.heap.objs.size+4:Nat)<h1.objs.size:=zlt;show(s1.heap.objs.size:Nat)<=c;!w0v oM h2
  #fr:∀c∈cs,H1 c=none:=λc hc=>I1.hok.fresh (hcs' c hc)
  #I2:Inv X pins σ H1 {s1 with heap:=h',toks:=s1.toks}:=x0x (fp:=[s1.heap.objs.size+4,s1.heap.objs.size+3,s1.heap.objs.size,s1.heap.objs.size+1]) I1 (λc o hc e=>kp c o hc (up c o e)) λc hc=>by
   simp only[w0d,w0h,or_false]at hc;rcases hc with rfl|rfl|rfl|rfl<;>!I1.fpOk oM (I1.hok.fresh oM)
  #I3:Inv X pins σ (layP H1 cs (xs.zip ys)) {s1 with heap:=h',toks:=s1.toks}:=x6m I2 (λc hc=>I1.fpOk (hcs' c hc) (fr c hc)) hnd pa hsz.symm λk p q e1 e2=>by
   ~⟨f1,f2⟩:=w2h.mp e1;~⟨f3,f4⟩:=w2h.mp e2;!⟨Vals.rel v1 f1 (by simpa using f3),Vals.rel v2 f2 (by simpa using f4)⟩
  #hfr:=I3.hok.fresh (w0b h'.objs.size);#lc:cs.length=(xs.zip ys).length:=by rw[pa.1,hsz]
  #I4:=I3.laid (h':=h'.push {cls:=.type "tuple", data:=.seq (cs.map Value.ref).toArray}) (t':=s1.toks) (a:=h'.objs.size) (o:=.tup (cs.map V.ref)) (λb o e=>Heap.get?_push_of_some _ e) (w0b _) ⟨by rw[w0j,lc];!hz,cs.map Value.ref,x4d cs,IsTup.new _ _,_,Heap.get?_push_size _ rfl,rfl⟩
  !⟨.ref h'.objs.size,_,I4,rfl,q cs _ lc hnd fr hfr⟩
nD pairW(us vs:List W):List W:=(us.zip vs).map λp=>.tup [p.1,p.2]
nD zip1:List W->Option W
 |[x,y]=>match seqW x,seqW y with
  |some us,some vs=>if(us.zip vs).length<=16777216 then some (.tup (pairW us vs))else none
  |_,_=>none
 |_=>none
tm x4e{K:PySem.W.Frag}:∀{cs:List Addr}{us vs:List W}{xs ys:List V}{G H:Hp},Same G H->cs.Nodup->(∀c∈cs,H c=none)->cs.length=(xs.zip ys).length->Reps K G us xs->Reps K G vs ys->∃G',Grow G H G' (layP H cs (xs.zip ys))/\Reps K G' (pairW us vs) (cs.map V.ref)
 |cs,[],vs,xs,ys,G,H,sg,_,_,hl,r1,_=>by
  cases(show xs=[]from r1);cases cs with
  |nil=>!⟨G,.refl sg,rfl⟩
  |cons _ _=>@hl
 |cs,_::_,[],xs,ys,G,H,sg,_,_,hl,_,r2=>by
  cases(show ys=[]from r2);rw[List.zip_nil_right]at hl |-
  cases cs with
  |nil=>!⟨G,.refl sg,rfl⟩
  |cons _ _=>@hl
 |[],u::us,v::vs,xs,ys,G,H,sg,_,_,hl,r1,r2=>by
  ~⟨x,xs',rfl,_,_⟩:=r1;~⟨y,ys',rfl,_,_⟩:=r2;@hl
 |c::cs,u::us,v::vs,xs,ys,G,H,sg,hn,hf,hl,r1,r2=>by
  ~⟨x,xs',rfl,p1,r1⟩:=r1;~⟨y,ys',rfl,p2,r2⟩:=r2;~⟨n1,n2⟩:=w1v.mp hn;#g:=Grow.laid sg (hf c w0i) (.tup [x,y]);~⟨G',g',r'⟩:=x4e (K:=K) (cs:=cs) (us:=us) (vs:=vs) (xs:=xs') (ys:=ys') (G:=upd G c (.tup [x,y])) (H:=upd H c (.tup [x,y])) g.sub n2 (λd hd=>by rw[q0g (λz=>n1 (by rw[<- z];!hd))];!hf d (w0e _ hd)) (by simpa using hl) (Reps.mono g.gg _ r1) (Reps.mono g.gg _ r2)
  rF⟨G',g.trans g',⟨.ref c,cs.map V.ref,rfl,?_,r'⟩⟩;!⟨c,[x,y],rfl,SqT.of (g'.gg c _ q0k),⟨x,[y],rfl,Rep.mono (g.gg.trans g'.gg) u p1,⟨y,[],rfl,Rep.mono (g.gg.trans g'.gg) v p2,rfl⟩⟩⟩
section
variable{X:Cx}{Z:Zt}{EE:L2.St->XK}{a1 a2:Expr}{dA:Den (List W)}
tm y2s{p1 p2 pos1 pos2:Pos}(hc:X.calm=true)(hm1:X.mg "tuple"=none)(hm2:X.mg "zip"=none)(ha:DA Z X EE [a1,a2] dA)(hg1:Gl X "tuple":=by rfl)(hg2:Gl X "zip":=by rfl)
  (hs1:starEach [.Call (.Name "zip" p2) [a1,a2] [] pos2] X.env=(false,eval (.Call (.Name "zip" p2) [a1,a2] [] pos2) X.env)::starEach [] X.env:=by rfl)(hs:starEach [a1,a2] X.env=[(false,eval a1 X.env),(false,eval a2 X.env)]:=by rfl)(hs2:starEach [a2] X.env=[(false,eval a2 X.env)]:=by rfl):
  DE Z X EE (.Call (.Name "tuple" p1) [.Call (.Name "zip" p2) [a1,a2] [] pos2] [] pos1) (dFn zip1 dA):=by
 rF PE.mono (y2r hc hm1 hm2 ha hg1 hg2 hs1 hs hs2) ?_;rintro σ H Q ⟨G,e,rel,h⟩;simp only[dFn,R.holds_bind,ofOpt_holds]at h;rF⟨G,e,rel,h.imp (λws e1 h G1 vs H1 r1 s1 p1=>?_) λ_ _ h=>h⟩
 ~⟨out,hf,h⟩:=h;unfold zip1 at hf;split at hf
 ·rename_i x y;split at hf
  ·rename_i us vs' hx hy;split at hf
   ·rename_i hz;@hf;~⟨v1,r,rfl,q1,⟨v2,r',e2,q2,q3⟩⟩:=p1;subst e2;cases(show r'=[]from q3);~⟨t,a,xs,rfl,g1,g2⟩:=x0c hx q1;~⟨u,b,ys,rfl,g3,g4⟩:=x0c hy q2;rF⟨t,u,a,b,xs,ys,rfl,q04 r1.sub g1,q04 r1.sub g3,by rw[w2v,g2.length,g4.length,<- w2v,sizeLine_eq];!hz,λcs l lc hnd hcs hl=>?_⟩
    ~⟨G',g',r'⟩:=x4e (K:=X.K) r1.sub hnd hcs lc g2 g4;#g'':=Grow.laid g'.sub hl (.tup (cs.map V.ref));#g:=g'.trans g'';!h _ _ _ (r1.grow g) (s1.trans g.gg) ⟨l,_,rfl,SqT.of q0k,Reps.mono g''.gg _ r'⟩
   ·@hf
  ·@hf
 ·@hf
end
end D
namespace L2
open PySem PySem.Spec PyProof.Rows
variable{X:Cx}{es:List Expr}{ks:List Str}{t:TA}
nD keyLits:List (Option Expr)->Option (List Str)
 |[]=>some []
 |some (.Constant (.str k) _ _)::r=>(keyLits r).map (k::·)
 |_=>none
tm q9e{o:Option Expr}{r:List (Option Expr)}(h:keyLits (o::r)=some ks):∃k kk p ks',o=some (.Constant (.str k) kk p)/\keyLits r=some ks'/\ks=k::ks':=by
 unfold keyLits at h;split at h
 ·rename_i h2;@h2
 ·rename_i k kk p r' e;@e;~⟨ks',h1,h2⟩:=w0x.mp h;!⟨k,kk,p,ks',rfl,h1,h2.symm⟩
 ·@h
nD kz(ks:List Str)(vs:List V):List (Key×V):=(ks.map Sum.inr).zip vs
nD PV(X:Cx)(es:List Expr)(t:TA):Prop:=
 ∀(keys:List (Option Expr))(ks:List Str),keyLits keys=some ks->keys.length=es.length->∀(pos:Pos)(pins:List (Addr×Obj))(s:Shared)(σ:St)(H:Hp)(Q:List V->Hp->Prop),Inv X pins σ H s->t σ H Q ->
  wpAny (model X.prog X.w) X.A (evalPairs (pairTrees keys es X.env pos)) (λus s'=>∃vs H' kv,Inv X pins σ H' s'/\vs.length=ks.length/\Carries (mixKind X.prog X.w) us kv/\KV (kz ks vs) kv/\Q vs H') X.xe s
tm z6f:PV X [] tNil:=by
 intro keys ks hk hl pos pins s σ H Q I h;cases keys with
 |cons _ _=>@hl
 |nil=>@hk;!evalPairs_nil ⟨[],H,[],I,rfl,trivial,.nil,h⟩
tm z07{e:Expr}{te:TE}(he:PE X e te)(hr:PV X es t):PV X (e::es) (tCons te t):=by
 intro keys ks hk hl pos pins s σ H Q I h;cases keys with
 |nil=>@hl
 |cons o r=>
  ~⟨k,kk,p,ks',rfl,h1,rfl⟩:=q9e hk;show wpAny _ _ (evalPairs ((eval (.Constant (.str k) kk p) X.env,do let x <- eval e X.env;standAt pos;pure x)::pairTrees r es X.env pos)) _ _ _;rF evalPairs_cons (thn (y0o (X:=X) pins s σ H (λv H1=>v=.str k/\H1=H) I ⟨rfl,rfl⟩) λku s1 ⟨v,H1,I1,rk,e1,e2⟩=>?_)
  subst e1 e2;rF wpAny_bind (thn (he pins s1 σ H1 _ I1 h) λvu s2 ⟨v,H2,I2,rv,q⟩=>wpAny_bind (wpAny_standAt (wpAny_pure ?_)))
  rF thn (hr r ks' h1 (by simpa using hl) pos pins s2 σ H2 _ I2 q) λus s3 ⟨vs,H3,kv,I3,l3,c3,kv3,q3⟩=>?_
  !⟨v::vs,H3,(.inr k,vu)::kv,I3,by simp[l3],⟨x5b (k:=.inr k) rk,rfl,c3⟩,.cons ⟨rfl,rv⟩ kv3,q3⟩
tm PV.mono{t':TA}(h:PV X es t)(m:∀σ H Q,t' σ H Q->t σ H Q):PV X es t':=λkeys ks hk hl pos pins s σ H Q I q=>h keys ks hk hl pos pins s σ H Q I (m σ H Q q)
nD tDS(ks:List Str)(t:TA):TE:=λσ H Q=>t σ H λvs H1=>∀p,H1 p=none->Q (.ref p) (upd H1 p (.dK (kz ks vs)))
nD okKeys(keys:List (Option Expr))(ks:List Str):Bool:=decide (keyLits keys=some ks)&&decide (ks.length<=15)&&decide (ks≠[])&&decide ks.Nodup
tm x0z:∀{keys:List (Option Expr)}{ks:List Str},keyLits keys=some ks->keys.all (·.isSome)=true/\keys.length=ks.length
 |[],_,h=>by @h;!⟨rfl,rfl⟩
 |o::r,ks,h=>by
  ~⟨k,kk,p,ks',rfl,h1,rfl⟩:=q9e h;~⟨a,b⟩:=x0z h1;!⟨by rw[w2p,a];rfl,by simp[b]⟩
tm x6n{vs:List V}(h:vs.length=ks.length):(kz ks vs).length=ks.length:=by simp[kz,h]
tm z08{vs:List V}(h:vs.length=ks.length):(kz ks vs).map (·.1)=ks.map Sum.inr:=by
 unfold kz;rw[List.map_fst_zip];simp[h]
tm y7n{keys:List (Option Expr)}{pos:Pos}(ok:okKeys keys ks=true)(hl:keys.length=es.length)(h:PV X es t):PE X (.Dict keys es pos) (tDS ks t):=by
 intro pins s σ H Q I q;simp only[okKeys,w0l,decide_eq_true_eq]at ok;~⟨⟨⟨k1,k2⟩,k3⟩,k4⟩:=ok;~⟨ka,kl⟩:=x0z k1;rF wpAny_Dict_any ka hl (λz=>by subst z;@k1;!k3 rfl) oM ?_
 #fr:H s.heap.objs.size=none:=I.hok.fresh (w0b _);#f:=I.fpOk (w0b _) fr
 #I0:Inv X ((s.heap.objs.size,{cls:=.type "dict", data:=.dict #[]})::pins) σ H {s with heap:=s.heap.push {cls:=.type "dict", data:=.dict #[]}}:=(I.kept (t':=s.toks) (λb u z=>Heap.get?_push_of_some _ z)).pins_of λp hp=>by
  rcases w0d.mp hp with rfl|hp
  ·!⟨Heap.get?_push_size _ rfl,fr,f.2.1,f.2.2.1,λ_ z=>nomatch z⟩
  ·~⟨a1,a2⟩:=I.pin p (w0c _ hp);!⟨Heap.get?_push_of_some _ a1,a2⟩
 #hd:(s.heap.objs.size==sysModules)=false:=beq_eq_false_iff_ne.mpr (Ne.symm (w0w I.big));rF thn (h keys ks k1 hl pos _ _ σ H _ I0 q) λus s1 ⟨vs,H1,kv,I1,l1,c1,kv1,q1⟩=>?_
 #hp:=(I1.pin _ (w0c _ w0i));#I2:Inv X pins σ (upd H1 s.heap.objs.size (.dK [])) s1:=(I1.pins_of λq hq=>I1.pin q (w0c _ (w0e _ hq))).adopt ⟨hp.2.1,f.2⟩ ⟨w1g _,hd,[],.nil,⟨_,#[],0,hp.1,⟨rfl,rfl,rfl⟩,rfl,(λ_ he=>by simp at he),Pairs.nil,w3a⟩⟩
 ~⟨z,hd',xs,rel,dd⟩:=x5d I2.hok (q0k (H:=H1) (a:=s.heap.objs.size) (o:=.dK []));@rel;#hkv:kv.length=ks.length:=by #:=congrArg List.length kv1.keys;simp only[w0j]at this;rw[<- this,x6n l1]
 #hm:merged [] kv=kv:=merged_nil_of_nodup kv (by
  rw[<- kv1.keys,z08 l1];!(List.pairwise_map.mpr (k4.imp λz h=>z (by injection h))))
 rF wpAny_storeAll (knd:=mixKind X.prog X.w) us kv [] s1 _ c1 dd (by rw[sizeLine_eq,hkv];simp;omega) λh' dd' hs=>?_
 rw[hm]at dd';#he:∃q,h'.get? s.heap.objs.size=some q:=let ⟨q,_,_,hq,_⟩:=dd';⟨q,hq⟩;#w:=x0d (t':=s1.toks+us.length) I2 (by rw[q0k];!True.intro) hs he (x6i (kvs:=kz ks vs) (by rw[sizeLine_eq,x6n l1];omega) hd kv1 dd');rw[y7r]at w;!⟨.ref s.heap.objs.size,_,w,rfl,q1 _ hp.2.1⟩
nD putAll(kvs more:List (Key×V)):List (Key×V):=more.foldl (λacc p=>putK acc p.1 p.2) kvs
tm KV.all:∀{more:List (Key×V)}{mv:List (Key×Value)}{kvs:List (Key×V)}{vs:List (Key×Value)},KV kvs vs->KV more mv->KV (putAll kvs more) (merged vs mv)
 |[],[],_,_,h,_=>h
 |p::l,q::r,_,_,h,.cons h1 h2=>by
  #:=KV.all (h.put p.1 h1.2) h2;rw[show merged _ (q::r)=merged (stored _ q.1 q.2) r from rfl,<- h1.1];!this
nD rUpd:V->List V->Hp->VK->Prop:=λx vs H Q=>∃a b kvs more,x=.ref a/\vs=[.ref b]/\a≠b/\H a=some (.dK kvs)/\H b=some (.dK more)/\kvs.length+more.length<=sizeLine/\(putAll kvs more).length<=sizeLine/\Q .non (upd H a (.dK (putAll kvs more)))
tm z6g:MtM X "dict.update" rUpd:=by
 intro pins s σ H x vs v us Q I rx rv h;~⟨a,b,kvs,more,rfl,rfl,hab,ha,hb,hz,hz2,q⟩:=h;cases(show v=Value.ref a from rx);~⟨u,rfl,ru⟩:=rv.one;cases(show u=Value.ref b from ru);~⟨z1,d1,xs,r1,dd1⟩:=x5d I.hok ha;~⟨z2,d2,ys,r2,dd2⟩:=x5d I.hok hb;#l1:=congrArg List.length r1.keys;#l2:=congrArg List.length r2.keys;simp only[w0j]at l1 l2;rF call_meetsIn F.slot_dict_update dd1.typeIs F.entry_dict_update (F.args_dict_update_2 _ _) (meets_dict_update (mixKind X.prog X.w) a b hab d2) ⟨xs,ys,dd1,dd2,by omega,λh' dd' _ hs=>?_⟩
 #he:∃q,h'.get? a=some q:=let ⟨q,_,_,hq,_⟩:=dd';⟨q,hq⟩;!⟨.non,_,x0d (t':=s.toks) I (by rw[ha];!True.intro) hs he (x6i hz2 d1 (KV.all r1 r2) dd'),rfl,q⟩
end L2
namespace D
open PySem L2
section
variable{X:Cx}{Z:Zt}{EE:L2.St->XK}{e:Expr}{es:List Expr}{d:Den W}{dA:Den (List W)}{pos:Pos}{x:Str}{keys:List (Option Expr)}
nD DV(Z:Zt)(X:Cx)(EE:L2.St->XK)(es:List Expr)(dA:Den (List W)):Prop:=PV X es (liftA X.K Z EE dA)
tm x2f:DV Z X EE [] dNil:=PV.mono z6f λσ H Q ⟨G,e,r,h⟩=>h G [] H r (.refl _) rfl
tm q1x(ha:DE Z X EE e d)(hr:DV Z X EE es dA):DV Z X EE (e::es) (dCons d dA):=by
 rF PV.mono (z07 ha hr) ?_;rintro σ H Q ⟨G,e,rel,h⟩;simp only[dCons,R.holds_bind]at h;rF⟨G,e,rel,h.imp (λx e1 h G1 v1 H1 r1 s1 p1=>?_) λ_ _ h=>h⟩
 rF⟨G1,e1,r1,h.imp (λxs e2 h G2 vs H2 r2 s2 p2=>?_) λ_ _ h=>XH.trans s1 h⟩
 !h G2 (v1::vs) H2 r2 (s1.trans s2) ⟨v1,vs,rfl,Rep.mono s2 x p1,p2⟩
nD kxz(ks:List Str)(vs:List V):List (Kx×V):=(ks.map Kx.str).zip vs
tm y2t:∀(ks:List Str)(vs:List V),(kxz ks vs).map (λp=>(kxK p.1,p.2))=kz ks vs
 |[],_=>rfl
 |_::_,[]=>rfl
 |k::ks,v::vs=>by
  #:=y2t ks vs;simp only[kxz,kz,w0g,List.zip_cons_cons]at this |-
  rw[this];rfl
tm z87{ks:List Str}{vs:List V}(h:vs.length=ks.length):(kxz ks vs).map (·.1)=ks.map Kx.str:=by
 unfold kxz;rw[List.map_fst_zip];simp[h]
tm z88{ks:List Str}{vs:List V}(h:vs.length=ks.length):(kxz ks vs).map (·.2)=vs:=by
 unfold kxz;rw[List.map_snd_zip];simp[h]
nD dSetDS(i:Nat)(ks:List Str)(dA:Den (List W)):List S->SR:=λe=>(dA e).stm λws e1=>if ws.length=ks.length then .nx (e1.set i (.dw .str (ks.map Kx.str) ws))else .no
tm y55(i:Nat)(ks:List Str){pos' dpos:Pos}(hN:X.N.Nodup)(ha:DV Z X EE es dA)(ok:okKeys keys ks=true:=by decide)(hl:keys.length=es.length:=by rfl)(hi:X.N[i]?=some x:=by rfl)(hx:Loc X.env.scope x:=by walk_at "3")(hs:swapsWith (.Dict keys es dpos) (some (.Name x pos')) pos.line X.env=pure false:=by rfl)(hf:X.fn x=true\/X.env.scope.names.lookup x=some .local:=by walk_at "2"):
  DS Z X EE (.Assign [.Name x pos'] (.Dict keys es dpos) pos) (dSetDS i ks dA):=by
 rF PS.mono (x11 i hN (y7n ok hl ha) hi hx hs hf) ?_;rintro D σ H ⟨G,e,rel,h⟩;rF⟨G,e,rel,(q0w h).imp (λws e1 h G1 vs H1 r1 s1 p1=>?_) λ_ _ h=>h⟩
 split at h
 ·rename_i hw;intro q hq;#lv:vs.length=ks.length:=by rw[p1.length];!hw
  #g:=Grow.hid r1.sub hq (.dK (kz ks vs));rF h G1 _ _ ((r1.grow g).setS (s:=.dw .str (ks.map Kx.str) ws) (λ_ _ z=>nomatch z) ⟨q,kxz ks vs,[],rfl,?_,r1.sub.free hq,q7v r1 hq,z87 lv,(λk hk=>?_),.of rfl ?_⟩) s1
  ·rw[q0k];show _=some (HO.dK ((kxz ks vs).map λp=>(kxK p.1,p.2)));rw[y2t]
  ·~⟨y,_,hy⟩:=w0u.mp hk;!⟨y,hy.symm⟩
  ·rw[z88 lv];!p1
 ·!h.elim
nD setW:List Kx->List W->Kx->W->List W
 |k::ks,w::ws,x,y=>(if k=x then y else w)::setW ks ws x y
 |_,_,_,_=>[]
nD updW(ks2:List Kx):List W->List Str->List W->List W
 |ws2,k::ks,w::ws=>updW ks2 (setW ks2 ws2 (.str k) w) ks ws
 |ws2,_,_=>ws2
tm x8m{k:Str}{v:V}:∀{kvs:List (Kx×V)},(∀p∈kvs,∃y,p.1=Kx.str y)->(kvs.map λp=>(kxK p.1,p.2)).map (λkv=>if kv.1=(.inr k:Key)then(kv.1,v)else kv)=(kvs.map λp=>if p.1=Kx.str k then(p.1,v)else p).map λp=>(kxK p.1,p.2)
 |[],_=>rfl
 |p::l,h=>by
  ~⟨y,hy⟩:=h p (by simp);rw[w0g,w0g,w0g,w0g,x8m λq hq=>h q (w0e _ hq)]
  ~⟨p1,p2⟩:=p;@hy
  by_cases e:y=k
  ·subst e;rw[if_pos rfl,if_pos (by rfl)]
  ·rw[if_neg (λz=>e (by injection z)),if_neg (λz=>e (by injection z))]
tm x6o{K:PySem.W.Frag}{G:Hp}{k:Kx}{w:W}{v:V}(r:Rep K G w v):∀{kvs:List (Kx×V)}{ws:List W},Reps K G ws (kvs.map (·.2))->Reps K G (setW (kvs.map (·.1)) ws k w) ((kvs.map λp=>if p.1=k then(p.1,v)else p).map (·.2))
 |[],[],_=>rfl
 |[],_::_,h=>by ~⟨_,_,z,_⟩:=h;@z
 |p::l,[],h=>nomatch (show(p::l).map (·.2)=[]from h)
 |p::l,w0::ws,⟨y,r1,e0,h1,h2⟩=>by
  injection e0 with e0 e0'
  subst e0;subst e0';rF⟨_,_,rfl,?_,x6o r h2⟩
  by_cases e:p.1=k
  ·simp only[e,if_pos];!r
  ·simp only[if_neg e];!h1
tm x8n{K:PySem.W.Frag}{G:Hp}:∀{ks:List Str}{vs:List V}{ws:List W}{kvs:List (Kx×V)}{ws2:List W},Reps K G ws vs->ws.length=ks.length->(∀p∈kvs,∃y,p.1=Kx.str y)->(∀k∈ks,Kx.str k∈kvs.map (·.1))->Reps K G ws2 (kvs.map (·.2)) ->
  ∃kvs':List (Kx×V),putAll (kvs.map λp=>(kxK p.1,p.2)) (kz ks vs)=kvs'.map (λp=>(kxK p.1,p.2))/\kvs'.map (·.1)=kvs.map (·.1)/\Reps K G (updW (kvs.map (·.1)) ws2 ks ws) (kvs'.map (·.2))
 |[],_,ws,kvs,ws2,_,hl,_,_,h=>by
  cases ws with
  |cons _ _=>@hl
  |nil=>!⟨kvs,rfl,rfl,h⟩
 |k::ks,vs,[],_,_,_,hl,_,_,_=>by @hl
 |k::ks,vs,w::ws,kvs,ws2,⟨v,vs',e0,h1,h2⟩,hl,hk,hm,h=>by
  subst e0
  #hk2:∀p∈kvs.map (λp=>if p.1=Kx.str k then(p.1,v)else p),∃y,p.1=Kx.str y:=λp hp=>by
   ~⟨q,hq,rfl⟩:=w0u.mp hp;~⟨y,hy⟩:=hk q hq;rF⟨y,?_⟩;split<;>!hy
  #e1:(kvs.map λp=>if p.1=Kx.str k then(p.1,v)else p).map (·.1)=kvs.map (·.1):=by
   rw[w0y];rF w1s λp _=>?_
   show(if p.1=Kx.str k then(p.1,v)else p).1=p.1;split<;>rfl
  #hany:((kvs.map λp=>(kxK p.1,p.2)).any λkv=>decide (kv.1=(.inr k:Key)))=true:=by
   ~⟨p,hp,e⟩:=w0u.mp (hm k (by simp));rF List.any_eq_true.mpr ⟨(kxK p.1,p.2),w0u.mpr ⟨p,hp,rfl⟩,?_⟩;rw[e];!decide_eq_true rfl
  #st:=x6o (k:=Kx.str k) h1 h;~⟨kvs',g1,g2,g3⟩:=x8n (ks:=ks) (vs:=vs') (ws:=ws) h2 (by simpa using hl) hk2 (λy hy=>by rw[e1];!hm y (w0e _ hy)) st
  rF⟨kvs',?_,g2.trans e1,by rw[e1]at g3;!g3⟩;rw[show kz (k::ks) (v::vs')=(.inr k,v)::kz ks vs' from rfl,show putAll (kvs.map λp=>(kxK p.1,p.2)) ((.inr k,v)::kz ks vs')=putAll (putK (kvs.map λp=>(kxK p.1,p.2)) (.inr k) v) (kz ks vs')from rfl]
  rw[<- g1];congr 1;unfold putK;rw[if_pos hany,x8m hk]
nD updC(i:Nat)(ks:List Str)(ws:List W)(e:List S):Option S->SR
 |some (.dw .str ks2 ws2)=>if ws.length=ks.length/\ks2.length+ks.length<=16777216/\(∀k∈ks,Kx.str k∈ks2)/\(e.set i .no).all (λs=>!isDw s)=true then .nx (e.set i (.dw .str ks2 (updW ks2 ws2 ks ws)))else .no
 |_=>.no
nD upd0(k:SR):Option S->SR
 |some (.dw .str _ _)=>k
 |_=>.no
nD dUpd(i:Nat)(ks:List Str)(dA:Den (List W)):List S->SR:=λe=>upd0 ((dA e).stm λws e1=>updC i ks ws e1 e1[i]?) e[i]?
tm x6p(i:Nat)(ks:List Str){apos cpos dpos p:Pos}(ha:DV Z X EE es dA)(ok:okKeys keys ks=true:=by decide)(hl:keys.length=es.length:=by rfl)(hN:X.N[i]?=some x:=by rfl)(hv:Vis X.env.scope x:=by walk_at "1")(hd:(x==("__debug__":Str))=false:=by decide)(hcd:(x==("__classdict__":Str))=false:=by decide)
  (hbase:attributeBase (.Name x p) "update" X.env (eval (.Name x p) X.env)=eval (.Name x p) X.env:=by rfl)
  (hfew:((backTo cpos (starEach [.Dict keys es dpos] X.env)).all (λx=>!x.1)&&(backToKw cpos (keywordEach [] X.env)).all (λx=>x.1.isSome)
   && decide ([Expr.Dict keys es dpos].length+([]:List Keyword).length+(if([]:List Keyword).isEmpty then 0 else 1)<30))=true:=by rfl)
  (hline:(apos.endLine==cpos.line)=true:=by rfl)(hs:starEach [.Dict keys es dpos] X.env=(false,eval (.Dict keys es dpos) X.env)::starEach [] X.env:=by rfl)(hplain:(backTo cpos (starEach [] X.env)).any (·.1)=false:=by rfl)(hsw:swapsWith (.Call (.Attribute (.Name x p) "update" apos) [.Dict keys es dpos] [] cpos) none pos.line X.env=pure false:=by rfl):
  DS Z X EE (.Expr (.Call (.Attribute (.Name x p) "update" apos) [.Dict keys es dpos] [] cpos) pos) (dUpd i ks dA):=by
 rF PS.mono (q7t (x47 PySem.F.plainAttrs_dict PySem.F.slot_dict_update PySem.F.type_dict_update z6g (pv i hN hv hd hcd) (q5c (y7n ok hl ha) x1x hs) hbase hfew hline hs hplain) hsw) ?_;rintro D σ H ⟨G,e,rel,h⟩;unfold dUpd upd0 at h;split at h
 ·rename_i ks0 ws0 he0;~⟨a,kvs0,kas0,q1,q2,_⟩:=rel.dw he0;rF⟨.ref a,q1,.inr (.inr (.inl ⟨rfl,.inl ⟨_,q2⟩⟩)),G,e,rel,(q0w (σ:=σ) h).imp (λws e1 h G1 vs H1 r1 s1 p1=>?_) λ_ _ h=>h⟩
  intro q hq;unfold updC at h;split at h
  ·rename_i ks2 ws2 he2;~⟨a',kvs,kas,g1,g2,g3,g4,g5,g6,g7⟩:=r1.dw he2;rw[q1]at g1;@g1;split at h
   ·rename_i hc;subst g5;#g2:H1 a=some (.dK (kvs.map λp=>(kxK p.1,p.2))):=g2
    #hne:a≠q:=λz=>by rw[z,hq]at g2;@g2
    #g6:∀k∈kvs.map (·.1),∃y,k=Kx.str y:=g6;~⟨kvs',u1,u2,u3⟩:=x8n (K:=X.K) (G:=G1) (ks:=ks) (vs:=vs) (ws:=ws) (kvs:=kvs) (ws2:=ws2) p1 hc.1 (λp hp=>g6 p.1 (w0u.mpr ⟨p,hp,rfl⟩)) hc.2.2.1 g7
    #lv:vs.length=ks.length:=by rw[p1.length];!hc.1
    #lk:kvs'.length=kvs.length:=by #:=congrArg List.length u2;simpa using this
    #l2:=hc.2.1;rw[w0j]at l2;rF⟨a,q,_,_,rfl,rfl,hne,by rw[q0g hne];!g2,q0k,by rw[sizeLine_eq,w0j,x6n lv];!l2,by rw[u1,sizeLine_eq,w0j,lk];omega,?_⟩;rw[u1];#g:=Grow.hid r1.sub hq (.dK (kz ks vs));rF h G1 σ _ (((r1.grow g).mutDw (sh:=.str) (kvs':=kvs') (kas':=kas) (ks':=kvs.map (λp:Kx×V=>p.1)) (ws':=updW (kvs.map (λp:Kx×V=>p.1)) ws2 ks ws) he2 q1 (λs hs=>?_) u2 (by !g6) (.of rfl u3))) s1
    #:=w0z.mp hc.2.2.2 s hs;simpa using this
   ·!h.elim
  ·!h.elim
 ·!h.elim
tm y56{i:Nat}{ks:List Str}{e:List S}:dSetDS i ks dA e=(dA e).stm λws e1=>if ws.length=ks.length then .nx (e1.set i (.dw .str (ks.map Kx.str) ws))else .no:=rfl
tm z6h{i:Nat}{ks:List Str}{e:List S}:dUpd i ks dA e=upd0 ((dA e).stm λws e1=>updC i ks ws e1 e1[i]?) e[i]?:=rfl
tm z6i{k:SR}{ks:List Kx}{ws:List W}:upd0 k (some (.dw .str ks ws))=k:=rfl
tm y2u{i:Nat}{ks:List Str}{ws:List W}{e:List S}{ks2:List Kx}{ws2:List W}(h:ws.length=ks.length/\ks2.length+ks.length<=16777216/\(∀k∈ks,Kx.str k∈ks2)/\(e.set i .no).all (λs=>!isDw s)=true):updC i ks ws e (some (.dw .str ks2 ws2))=.nx (e.set i (.dw .str ks2 (updW ks2 ws2 ks ws))):=if_pos h
end
nD keyIs(k:Str):Value->Bool
 |.str s _=>s==k
 |_=>false
nD entOk(K:PySem.W.Frag):List (Str×W)->List DictEntry->Bool
 |[],[]=>true
 |p::tb,e::es=>keyIs p.1 e.key&&(conIn K p.2 e.val&&entOk K tb es)
 |_,_=>false
nD isTab(K:PySem.W.Frag)(tb:List (Str×W))(o:Obj):Bool:=match o.cls,o.dict,o.slots.toList,o.data with
 |.type c,none,[],.dict es _=>c=="dict"&&entOk K tb es.toList
 |_,_,_,_=>false
nD hashO(o:Obj):List Int:=match o.data with
 |.dict es _=>es.toList.map (·.hash)
 |_=>[]
nD TabC(P:Program)(w:World)(K:PySem.W.Frag)(d:Addr)(tb:List (Str×W)):Prop:=∃o,K.lookup d=some o/\isTab K tb o=true/\hashO o=tb.map λp=>(strKind P w).hash p.1
tm keyIs_shape{k:Str}{v:Value}(h:keyIs k v=true):∃t,v=.str k t:=by
 cases v with
 |str y t=>!⟨t,by rw[show y=k from beq_iff_eq.mp h]⟩
 |_=>@h
tm x6q{P:Program}{w:World}{K:PySem.W.Frag}{k:Str}{wv:W}:∀{tb:List (Str×W)}{es:List DictEntry},entOk K tb es=true->tb.lookup k=some wv->∃e,es.find? (λe=>(strKind P w).is k e.key)=some e/\conIn K wv e.val=true
 |[],_,_,h=>by @h
 |_::_,[],h,_=>by @h
 |p::tb,e::es,h,hl=>by
  unfold entOk at h;simp only[w0l]at h;~⟨h1,h3,h4⟩:=h;~⟨t,ht⟩:=keyIs_shape h1;rw[List.lookup_cons]at hl
  by_cases e0:k=p.1
  ·subst e0;rw[beq_self_eq_true]at hl;@hl;rF⟨e,?_,h3⟩;rw[w2l,ht,strKind_is]
  ·rw[beq_eq_false_iff_ne.mpr e0]at hl;~⟨e',q1,q2⟩:=x6q (P:=P) (w:=w) h4 hl;rF⟨e',?_,q2⟩;rw[w2l,ht];cases q:(strKind P w).is k (.str p.1 t)with
   |false=>!q1
   |true=>!absurd ((strKind P w).inj _ _ _ q (strKind_is _ _ _ _)) e0
tm x6r{P:Program}{w:World}{K:PySem.W.Frag}:∀{tb:List (Str×W)}{es:List DictEntry},entOk K tb es=true->es.map (·.hash)=(tb.map λp=>(strKind P w).hash p.1)->∀e∈es,∃k,(strKind P w).is k e.key=true/\e.hash=(strKind P w).hash k
 |[],[],_,_,_,h=>nomatch h
 |_::_,[],h,_,_,_=>by @h
 |[],_::_,h,_,_,_=>by @h
 |p::tb,e::es,h,hh,e',he=>by
  unfold entOk at h;simp only[w0l]at h;~⟨h1,h3,h4⟩:=h;injection hh with h2 hh
  rcases w0d.mp he with rfl|he
  ·~⟨t,ht⟩:=keyIs_shape h1;!⟨p.1,by rw[ht];!strKind_is _ _ _ _,h2⟩
  ·!x6r h4 hh e' he
nD tabCW(tb:List (Str×W)):W->Option W
 |.str k=>tb.lookup k
 |_=>none
section
variable{X:Cx}{Z:Zt}{EE:L2.St->XK}{k:Expr}{dk:Den W}{pos p:Pos}{x:Str}{d:Addr}{tb:List (Str×W)}
nD rTabC(K:PySem.W.Frag)(d:Addr)(tb:List (Str×W)):R2:=λx y H Q=>∃k w,x=.ref d/\y=.str k/\tb.lookup k=some w/\∀v,(∀G,Rep K G w v)->Q v H
tm z09(T:TabC X.prog X.w X.K d tb):IxR X (rTabC X.K d tb):=by
 intro value slice pins s σ H x y v u Q I rx ry h hs;~⟨k,w,rfl,rfl,hl,q⟩:=h;@rx;~⟨t,rfl⟩:=ry;~⟨o,h1,h2,h5⟩:=T;unfold isTab at h2;split at h2
 ·rename_i c es ep hc hd hsl hdt;rw[w0l]at h2;~⟨e,e1,e2⟩:=x6q (P:=X.prog) (w:=X.w) h2.2 hl;~⟨v',rv,rp⟩:=x3a w e2;#hm:s.heap.MapOf (strKind X.prog X.w) d (findBy (strKind X.prog X.w).is es):=⟨o,es,ep,I.kIn d o h1,⟨by rw[hc,beq_iff_eq.mp h2.1],hd,by apply Array.toList_inj.mp;rw[hsl]⟩,hdt,λe he=>x6r h2.2 (by unfold hashO at h5;rw[hdt]at h5;!h5) e (by simpa using he),λ_=>rfl⟩
  rF PyProof.Rows.tail_any hm.typeIs F.slot_dict_getitem.lookup (wpAny_getItem_of (knd:=strKind X.prog X.w) (strKind_is _ _ _ _) hm (v:=e.val) ?_ ⟨v',H,I.tok _,rv,q v' rp⟩) hs;unfold findBy;rw[<- Array.find?_toList,e1];rfl
 ·@h2
tm z1a(T:∃d,X.mg x=some (.ref d)/\TabC X.prog X.w X.K d tb)(hk:DE Z X EE k dk)(hg:Gl X x:=by rfl)(hd:(x==("__debug__":Str))=false:=by decide)(hs:PlainIx k:=by intro _ _;rfl):
  DE Z X EE (.Subscript (.Name x p) k pos) (dUn (tabCW tb) dk):=by
 ~⟨d,hm,T⟩:=T;rF PE.mono (x46 (z09 T) (q7s (v:=.ref d) hg hm rfl hd) hk hs) ?_;rintro σ H Q ⟨G,e,rel,h⟩;simp only[dUn,R.holds_bind,ofOpt_holds]at h;rF⟨G,e,rel,h.imp (λw e1 h G1 v1 H1 r1 s1 p1=>?_) λ_ _ h=>h⟩
 ~⟨w',hw,h⟩:=h;unfold tabCW at hw;split at hw
 ·@p1;!⟨_,w',rfl,rfl,hw,λv rv=>h G1 v H1 r1 s1 (rv G1)⟩
 ·@hw
end
end D
namespace L2
open PySem PySem.Spec PyProof.Rows
tm Inv.goes{X:Cx}{pins:List (Addr×Obj)}{σ:St}{H:Hp}{s:Shared}{i:Nat}{n:Str}{pos:Pos}{R:Unit->Shared->Prop}{E:Value->Shared->Prop}(I:Inv X pins σ H s)(hN:X.N.Nodup)(hi:X.N[i]?=some n)(hx:X.env.scope.names.lookup n=some .local)(hk:(X.env.scope.kind==.class||(X.env.scope.kind==.module&&X.env.locals != X.env.globals))=false)(hR:∀s',Inv X pins (σ.set i none) H s'->R () s'):wpAny (model X.prog X.w) X.A (do bindName X.env n .none;unbindBehindTheSuite X.env n pos) R E s:=by
 ~⟨m,hn,hl⟩:=id I.loc;~⟨oL,_,_,hoL,_⟩:=id hn;rF wpAny_nameGoes_keeps hx hn hk λh' v hn' hs=>hR _ ?_
 #tracked:HOk X.prog X.w H h':=λb ob e=>by
  rF(I.hok b ob e).stay (λc w' hc q=>(hs.2 c ?_).trans q) (λ_ q=>q) λ_ _ _ q=>q
  grind [free]
 rF⟨I.ok,I.os,I.bare,⟨λb o e n hb hx=>?_,λb o e n hb hx=>?_,I.base.free,λb o e hx=>?_,I.base.tups,I.base.frzs,I.base.tbls⟩,⟨_,hn',λj y v' e1 e2 e3=>?_⟩,λy c e=>?_,I.free,I.freeC,λp hp=>?_,tracked,by rw[w3i];!I.len⟩
 ·!(hs.2 b (w0w (w0s (Heap.lt_size e) I.ok.above))).trans (I.base.keep b o e n hb hx)
 ·~⟨sl,e1⟩:=I.base.slot b o e n hb hx;!⟨sl,(hs.2 b (w0w (w0s (Heap.lt_size e) I.ok.above))).trans e1⟩
 ·~⟨o',e1⟩:=I.base.there b o e hx;!⟨o',(hs.2 b (w0w (w0s (Heap.lt_size e) I.ok.above))).trans e1⟩
 ·by_cases hj:j=i
  ·subst hj;rw[List.getElem?_set]at e2;split at e2
   ·split at e2<;>@e2
   ·contradiction
  ·rw[w0f (λz=>hj z.symm)]at e2
   ~⟨u,r,lk⟩:=hl j y v' e1 e2 e3;rF⟨u,r,?_⟩;rcases lk with⟨k1,k2⟩|⟨k1,c,k2,k3⟩
   ·rF .inl ⟨k1,?_⟩;show(if y=n then v else m y)=some u;rw[if_neg λz=>hj ?_]
    ·!k2
    ·subst z;!(List.getElem?_inj (w0m.mp e1).1 hN).mp (e1.trans hi.symm)
   ·!.inr ⟨k1,c,k2,k3.sameBut hs (I.cne y c k2)⟩
 ·~⟨w',z⟩:=I.cell y c e;!⟨w',z.sameBut hs (I.cne y c e)⟩
 ·~⟨e,n,ne,nf,d⟩:=I.pin p hp;!⟨(hs.2 p.1 ne).trans e,n,ne,nf,d⟩
nD tTryK(K:PySem.W.Frag)(c:Addr)(i:Nat)(tb:(St->XK)->TS)(th:TS):TS:=λD σ H=>
 tb (λσ' cls _ H'=>exmOne K cls (.ref c)=some true/\∀e,H' e=none ->
  th {nx:=λσ'' H''=>D.nx (σ''.set i none) H'',rt:=D.rt,bk:=λσ'' H''=>D.bk (σ''.set i none) H'',ct:=λσ'' H''=>D.ct (σ''.set i none) H''} (σ'.set i (some (.ref e))) (upd H' e (excO e cls))) D σ H
tm z1b{X:Cx}{body suite:List Stmt}{b₀:Stmt}{c n:Str}{i:Nat}{Cc:Addr}{np hpos pos:Pos}{tb:(St->XK)->TS}{th:TS}
  (hg:Gl X c)(hm:X.mg c=some (.ref Cc))(hN:X.N.Nodup)(hi:X.N[i]?=some n)(hx:X.env.scope.names.lookup n=some .local)
  (hb:∀(EE:L2.St->XK)(pn:List (Addr×Obj))(xe:Value->Shared->Prop),PassX (CX1 X.prog X.w) (X.tr pn xe) EE->PSs (X.tr pn xe) body (tb EE))
  (hh:∀e:Addr,PSs (X.hn e) (b₀::suite) th)
  (hs:X.stack=X.env::X.outer:=by rfl)(hf:X.env.frame=some X.env.locals:=by rfl)(hdb:(c==("__debug__":Str))=false:=by decide):
  PS X (.Try body [.ExceptHandler (some (.Name c np)) (some n) (b₀::suite) hpos] [] [] pos) (tTryK X.K Cc i tb th):=by
 intro pins s σ H D I h;rF wpAny_Try_except (wpAny_mono (hb _ (X.pn++pins) _ ?pass [] s σ H D (I.tr _) h) (λf s1 q=>?_) λ_ _ z=>z)
 case pass=>
  intro pins' σ' H1 s1 ev s2 I1 hx1;~⟨e,cls,H2,B,rfl,hos,hgn,un,hok,fly,hmt,hE⟩:=hx1;#I0:Inv X pins σ' H1 s1:=I1.untr;#un:Un (frs X.stack) [] H1 H2 s1.heap s2.heap:=un;#fly:Fly X.stack H1 H2 s1.heap s2.heap e cls B:=fly;#hfr:=fly.free hok;~⟨a0,fl⟩:=fly.fl;#fl':Heap.FlyingW B (X.env::X.outer) e cls a0 s2.heap:=hs ▸ fl;#fr':X.A.frames=some (X.env::X.outer):=hs ▸ I0.ok.frames;#noch:∀b∈([]:List Addr),(b∈X.ex\/X.s₀.heap.objs.size<=b)/\b≠X.env.locals/\(∀x c,X.env.cells.lookup x=some c->c≠b)/\∀p∈X.pn++pins,p.1≠b:=λb z=>nomatch z
  #land:∀h5 tk,Heap.FlyingW B (X.env::X.outer) e cls a0 h5->s2.heap.UpToSlots h5->Inv X pins σ' H2 {s2 with heap:=h5,toks:=tk}:=λh5 tk fl5 up5=>by
   #fl5':Heap.FlyingW B X.stack e cls a0 h5:=hs.symm ▸ fl5;!I0.call' (s':={s2 with heap:=h5,toks:=tk}) (ch:=[]) hos (fly.un un fl5' up5) (fly.hok hok fl5') hgn noch
  rF wpAny_looks_onW (base:=B) fr' hf fl' λh₄ held up₄=>?_
  rF wpAny_landsW held λh₅ fl₅ up₅'=>?_
  #up₅:s2.heap.UpToSlots h₅:=up₄.trans up₅';#I5:=land h₅ s2.toks fl₅ up₅;rF wpAny_handleBy_cons (codeAny_handlers_test ?_) (by intro q;@q);rF q93 (X:=X.hn e) (I5.hn e) hg hm ?_ hdb;~⟨ob,hob,hoc⟩:=fl₅.there;#LT:PySem.W.Looks (model X.prog X.w) h₅ (typeOf (.ref e)) cls:=hoc ▸ (PySem.W.Looks.ld hob).andThen .now;rF(PySem.W.exm_one (M:=model X.prog X.w) I5.kIn LT hmt).at ?_;show codeAny _ _ _ _ _;rF codeAny_handlers_suite_as ?_;rF lands_againW fl₅ λh₆ fl₆ up₆'=>?_
  #up₆:s2.heap.UpToSlots h₆:=up₅.trans up₆';~⟨oe,ws,hoe,hoec,hoed,_⟩:=fl₆.first
  #fl6':Heap.FlyingW B X.stack e cls a0 h₆:=hs.symm ▸ fl₆
  #I7:Inv X pins σ' (upd H2 e (excO e cls)) {s2 with heap:=h₆}:=
   I0.call' (s':={s2 with heap:=h₆}) (ch:=[]) hos ((fly.un un fl6' up₆).taken fly.new hfr) ((fly.hok hok fl6').taken hfr (y77 ⟨oe,ws,hoe,hoec,hoed⟩)) hgn noch
  rF x1a (X:=X.hn e) (I7.hn e) hN hi (.inl hx) (v:=.ref e) rfl (λs8 I8=>?_) (.inr hx)
  rF wpAny_mono (hh e pins s8 _ _ _ I8 (hE e hfr)) (λf s9 q=>?_) λ_ _ z=>z.elim
  show wpAny _ _ _ _ _ _
  #go:∀{σ9:St}{H9:Hp},Inv (X.hn e) pins σ9 H9 s9->∀R:Unit->Shared->Prop,(∀s',Inv X pins (σ9.set i none) H9 s'->R () s')->wpAny (model X.prog X.w) X.A (do bindName X.env n .none;unbindBehindTheSuite X.env n hpos) R X.xe s9:=λ{σ9 H9} I9 R hR=>by
   !(I9.unhn I0.ok).goes hN hi hx (by rw[I0.ok.kind];rfl) λs' I'=>hR s' I'
  cases f with
  |next=>~⟨σ9,H9,I9,q⟩:=q;!go I9 _ λs' I'=>⟨_,H9,I',q⟩
  |brk=>~⟨σ9,H9,I9,q⟩:=q;!go I9 _ λs' I'=>⟨_,H9,I',q⟩
  |cont=>~⟨σ9,H9,I9,q⟩:=q;!go I9 _ λs' I'=>⟨_,H9,I',q⟩
  |ret u=>~⟨v,σ9,H9,I9,r,q⟩:=q;!go I9 _ λs' I'=>⟨v,_,H9,I',r,q⟩
 ·cases f with
  |next=>~⟨σ',H',I',q⟩:=q;!wpAny_execs_nil ⟨σ',H',I'.untr,q⟩
  |brk=>~⟨σ',H',I',q⟩:=q;!⟨σ',H',I'.untr,q⟩
  |cont=>~⟨σ',H',I',q⟩:=q;!⟨σ',H',I'.untr,q⟩
  |ret u=>~⟨v,σ',H',I',r,q⟩:=q;!⟨v,σ',H',I'.untr,r,q⟩
end L2
namespace D
open PySem L2
variable{e:List S}{i:Nat}{K:PySem.W.Frag}
nD dTryK(K:PySem.W.Frag)(c:Addr)(i:Nat)(b h:List S->SR):List S->SR:=λe=>match b e with
 |.ex cls e'=>if exmOne K cls (.ref c)=some true then(match h (e'.set i (.fr (.exc cls)))with
  |.nx e2=>.nx (e2.set i .no)
  |.bk e2=>.bk (e2.set i .no)
  |.ct e2=>.ct (e2.set i .no)
  |.rt s e''=>.rt s e''
  |_=>.no)else .no
 |r=>r
section
variable{X:Cx}{Z:Zt}{EE:L2.St->XK}{pos:Pos}
tm Rel.goes{G H:Hp}{σ:L2.St}(r:Rel K Z G σ H e)(i:Nat):Rel K Z G (σ.set i none) H (e.set i .no):=by
 rF⟨r.sub,λj s z=>?_,by simpa using r.len,λj k b1 b2 w1 w2 c z1 z2 z3 z4=>?_,r.ent,r.ion,r.gen⟩
 ·by_cases hj:j=i
  ·subst hj;rw[List.getElem?_set]at z;split at z
   ·split at z
    ·@z;trivial
    ·@z
   ·contradiction
  ·rw[w0f (λz=>hj z.symm)]at z |-
   !r.slot j s z
 ·#old:∀(k:Nat)(bb:Option Nat)(ww:List W),(e.set i .no)[k]?=some (.own bb ww)->k≠i/\e[k]?=some (.own bb ww):=λk bb ww z=>by
   grind
  ~⟨n1,q1⟩:=old _ _ _ z1;~⟨n2,q2⟩:=old _ _ _ z2;rw[w0f (λz=>n1 z.symm)]at z3
  rw[w0f (λz=>n2 z.symm)]at z4
  !r.dis _ _ _ _ _ _ _ q1 q2 z3 z4
tm z1c{body suite:List Stmt}{b₀:Stmt}{c n:Str}{Cc:Addr}{np hpos:Pos}{dB dH:List S->SR}
  (hm:X.mg c=some (.ref Cc))(hN:X.N.Nodup)(hi:X.N[i]?=some n)(hx:X.env.scope.names.lookup n=some .local)
  (hb:∀(EE:L2.St->XK)(pn:List (Addr×Obj))(xe:Value->Shared->Prop),PassX (CX1 X.prog X.w) (X.tr pn xe) EE->DSs Z (X.tr pn xe) EE body dB)
  (hh:∀e:Addr,DSs Z (X.hn e) (λ_=>E0) (b₀::suite) dH)(hg:Gl X c:=by rfl)
  (hs:X.stack=X.env::X.outer:=by rfl)(hf:X.env.frame=some X.env.locals:=by rfl)(hdb:(c==("__debug__":Str))=false:=by decide):
  DS Z X EE (.Try body [.ExceptHandler (some (.Name c np)) (some n) (b₀::suite) hpos] [] [] pos) (dTryK X.K Cc i dB dH):=by
 rF PS.mono (z1b (tb:=λEE=>liftS X.K Z EE dB) (th:=liftS X.K Z (λ_=>E0) dH) hg hm hN hi hx hb hh hs hf hdb) ?_
 rintro D σ H ⟨G,e,rel,h⟩;rF⟨G,e,rel,?_⟩;unfold dTryK at h;cases q:dB e with
 |nx e'=>rw[q]at h;!h
 |bk e'=>rw[q]at h;!h
 |ct e'=>rw[q]at h;!h
 |rt w e'=>rw[q]at h;!h
 |no=>rw[q]at h;!h
 |ex cls e'=>
  rw[q]at h;intro G1 σ1 H1 r1 s1;dsimp only at h;split at h
  ·rename_i hq;rF⟨hq,λex hex=>?_⟩
   #g:=Grow.laid r1.sub hex (excO ex cls);rF⟨_,e'.set i (.fr (.exc cls)),(r1.grow g).set (v:=.ref ex) ⟨ex,rfl,q0k⟩,?_⟩;#sg:=s1.trans g.gg;cases q2:dH (e'.set i (.fr (.exc cls)))with
   |nx e2=>rw[q2]at h;!λG2 σ2 H2 r2 s2=>h G2 _ H2 (r2.goes _) (sg.trans s2)
   |bk e2=>rw[q2]at h;!λG2 σ2 H2 r2 s2=>h G2 _ H2 (r2.goes _) (sg.trans s2)
   |ct e2=>rw[q2]at h;!λG2 σ2 H2 r2 s2=>h G2 _ H2 (r2.goes _) (sg.trans s2)
   |rt w e2=>rw[q2]at h;!λG2 σ2 v H2 r2 s2 p2=>h G2 σ2 v H2 r2 (sg.trans s2) p2
   |ex c2 e2=>rw[q2]at h;!h.elim
   |no=>rw[q2]at h;!h.elim
  ·!h.elim
end
nD trgH(i:Nat):SR->SR
 |.nx e=>.nx (e.set i .no)
 |.bk e=>.bk (e.set i .no)
 |.ct e=>.ct (e.set i .no)
 |.rt s e=>.rt s e
 |_=>.no
nD trgK(K:PySem.W.Frag)(c:Addr)(i:Nat)(h:List S->SR):SR->SR
 |.ex cls e'=>if exmOne K cls (.ref c)=some true then trgH i (h (e'.set i (.fr (.exc cls))))else .no
 |r=>r
tm z1d{c : Addr}{b h : List S -> SR} : dTryK K c i b h e = trgK K c i h (b e) := by
  unfold dTryK trgK;cases b e with
  | ex cls e' => dsimp only; split
                 . cases h (e'.set i (.fr (.exc cls))) <;> rfl
                 . rfl
  | _ => rfl
tm z6j{c:Addr}{h:List S->SR}{v:Value}(hx:exmOne K v (.ref c)=some true):trgK K c i h (.ex v e)=trgH i (h (e.set i (.fr (.exc v)))):=by show(if _ then _ else _)=_;rw[if_pos hx]
tm z1e:trgH i (.nx e)=.nx (e.set i .no):=rfl
end D
namespace Q
open PySem L2 D
variable{b:Bool}{j:Int}{cs l r w:List Nat}{ins kn ns on ts xs:List Str}{ws:List W}{c d i m n p:Nat}{K:PySem.W.Frag}{t x y:Str}{mg:Str->Option Value}{α:Type}
seal DE DF DT DW DA DS DSs DTs DO DFm PE PT PW PA PS PSs PG PGs PI PF PTs PC OpR UnR IxR CallR TruR MtR MtM SlR PO
tm us1{P:List α->Prop}(h:∀x0,P [x0]):∀us:List α,us.length=1->P us
 |[x0],_=>h x0
tm us2{P:List α->Prop}(h:∀x0 x1,P [x0,x1]):∀us:List α,us.length=2->P us
 |[x0,x1],_=>h x0 x1
tm us3{P:List α->Prop}(h:∀x0 x1 x2,P [x0,x1,x2]):∀us:List α,us.length=3->P us
 |[x0,x1,x2],_=>h x0 x1 x2
nD top(i:Nat):Stmt:=PySem.Challenge.pw_circuits_k74_sheets_shown.main.body.getD i (.Pass ⟨0,0,0,0⟩)
nD q9f:List (Str×W):=[("in", (.tup [(.str "")])),("held", (.tup [(.str "in"),(.str "held")])),("out", (.tup [(.str "in"),(.str "held"),(.str "out")]))]
nD q1c:List (Str×Int):=[("(", 0),("or", 1),("odd", 2),("and", 3),("not", 4)]
nD q52:List (Str×Int):=[("in", 3),("held", 4),("out", 6)]
structure Blt(P:Program)(w:World)(K:PySem.W.Frag)(mg:Str->Option Value):Prop where
 b_ValueError:mg "ValueError"=none
 b_all:mg "all"=none
 b_enumerate:mg "enumerate"=none
 b_int:mg "int"=none
 b_isinstance:mg "isinstance"=none
 b_len:mg "len"=none
 b_list:mg "list"=none
 b_max:mg "max"=none
 b_range:mg "range"=none
 b_str:mg "str"=none
 b_tuple:mg "tuple"=none
 b_zip:mg "zip"=none
 t_TIGHTNESS:∃d,mg "TIGHTNESS"=some (.ref d)/\TabK P w K d q1c
 t_MOST_NAMES:∃d,mg "MOST_NAMES"=some (.ref d)/\TabK P w K d q52
 t_BEHIND:∃d,mg "BEHIND"=some (.ref d)/\TabC P w K d q9f
structure Adr where
 CircuitError:Addr
 NoPlace:Addr
 NoName:Addr
 BadText:Addr
 BadSheet:Addr
 WORDS:Value
 JOINING:Value
 LONGEST_NAME:Value
 MOST_BRACKETS:Value
 LOOSEST_WORD:Value
 WHOLE:Value
 ROW_WORDS:Value
 FIRST_TRUTHS:Value
variable{a:Adr}
structure Exs(K:PySem.W.Frag)(mg:Str->Option Value)(a:Adr):Prop where
 z:True
 m_CircuitError:mg "CircuitError"=some (.ref a.CircuitError)
 m_NoPlace:mg "NoPlace"=some (.ref a.NoPlace)
 m_NoName:mg "NoName"=some (.ref a.NoName)
 m_BadText:mg "BadText"=some (.ref a.BadText)
 m_BadSheet:mg "BadSheet"=some (.ref a.BadSheet)
 m_WORDS:mg "WORDS"=some a.WORDS
 m_JOINING:mg "JOINING"=some a.JOINING
 m_LONGEST_NAME:mg "LONGEST_NAME"=some a.LONGEST_NAME
 m_MOST_BRACKETS:mg "MOST_BRACKETS"=some a.MOST_BRACKETS
 m_LOOSEST_WORD:mg "LOOSEST_WORD"=some a.LOOSEST_WORD
 m_WHOLE:mg "WHOLE"=some a.WHOLE
 m_ROW_WORDS:mg "ROW_WORDS"=some a.ROW_WORDS
 m_FIRST_TRUTHS:mg "FIRST_TRUTHS"=some a.FIRST_TRUTHS
 g_WORDS:conIn K (.tup [(.str "yes"),(.str "no"),(.str "not"),(.str "and"),(.str "odd"),(.str "or")]) a.WORDS=true
 g_JOINING:conIn K (.tup [(.str "and"),(.str "odd"),(.str "or")]) a.JOINING=true
 g_LONGEST_NAME:conIn K (.int 8) a.LONGEST_NAME=true
 g_MOST_BRACKETS:conIn K (.int 12) a.MOST_BRACKETS=true
 g_LOOSEST_WORD:conIn K (.int 1) a.LOOSEST_WORD=true
 g_WHOLE:conIn K (.int 5) a.WHOLE=true
 g_ROW_WORDS:conIn K (.tup [(.str "in"),(.str "held"),(.str "out")]) a.ROW_WORDS=true
 g_FIRST_TRUTHS:conIn K (.tup [(.str "yes"),(.str "no")]) a.FIRST_TRUTHS=true
 e_BadSheet:excIn K a.BadSheet a.CircuitError=true
 e_BadText:excIn K a.BadText a.CircuitError=true
 e_NoName:excIn K a.NoName a.CircuitError=true
 e_NoPlace:excIn K a.NoPlace a.CircuitError=true
 c_BadSheet:excClsIn K a.BadSheet=true
 x_BadSheet_CircuitError:exmOne K (.ref a.BadSheet) (.ref a.CircuitError)=some true
 k_BadSheet_ValueError:kitOne K (.ref a.BadSheet) (.type "ValueError")=some true
 k_BadSheet_NoName:kitOne K (.ref a.BadSheet) (.ref a.NoName)=some false
 k_BadSheet_NoPlace:kitOne K (.ref a.BadSheet) (.ref a.NoPlace)=some false
 c_BadText:excClsIn K a.BadText=true
 x_BadText_CircuitError:exmOne K (.ref a.BadText) (.ref a.CircuitError)=some true
 k_BadText_ValueError:kitOne K (.ref a.BadText) (.type "ValueError")=some true
 k_BadText_NoName:kitOne K (.ref a.BadText) (.ref a.NoName)=some false
 k_BadText_NoPlace:kitOne K (.ref a.BadText) (.ref a.NoPlace)=some false
 c_NoName:excClsIn K a.NoName=true
 x_NoName_CircuitError:exmOne K (.ref a.NoName) (.ref a.CircuitError)=some true
 k_NoName_ValueError:kitOne K (.ref a.NoName) (.type "ValueError")=some true
 k_NoName_NoName:kitOne K (.ref a.NoName) (.ref a.NoName)=some true
 k_NoName_NoPlace:kitOne K (.ref a.NoName) (.ref a.NoPlace)=some false
 c_NoPlace:excClsIn K a.NoPlace=true
 x_NoPlace_CircuitError:exmOne K (.ref a.NoPlace) (.ref a.CircuitError)=some true
 k_NoPlace_ValueError:kitOne K (.ref a.NoPlace) (.type "ValueError")=some true
 k_NoPlace_NoName:kitOne K (.ref a.NoPlace) (.ref a.NoName)=some false
 k_NoPlace_NoPlace:kitOne K (.ref a.NoPlace) (.ref a.NoPlace)=some true
 t_NoneType_str:kitOne K (.type "NoneType") (.type "str")=some false
 t_bool_str:kitOne K (.type "bool") (.type "str")=some false
 t_int_str:kitOne K (.type "int") (.type "str")=some false
 t_str_str:kitOne K (.type "str") (.type "str")=some true
 t_tuple_str:kitOne K (.type "tuple") (.type "str")=some false
 t_list_str:kitOne K (.type "list") (.type "str")=some false
noncomputable abbrev q4z:Nat:=0
noncomputable abbrev q4m:Nat:=1
noncomputable abbrev q9g:Nat:=2
noncomputable abbrev q7y:Nat:=3
noncomputable abbrev q0y:Nat:=4
noncomputable abbrev q4n:Nat:=5
noncomputable abbrev q1f:Nat:=6
noncomputable abbrev q05:Nat:=7
noncomputable abbrev q16:Nat:=8
noncomputable abbrev q20:Nat:=9
noncomputable abbrev q2g:Nat:=10
noncomputable abbrev q1y:Nat:=11
noncomputable abbrev q34:Nat:=12
noncomputable abbrev q3d:Nat:=13
noncomputable abbrev q1t:Nat:=14
noncomputable abbrev q4b:Nat:=15
noncomputable abbrev q3e:Nat:=16
noncomputable abbrev q2h:Nat:=17
noncomputable abbrev q35:Nat:=18
noncomputable abbrev q1i:Nat:=19
noncomputable abbrev q3s:Nat:=20
noncomputable abbrev q0z:Nat:=21
noncomputable abbrev q36:Nat:=22
noncomputable abbrev q1q:Nat:=23
noncomputable abbrev q1g:Nat:=24
noncomputable abbrev q03:Nat:=25
noncomputable abbrev q1d:Nat:=26
noncomputable abbrev q1r:Nat:=27
noncomputable abbrev q2i:Nat:=28
noncomputable abbrev q14:Nat:=29
noncomputable abbrev q1p:Nat:=30
noncomputable abbrev q2j:Nat:=31
noncomputable abbrev q1m:Nat:=32
noncomputable abbrev q15:Nat:=33
noncomputable abbrev q1j:Nat:=34
noncomputable abbrev q40:Nat:=35
noncomputable abbrev q2k:Nat:=36
noncomputable abbrev x0e:Nat:=37
noncomputable abbrev x2g:Stmt:=top 7
tm x7o:FnScope ["things", "place"] ["things", "place"] (defScope x2g):=⟨rfl,rfl,rfl,by decide +kernel,rfl,by decide +kernel,by decide +kernel⟩
noncomputable abbrev x8o:Stmt:=top 16
tm y57:FnScope ["form", "names"] ["form", "names"] (defScope x8o):=⟨rfl,rfl,rfl,by decide +kernel,rfl,by decide +kernel,by decide +kernel⟩
noncomputable abbrev y2v:Stmt:=top 17
tm sc_read:FnScope ["text", "names", "places", "pieces", "wrong"] ["text", "names"] (defScope y2v):=⟨rfl,rfl,rfl,by decide +kernel,rfl,by decide +kernel,by decide +kernel⟩
noncomputable abbrev x8p:Stmt:=top 18
tm sc_fault:FnScope ["text", "names", "places"] ["text", "names"] (defScope x8p):=⟨rfl,rfl,rfl,by decide +kernel,rfl,by decide +kernel,by decide +kernel⟩
noncomputable abbrev q61:Stmt:=top 19
tm sc_places_by_name:FnScope ["names", "places", "place", "name"] ["names"] (defScope q61):=⟨rfl,rfl,rfl,by decide +kernel,rfl,by decide +kernel,by decide +kernel⟩
noncomputable abbrev q9h:Stmt:=top 20
tm x91:FnScope ["name"] ["name"] (defScope q9h):=⟨rfl,rfl,rfl,by decide +kernel,rfl,by decide +kernel,by decide +kernel⟩
noncomputable abbrev q6a:Stmt:=top 21
tm q9i:FnScope ["sign"] ["sign"] (defScope q6a):=⟨rfl,rfl,rfl,by decide +kernel,rfl,by decide +kernel,by decide +kernel⟩
noncomputable abbrev x4f:Stmt:=top 22
tm sc_text_of:FnScope ["form", "names", "word", "own", "inner", "left", "right"] ["form", "names"] (defScope x4f):=⟨rfl,rfl,rfl,by decide +kernel,rfl,by decide +kernel,by decide +kernel⟩
noncomputable abbrev x00:Stmt:=top 23
tm sc_bracketed:FnScope ["form", "least", "names", "text"] ["form", "least", "names"] (defScope x00):=⟨rfl,rfl,rfl,by decide +kernel,rfl,by decide +kernel,by decide +kernel⟩
noncomputable abbrev x01:Stmt:=top 24
tm sc_pieces_of:FnScope ["text", "pieces", "place", "end"] ["text"] (defScope x01):=⟨rfl,rfl,rfl,by decide +kernel,rfl,by decide +kernel,by decide +kernel⟩
noncomputable abbrev q7z:Stmt:=top 25
tm sc_end_of_piece:FnScope ["text", "place", "end"] ["text", "place"] (defScope q7z):=⟨rfl,rfl,rfl,by decide +kernel,rfl,by decide +kernel,by decide +kernel⟩
noncomputable abbrev q8s:Stmt:=top 26
tm sc_first_fault:FnScope ["pieces", "places", "length", "awaits_form", "brackets", "place", "piece", "fine"] ["pieces", "places", "length"] (defScope q8s):=⟨rfl,rfl,rfl,by decide +kernel,rfl,by decide +kernel,by decide +kernel⟩
noncomputable abbrev x02:Stmt:=top 27
tm x6s:FnScope ["piece", "brackets", "places"] ["piece", "brackets", "places"] (defScope x02):=⟨rfl,rfl,rfl,by decide +kernel,rfl,by decide +kernel,by decide +kernel⟩
noncomputable abbrev q9j:Stmt:=top 28
tm x4x:FnScope ["piece", "brackets"] ["piece", "brackets"] (defScope q9j):=⟨rfl,rfl,rfl,by decide +kernel,rfl,by decide +kernel,by decide +kernel⟩
noncomputable abbrev q62:Stmt:=top 29
tm sc_form_of_pieces:FnScope ["pieces", "places", "forms", "waiting", "place", "piece"] ["pieces", "places"] (defScope q62):=⟨rfl,rfl,rfl,by decide +kernel,rfl,by decide +kernel,by decide +kernel⟩
noncomputable abbrev x6t:Stmt:=top 30
tm sc_settle:FnScope ["forms", "waiting", "least", "word", "last"] ["forms", "waiting", "least"] (defScope x6t):=⟨rfl,rfl,rfl,by decide +kernel,rfl,by decide +kernel,by decide +kernel⟩
noncomputable abbrev q9k:Stmt:=top 31
tm x4y:FnScope ["piece", "places"] ["piece", "places"] (defScope q9k):=⟨rfl,rfl,rfl,by decide +kernel,rfl,by decide +kernel,by decide +kernel⟩
noncomputable abbrev q3f:Stmt:=top 37
tm sc_read_sheet:FnScope ["text", "parts", "names", "forms", "firsts", "cells"] ["text"] (defScope q3f):=⟨rfl,rfl,rfl,by decide +kernel,rfl,by decide +kernel,by decide +kernel⟩
noncomputable abbrev x03:Stmt:=top 38
tm sc_fault_row:FnScope ["text", "found", "names", "part"] ["text"] (defScope x03):=⟨rfl,rfl,rfl,by decide +kernel,rfl,by decide +kernel,by decide +kernel⟩
noncomputable abbrev q63:Stmt:=top 39
tm sc_standing_parts:FnScope ["rows", "parts", "number", "row", "part"] ["rows"] (defScope q63):=⟨rfl,rfl,rfl,by decide +kernel,rfl,by decide +kernel,by decide +kernel⟩
noncomputable abbrev q8d:Stmt:=top 40
tm x7p:FnScope ["text"] ["text"] (defScope q8d):=⟨rfl,rfl,rfl,by decide +kernel,rfl,by decide +kernel,by decide +kernel⟩
noncomputable abbrev q8t:Stmt:=top 41
tm sc_part_of_row:FnScope ["row", "number", "sides", "words", "part"] ["row", "number"] (defScope q8t):=⟨rfl,rfl,rfl,by decide +kernel,rfl,by decide +kernel,by decide +kernel⟩
noncomputable abbrev x04:Stmt:=top 42
tm sc_can_stand:FnScope ["part", "ahead", "word", "last", "taken", "other", "name"] ["part", "ahead"] (defScope x04):=⟨rfl,rfl,rfl,by decide +kernel,rfl,by decide +kernel,by decide +kernel⟩
noncomputable abbrev x2h:Stmt:=top 43
tm sc_names_of:FnScope ["parts", "word", "names", "part"] ["parts", "word"] (defScope x2h):=⟨rfl,rfl,rfl,by decide +kernel,rfl,by decide +kernel,by decide +kernel⟩
noncomputable abbrev q53:Stmt:=top 44
tm sc_shown_sheet:FnScope ["names", "circuit", "known", "rows", "name", "cell", "first", "form", "answer"] ["names", "circuit"] (defScope q53):=⟨rfl,rfl,rfl,by decide +kernel,rfl,by decide +kernel,by decide +kernel⟩
noncomputable abbrev q70:Stmt:=top 46
tm x2i:FnScope ["_law_script", "_law_k"] ["_law_script", "_law_k"] (defScope q70):=⟨rfl,rfl,rfl,by decide +kernel,rfl,by decide +kernel,by decide +kernel⟩
noncomputable abbrev q9l:Stmt:=top 47
tm x4z:FnScope ["_law_cell", "_law_k"] ["_law_cell", "_law_k"] (defScope q9l):=⟨rfl,rfl,rfl,by decide +kernel,rfl,by decide +kernel,by decide +kernel⟩
noncomputable abbrev q71:Stmt:=top 48
tm x2j:FnScope ["_law_cell", "_law_many"] ["_law_cell", "_law_many"] (defScope q71):=⟨rfl,rfl,rfl,by decide +kernel,rfl,by decide +kernel,by decide +kernel⟩
noncomputable abbrev q72:Stmt:=top 49
tm sc__law_form_by:FnScope ["_law_cells", "_law_many", "_law_stack", "_law_cell", "_law_word_here", "_law_rest", "_law_last", "_law_made", "_law_k"] ["_law_cells", "_law_many"] (defScope q72):=⟨rfl,rfl,rfl,by decide +kernel,rfl,by decide +kernel,by decide +kernel⟩
noncomputable abbrev q41:Stmt:=top 51
tm sc__law_names_by:FnScope ["_law_cell", "_law_count", "_law_letters", "_law_some", "_law_k", "_law_letter", "_law_size", "_law_at", "_law_name", "_law_tail"] ["_law_cell", "_law_count"] (defScope q41):=⟨rfl,rfl,rfl,by decide +kernel,rfl,by decide +kernel,by decide +kernel⟩
noncomputable abbrev q18:Stmt:=top 52
tm sc__law_circuit_by:FnScope ["_law_script", "_law_most", "_law_cell", "_law_many", "_law_cells", "_law_outs", "_law_forms", "_law_k", "_law_seed", "_law_count", "_law_some", "_law_first", "_law_held"] ["_law_script", "_law_most"] (defScope q18):=⟨rfl,rfl,rfl,by decide +kernel,rfl,by decide +kernel,by decide +kernel⟩
noncomputable abbrev q9m:Stmt:=top 53
tm sc__law_three:FnScope ["_law_script", "_law_circuit", "_law_count", "_law_names"] ["_law_script", "_law_circuit"] (defScope q9m):=⟨rfl,rfl,rfl,by decide +kernel,rfl,by decide +kernel,by decide +kernel⟩
noncomputable abbrev x05:Stmt:=top 54
tm sc__law_word:FnScope ["_law_names", "_law_circuit", "_law_caught", "e", "_law_words"] ["_law_names", "_law_circuit"] (defScope x05):=⟨rfl,rfl,rfl,by decide +kernel,rfl,by decide +kernel,by decide +kernel⟩
noncomputable abbrev x2k:Stmt:=top 55
tm x7q:FnScope ["_law_some", "_law_at", "_law_thing"] ["_law_some", "_law_at", "_law_thing"] (defScope x2k):=⟨rfl,rfl,rfl,by decide +kernel,rfl,by decide +kernel,by decide +kernel⟩
noncomputable abbrev q64:Stmt:=top 56
tm sc__law_bad_names:FnScope ["_law_names", "_law_cell", "_law_known", "_law_bad", "_law_at"] ["_law_names", "_law_cell"] (defScope q64):=⟨rfl,rfl,rfl,by decide +kernel,rfl,by decide +kernel,by decide +kernel⟩
noncomputable abbrev x2l:Stmt:=top 57
tm sc__law_far:FnScope ["_law_circuit", "_law_cell", "_law_far_here", "_law_at"] ["_law_circuit", "_law_cell"] (defScope x2l):=⟨rfl,rfl,rfl,by decide +kernel,rfl,by decide +kernel,by decide +kernel⟩
noncomputable abbrev q73:Stmt:=top 58
tm sc__law_refused:FnScope ["_law_names", "_law_circuit", "_law_cell", "_law_way", "_law_bent"] ["_law_names", "_law_circuit", "_law_cell"] (defScope q73):=⟨rfl,rfl,rfl,by decide +kernel,rfl,by decide +kernel,by decide +kernel⟩
noncomputable abbrev x0f:Stmt:=top 59
tm sc_law:FnScope ["_law_script", "_law_circuit", "_law_names", "_law_known", "_law_due", "_law_k", "_law_word_here", "_law_told", "_law_cell", "_law_found"] ["_law_script"] (defScope x0f):=⟨rfl,rfl,rfl,by decide +kernel,rfl,by decide +kernel,by decide +kernel⟩
nD q6d(K:PySem.W.Frag)(a:Adr)(r:Nat->List W->FR):List S->SR:=
 (dSeq (dIfS (dOr (dTest (dOp ltW (dVar 1) (dC (.int 0)))) (dTest (dOp geW (dVar 1) (dFn len1 (dCons (dVar 0) dNil)))))
  (dRaise a.NoPlace (dCons (dC (.str "there is nothing for a place of the form")) dNil))
  dNx)
  (dRet (dOp ixW (dVar 0) (dVar 1))))
nD x0g(K:PySem.W.Frag)(a:Adr)(r:Nat->List W->FR):List S->SR:=
 (dSeq (dDrop (dCall (r q0y) (dCons (dVar 1) dNil)))
  (dRet (dCall (r q05) (dCons (dVar 0) (dCons (dVar 1) dNil)))))
nD x2m(K:PySem.W.Frag)(a:Adr)(r:Nat->List W->FR):List S->SR:=
 (dSeq (dSet 2 (dCall (r q0y) (dCons (dVar 1) dNil)))
  (dSeq (dSet 3 (dCall (r q20) (dCons (dVar 0) dNil)))
  (dSeq (dSet 4 (dCall (r q1y) (dCons (dVar 3) (dCons (dVar 2) (dCons (dFn len1 (dCons (dVar 0) dNil)) dNil)))))
  (dSeq (dIfS (dTest (dOp nisW (dVar 4) (dC .non)))
  (dRaise a.BadText (dCons (dFstr (fTxt "the text can't be read from " (fVal (dVar 4) (fTxt " on" fNil)))) dNil))
  dNx)
  (dRet (dCall (r q1t) (dCons (dVar 3) (dCons (dVar 2) dNil))))))))
nD x0h(K:PySem.W.Frag)(a:Adr)(r:Nat->List W->FR):List S->SR:=
 (dSeq (dSet 2 (dCall (r q0y) (dCons (dVar 1) dNil)))
  (dRet (dCall (r q1y) (dCons (dCall (r q20) (dCons (dVar 0) dNil)) (dCons (dVar 2) (dCons (dFn len1 (dCons (dVar 0) dNil)) dNil))))))
nD q09(K:PySem.W.Frag)(a:Adr)(r:Nat->List W->FR):List S->SR:=
 (dSeq (dIfS (dNot (dTru (dCall (r q4n) (dCons (dVar 3) dNil))))
  (dRaise a.NoName (dCons (dFstr (fRepr (dVar 3) (fTxt " is no name" fNil))) dNil))
  dNx)
  (dSeq (dIfS (dBorrowT (dTest (dOp inD (dVar 3) (dVar 1))))
  (dRaise a.NoName (dCons (dFstr (fTxt "the name " (fVal (dVar 3) (fTxt " stands twice" fNil)))) dNil))
  dNx)
  (dPutD 1 (dVar 2) (dVar 3))))
nD q2q(K:PySem.W.Frag)(a:Adr)(r:Nat->List W->FR):List S->SR:=
 (dSeq (dSetD 1)
  (dSeq (dForP 2 3 (srcET (dCons (dVar 0) dNil))
  (q09 K a r))
  (dRetD 1)))
nD x06(K:PySem.W.Frag)(a:Adr)(r:Nat->List W->FR):Den W:=
 (dCall (r q1f) (dCons (dVar 0) dNil))
nD q7i(K:PySem.W.Frag)(a:Adr)(r:Nat->List W->FR):List S->SR:=
 (dSeq (dIfS (dOr (dTest (dOp ltW (dFn len1 (dCons (dVar 0) dNil)) (dC (.int 1)))) (dOr (dTest (dOp gtW (dFn len1 (dCons (dVar 0) dNil)) (dC (.int 8)))) (dTest (dOp inW (dVar 0) (dC (.tup [(.str "yes"),(.str "no"),(.str "not"),(.str "and"),(.str "odd"),(.str "or")]))))))
  (dRet (dC (.bl false)))
  dNx)
  (dRet (dFn all1 (dCons (dFz (dCompS [] (dVar 0) dYes (x06 K a r))) dNil))))
nD q19(K:PySem.W.Frag)(a:Adr)(r:Nat->List W->FR):List S->SR:=
 (dRet (dAndV (dOp leS (dC (.str "a")) (dVar 0)) (dOp leS (dVar 0) (dC (.str "z")))))
nD q3g(K:PySem.W.Frag)(a:Adr)(r:Nat->List W->FR):List S->SR:=
 (dSeq (dSet 2 (dOp ixW (dVar 0) (dC (.int 0))))
  (dSeq (dIfS (dTest (dOp eq2 (dVar 2) (dC (.str "is"))))
  (dRet (dIf (dTru (dOp ixW (dVar 0) (dC (.int 1)))) (dC (.str "yes")) (dC (.str "no"))))
  dNx)
  (dSeq (dIfS (dTest (dOp eq2 (dVar 2) (dC (.str "at"))))
  (dRet (dCall (r q4z) (dCons (dVar 1) (dCons (dOp ixW (dVar 0) (dC (.int 1))) dNil))))
  dNx)
  (dSeq (dSet 3 (dUn (tabW q1c) (dVar 2)))
  (dSeq (dIfS (dTest (dOp eq2 (dVar 2) (dC (.str "not"))))
  (dSeq (dSet 4 (dCall (r q16) (dCons (dOp ixW (dVar 0) (dC (.int 1))) (dCons (dVar 3) (dCons (dVar 1) dNil)))))
  (dRet (dFstr (fTxt "not " (fVal (dVar 4) fNil)))))
  dNx)
  (dSeq (dSet 5 (dCall (r q16) (dCons (dOp ixW (dVar 0) (dC (.int 1))) (dCons (dVar 3) (dCons (dVar 1) dNil)))))
  (dSeq (dSet 6 (dCall (r q16) (dCons (dOp ixW (dVar 0) (dC (.int 2))) (dCons (dOp addX (dVar 3) (dC (.int 1))) (dCons (dVar 1) dNil)))))
  (dRet (dFstr (fVal (dVar 5) (fTxt " " (fVal (dVar 2) (fTxt " " (fVal (dVar 6) fNil))))))))))))))
nD q5q(K:PySem.W.Frag)(a:Adr)(r:Nat->List W->FR):List S->SR:=
 (dSeq (dSet 3 (dCall (r q05) (dCons (dVar 0) (dCons (dVar 2) dNil))))
  (dSeq (dIfS (dTest (dOp ltW (dFn (tabGet q1c) (dCons (dOp ixW (dVar 0) (dC (.int 0))) (dCons (dC (.int 5)) dNil))) (dVar 1)))
  (dRet (dFstr (fTxt "(" (fVal (dVar 3) (fTxt ")" fNil)))))
  dNx)
  (dRet (dVar 3))))
nD q2x(K:PySem.W.Frag)(a:Adr)(r:Nat->List W->FR):Den Bool:=
 (dTest (dOp ltW (dVar 2) (dFn len1 (dCons (dVar 0) dNil))))
nD q2y(K:PySem.W.Frag)(a:Adr)(r:Nat->List W->FR):List S->SR:=
 (dSeq (dSet 3 (dCall (r q2g) (dCons (dVar 0) (dCons (dVar 2) dNil))))
  (dSeq (dIfS (dTest (dOp ne2 (dOp ixW (dVar 0) (dVar 2)) (dC (.str " "))))
  (dApp 1 (dCons (dTup (dCons (dVar 2) (dCons (dSlX (dVar 0) (dPart (dVar 2)) (dPart (dVar 3))) dNil))) dNil))
  dNx)
  (dSet 2 (dVar 3))))
nD q5r(K:PySem.W.Frag)(a:Adr)(r:Nat->List W->FR):List S->SR:=
 (dSeq (dSetO 1 (dLst dNil))
  (dSeq (dSet 2 (dC (.int 0)))
  (dSeq (whileD (q2x K a r)
  (q2y K a r) 1000000)
  (dRetO 1))))
nD q2r(K:PySem.W.Frag)(a:Adr)(r:Nat->List W->FR):Den Bool:=
 (dAnd (dTest (dOp ltW (dVar 2) (dFn len1 (dCons (dVar 0) dNil)))) (dTru (dCall (r q1f) (dCons (dOp ixW (dVar 0) (dVar 2)) dNil))))
nD q2s(K:PySem.W.Frag)(a:Adr)(r:Nat->List W->FR):List S->SR:=
 (dSet 2 (dOp addX (dVar 2) (dC (.int 1))))
nD q3t(K:PySem.W.Frag)(a:Adr)(r:Nat->List W->FR):List S->SR:=
 (dSeq (dSet 2 (dVar 1))
  (dSeq (whileD (q2r K a r)
  (q2s K a r) 1000000)
  (dRet (dFn max2 (dCons (dVar 2) (dCons (dOp addX (dVar 1) (dC (.int 1))) dNil))))))
nD q1e(K:PySem.W.Frag)(a:Adr)(r:Nat->List W->FR):List S->SR:=
 (dSeq (dIfS (dTru (dVar 3))
  (dSet 7 (dCall (r q34) (dCons (dVar 6) (dCons (dVar 4) (dCons (dVar 1) dNil)))))
  (dSet 7 (dCall (r q3d) (dCons (dVar 6) (dCons (dVar 4) dNil)))))
  (dSeq (dIfS (dNot (dTru (dVar 7)))
  (dRet (dVar 5))
  dNx)
  (dIfS (dTest (dOp eq2 (dVar 6) (dC (.str "("))))
  (dSet 4 (dOp addX (dVar 4) (dC (.int 1))))
  (dIfS (dTest (dOp eq2 (dVar 6) (dC (.str ")"))))
  (dSet 4 (dOp subW (dVar 4) (dC (.int 1))))
  (dSet 3 (dOrV (dOp eq2 (dVar 6) (dC (.str "not"))) (dOp inW (dVar 6) (dC (.tup [(.str "and"),(.str "odd"),(.str "or")])))))))))
nD q38(K:PySem.W.Frag)(a:Adr)(r:Nat->List W->FR):List S->SR:=
 (dSeq (dSet 3 (dC (.bl true)))
  (dSeq (dSet 4 (dC (.int 0)))
  (dSeq (dForP 5 6 (srcP (dVar 0))
  (q1e K a r))
  (dSeq (dIfS (dOr (dTru (dVar 3)) (dTest (dOp gtW (dVar 4) (dC (.int 0)))))
  (dRet (dVar 2))
  dNx)
  (dRet (dC .non))))))
nD q5s(K:PySem.W.Frag)(a:Adr)(r:Nat->List W->FR):List S->SR:=
 (dSeq (dIfS (dTest (dOp eq2 (dVar 0) (dC (.str "("))))
  (dRet (dOp ltW (dVar 1) (dC (.int 12))))
  dNx)
  (dRet (dOrV (dOp inW (dVar 0) (dTup (dCons (dC (.str "yes")) (dCons (dC (.str "no")) (dCons (dC (.str "not")) dNil))))) (dOp inD (dVar 0) (dVar 2)))))
nD q42(K:PySem.W.Frag)(a:Adr)(r:Nat->List W->FR):List S->SR:=
 (dSeq (dIfS (dTest (dOp eq2 (dVar 0) (dC (.str ")"))))
  (dRet (dOp gtW (dVar 1) (dC (.int 0))))
  dNx)
  (dRet (dOp inW (dVar 0) (dC (.tup [(.str "and"),(.str "odd"),(.str "or")])))))
nD q0x(K:PySem.W.Frag)(a:Adr)(r:Nat->List W->FR):List S->SR:=
 (dIfS (dOr (dTest (dOp eq2 (dVar 5) (dC (.str "(")))) (dTest (dOp eq2 (dVar 5) (dC (.str "not")))))
  (dApp 3 (dCons (dVar 5) dNil))
  (dIfS (dTest (dOp eq2 (dVar 5) (dC (.str ")"))))
  (dSeq (dMut2 (r q4b) 2 3 (dCons (dC (.int 1)) dNil))
  (dDrop (dPop 3)))
  (dIfS (dTest (dOp inW (dVar 5) (dC (.tup [(.str "and"),(.str "odd"),(.str "or")]))))
  (dSeq (dMut2 (r q4b) 2 3 (dCons (dUn (tabW q1c) (dVar 5)) dNil))
  (dApp 3 (dCons (dVar 5) dNil)))
  (dApp 2 (dCons (dCall (r q3e) (dCons (dVar 5) (dCons (dVar 1) dNil))) dNil)))))
nD q2t(K:PySem.W.Frag)(a:Adr)(r:Nat->List W->FR):List S->SR:=
 (dSeq (dSetO 2 (dLst dNil))
  (dSeq (dSetO 3 (dLst dNil))
  (dSeq (dForP 4 5 (srcP (dVar 0))
  (q0x K a r))
  (dSeq (dMut2 (r q4b) 2 3 (dCons (dC (.int 1)) dNil))
  (dRet (dIxV 2 (dC (.int 0))))))))
nD q3u(K:PySem.W.Frag)(a:Adr)(r:Nat->List W->FR):Den Bool:=
 (dAnd (dTest (dOp gtW (dFnV 1 len1) (dC (.int 0)))) (dTest (dOp geW (dUn (tabW q1c) (dIxV 1 (dUn negW (dC (.int 1))))) (dVar 2))))
nD q43(K:PySem.W.Frag)(a:Adr)(r:Nat->List W->FR):List S->SR:=
 (dSeq (dSet 3 (dPop 1))
  (dSeq (dSet 4 (dPop 0))
  (dIfS (dTest (dOp eq2 (dVar 3) (dC (.str "not"))))
  (dApp 0 (dCons (dTup (dCons (dC (.str "not")) (dCons (dVar 4) dNil))) dNil))
  (dApp 0 (dCons (dTup (dCons (dVar 3) (dCons (dPop 0) (dCons (dVar 4) dNil)))) dNil)))))
nD q8e(K:PySem.W.Frag)(a:Adr)(r:Nat->List W->FR):List S->SR:=
 (whileD (q3u K a r)
  (q43 K a r) 1000000)
nD q44(K:PySem.W.Frag)(a:Adr)(r:Nat->List W->FR):List S->SR:=
 (dSeq (dIfS (dTest (dOp eq2 (dVar 0) (dC (.str "yes"))))
  (dRet (dTup (dCons (dC (.str "is")) (dCons (dC (.bl true)) dNil))))
  dNx)
  (dSeq (dIfS (dTest (dOp eq2 (dVar 0) (dC (.str "no"))))
  (dRet (dTup (dCons (dC (.str "is")) (dCons (dC (.bl false)) dNil))))
  dNx)
  (dRet (dTup (dCons (dC (.str "at")) (dCons (dOp ixD (dVar 1) (dVar 0)) dNil))))))
nD q5e(K:PySem.W.Frag)(a:Adr)(r:Nat->List W->FR):Den W:=
 (dOp eq2 (dOp ixS (dVar 0) (dC (.str "first"))) (dC (.str "yes")))
nD q5f(K:PySem.W.Frag)(a:Adr)(r:Nat->List W->FR):Den Bool:=
 (dTest (dOp eq2 (dOp ixS (dVar 0) (dC (.str "word"))) (dC (.str "held"))))
nD q5g(K:PySem.W.Frag)(a:Adr)(r:Nat->List W->FR):Den W:=
 (dCall (r q9g) (dCons (dOp ixS (dVar 0) (dC (.str "form"))) (dCons (dOp addX (dOp ixW (dVar 1) (dC (.int 0))) (dOp ixW (dVar 1) (dC (.int 1)))) dNil)))
nD q5h(K:PySem.W.Frag)(a:Adr)(r:Nat->List W->FR):Den Bool:=
 (dTest (dOp ne2 (dOp ixS (dVar 0) (dC (.str "word"))) (dC (.str "in"))))
nD q74(K:PySem.W.Frag)(a:Adr)(r:Nat->List W->FR):Den W:=
 (dCall (r q1q) (dCons (dVar 1) (dCons (dVar 0) dNil)))
nD q45(K:PySem.W.Frag)(a:Adr)(r:Nat->List W->FR):List S->SR:=
 (dSeq (dIfS (dTest (dOp nisW (dCall (r q35) (dCons (dVar 0) dNil)) (dC .non)))
  (dRaise a.BadSheet (dCons (dC (.str "the text is no sheet")) dNil))
  dNx)
  (dSeq (dSet 1 (dOp ixW (dCall (r q1i) (dCons (dMeth "str" splitW (dVar 0) (dCons (dC (.str "\n")) dNil)) dNil)) (dC (.int 0))))
  (dSeq (dSet 2 (dFn tup1 (dCons (dFz (dComp [1] (dC (.tup [(.str "in"),(.str "held"),(.str "out")])) dYes (q74 K a r))) dNil)))
  (dSeq (dSet 3 (dFz (dComp [2] (dVar 1) (q5h K a r) (q5g K a r))))
  (dSeq (dSet 4 (dFz (dComp [] (dVar 1) (q5f K a r) (q5e K a r))))
  (dSeq (dSet 5 (dFn len1 (dCons (dVar 4) dNil)))
  (dRet (dTup (dCons (dVar 2) (dCons (dTup (dCons (dFn len1 (dCons (dOp ixW (dVar 2) (dC (.int 0))) dNil)) (dCons (dFn zip1 (dCons (dVar 4) (dCons (dSlX (dVar 3) dNoPart (dPart (dVar 5))) dNil))) (dCons (dFn tup1 (dCons (dSlX (dVar 3) (dPart (dVar 5)) dNoPart) dNil)) dNil)))) dNil))))))))))
nD q1z(K:PySem.W.Frag)(a:Adr)(r:Nat->List W->FR):List S->SR:=
 (dIfS (dAnd (dTest (dOp ne2 (dOp ixS (dVar 3) (dC (.str "word"))) (dC (.str "in")))) (dTest (dOp nisW (dCall (r q7y) (dCons (dOp ixS (dVar 3) (dC (.str "form"))) (dCons (dVar 2) dNil))) (dC .non))))
  (dRet (dOp ixS (dVar 3) (dC (.str "row"))))
  dNx)
nD q5t(K:PySem.W.Frag)(a:Adr)(r:Nat->List W->FR):List S->SR:=
 (dSeq (dSet 1 (dCall (r q1i) (dCons (dMeth "str" splitW (dVar 0) (dCons (dC (.str "\n")) dNil)) dNil)))
  (dSeq (dIfS (dTest (dOp nisW (dOp ixW (dVar 1) (dC (.int 1))) (dC .non)))
  (dRet (dOp ixW (dVar 1) (dC (.int 1))))
  dNx)
  (dSeq (dSet 2 (dOp addX (dCall (r q1q) (dCons (dOp ixW (dVar 1) (dC (.int 0))) (dCons (dC (.str "in")) dNil))) (dCall (r q1q) (dCons (dOp ixW (dVar 1) (dC (.int 0))) (dCons (dC (.str "held")) dNil)))))
  (dSeq (dFor 3 (dOp ixW (dVar 1) (dC (.int 0)))
  (q1z K a r))
  (dRet (dC .non))))))
nD q1a(K:PySem.W.Frag)(a:Adr)(r:Nat->List W->FR):List S->SR:=
 (dIfS (dTest (dOp gtW (dFn len1 (dCons (dCall (r q3s) (dCons (dVar 3) dNil)) dNil)) (dC (.int 0))))
  (dSeq (dSetDI 4 (r q0z) (dCons (dVar 3) (dCons (dVar 2) dNil)))
  (dSeq (dIfS (dNot (dTru (dBorrow (dCall (r q36) (dCons (dVar 4) (dCons (dVar 1) dNil))))))
  (dRet (dTup (dCons (dVar 1) (dCons (dVar 2) dNil))))
  dNx)
  (dApp 1 (dCons (dVar 4) dNil))))
  dNx)
nD q2u(K:PySem.W.Frag)(a:Adr)(r:Nat->List W->FR):List S->SR:=
 (dSeq (dSetO 1 (dLst dNil))
  (dSeq (dForP 2 3 (srcE (dCons (dVar 0) dNil))
  (q1a K a r))
  (dRet (dTup (dCons (dVar 1) (dCons (dIf (dTest (dOp eq2 (dFnV 1 len1) (dC (.int 0)))) (dFn len1 (dCons (dVar 0) dNil)) (dC .non)) dNil))))))
nD q9n(K:PySem.W.Frag)(a:Adr)(r:Nat->List W->FR):Den W:=
 (dVar 0)
nD q9o(K:PySem.W.Frag)(a:Adr)(r:Nat->List W->FR):Den Bool:=
 (dTest (dOp ne2 (dVar 0) (dC (.str ""))))
nD q6e(K:PySem.W.Frag)(a:Adr)(r:Nat->List W->FR):List S->SR:=
 (dRetF (dComp [] (dMeth "str" splitW (dVar 0) (dCons (dC (.str " ")) dNil)) (q9o K a r) (q9n K a r)))
nD ptT(K:PySem.W.Frag)(a:Adr)(r:Nat->List W->FR):List S->SR:=
 (dSeq (dIfS (dAnd (dTest (dOp eq2 (dSlX (dVar 3) dNoPart (dPart (dC (.int 1)))) (dFz (dLst (dCons (dC (.str "in")) dNil))))) (dTest (dOp eq2 (dOp ixW (dVar 2) (dC (.int 1))) (dC (.str "")))))
  (dUpd 4 ["word", "names"] (dCons (dC (.str "in")) (dCons (dFn tup1 (dCons (dSlX (dVar 3) (dPart (dC (.int 1))) dNoPart) dNil)) dNil)))
  (dIfS (dAnd (dTest (dOp eq2 (dSlX (dVar 3) dNoPart (dPart (dC (.int 1)))) (dFz (dLst (dCons (dC (.str "held")) dNil))))) (dAnd (dTest (dOp eq2 (dOp ixW (dVar 2) (dC (.int 1))) (dC (.str "=")))) (dAnd (dTest (dOp eq2 (dFn len1 (dCons (dVar 3) dNil)) (dC (.int 3)))) (dTest (dOp inW (dOp ixW (dVar 3) (dC (.int 2))) (dC (.tup [(.str "yes"),(.str "no")])))))))
  (dUpd 4 ["word", "names", "first"] (dCons (dC (.str "held")) (dCons (dTup (dCons (dOp ixW (dVar 3) (dC (.int 1))) dNil)) (dCons (dOp ixW (dVar 3) (dC (.int 2))) dNil))))
  (dIfS (dAnd (dTest (dOp eq2 (dSlX (dVar 3) dNoPart (dPart (dC (.int 1)))) (dFz (dLst (dCons (dC (.str "out")) dNil))))) (dAnd (dTest (dOp eq2 (dOp ixW (dVar 2) (dC (.int 1))) (dC (.str "=")))) (dTest (dOp eq2 (dFn len1 (dCons (dVar 3) dNil)) (dC (.int 2))))))
  (dUpd 4 ["word", "names"] (dCons (dC (.str "out")) (dCons (dTup (dCons (dOp ixW (dVar 3) (dC (.int 1))) dNil)) dNil)))
  dNx)))
  (dRetW 4))
nD q39(K:PySem.W.Frag)(a:Adr)(r:Nat->List W->FR):List S->SR:=
 (dSeq (dSet 2 (dMeth "str" partW (dVar 0) (dCons (dC (.str "=")) dNil)))
  (dSeq (dSet 3 (dCall (r q3s) (dCons (dOp ixW (dVar 2) (dC (.int 0))) dNil)))
  (dSeq (dSetDS 4 ["row", "word", "names", "first", "form"] (dCons (dVar 1) (dCons (dC (.str "")) (dCons (dTup dNil) (dCons (dC .non) (dCons (dOp ixW (dVar 2) (dC (.int 2))) dNil))))))
  (ptT K a r))))
nD q10(K:PySem.W.Frag)(a:Adr)(r:Nat->List W->FR):List S->SR:=
 (dSeq (dIfS (dOr (dBorrowT (dTest (dOp inW (dVar 6) (dVar 4)))) (dOr (dTest (dOp inW (dVar 6) (dC (.tup [(.str "in"),(.str "held"),(.str "out")])))) (dNot (dTru (dCall (r q4n) (dCons (dVar 6) dNil))))))
  (dRet (dC (.bl false)))
  dNx)
  (dApp 4 (dCons (dVar 6) dNil)))
nD q02(K:PySem.W.Frag)(a:Adr)(r:Nat->List W->FR):List S->SR:=
 (dExt 4 (dCons (dCall (r q1q) (dCons (dVar 1) (dCons (dVar 5) dNil))) dNil))
nD q5u(K:PySem.W.Frag)(a:Adr)(r:Nat->List W->FR):List S->SR:=
 (dSeq (dSet 2 (dOp ixS (dVar 0) (dC (.str "word"))))
  (dSeq (dSet 3 (dIf (dTest (dOp gtW (dFn len1 (dCons (dVar 1) dNil)) (dC (.int 0)))) (dOp ixS (dOp ixW (dVar 1) (dUn negW (dC (.int 1)))) (dC (.str "word"))) (dC (.str ""))))
  (dSeq (dIfS (dOr (dTest (dOp ninW (dVar 2) (dC (.tup [(.str "in"),(.str "held"),(.str "out")])))) (dTest (dOp ninW (dVar 3) (dUn (tabCW q9f) (dVar 2)))))
  (dRet (dC (.bl false)))
  dNx)
  (dSeq (dIfS (dTest (dOp gtW (dFn len1 (dCons (dOp addX (dCall (r q1q) (dCons (dVar 1) (dCons (dVar 2) dNil))) (dOp ixS (dVar 0) (dC (.str "names")))) dNil)) (dUn (tabW q52) (dVar 2))))
  (dRet (dC (.bl false)))
  dNx)
  (dSeq (dSetO 4 (dLst dNil))
  (dSeq (dFor 5 (dC (.tup [(.str "in"),(.str "held"),(.str "out")]))
  (q02 K a r))
  (dSeq (dFor 6 (dOp ixS (dVar 0) (dC (.str "names")))
  (q10 K a r))
  (dRet (dC (.bl true))))))))))
nD q3h(K:PySem.W.Frag)(a:Adr)(r:Nat->List W->FR):List S->SR:=
 (dIfS (dTest (dOp eq2 (dOp ixS (dVar 3) (dC (.str "word"))) (dVar 1)))
  (dSet 2 (dOp addX (dVar 2) (dOp ixS (dVar 3) (dC (.str "names")))))
  dNx)
nD q6f(K:PySem.W.Frag)(a:Adr)(r:Nat->List W->FR):List S->SR:=
 (dSeq (dSet 2 (dTup dNil))
  (dSeq (dFor 3 (dVar 0)
  (q3h K a r))
  (dRet (dVar 2))))
nD q46(K:PySem.W.Frag)(a:Adr)(r:Nat->List W->FR):Den W:=
 (dFstr (fVal (dVar 0) (fTxt "\n" fNil)))
nD q27(K:PySem.W.Frag)(a:Adr)(r:Nat->List W->FR):List S->SR:=
 (dSeq (dSet 7 (dCall (r q4m) (dCons (dVar 8) (dCons (dVar 2) dNil))))
  (dApp 3 (dCons (dFstr (fTxt "out " (fVal (dVar 4) (fTxt " = " (fVal (dVar 7) fNil))))) dNil)))
nD q28(K:PySem.W.Frag)(a:Adr)(r:Nat->List W->FR):List S->SR:=
 (dSeq (dSet 6 (dIf (dTru (dOp ixW (dVar 5) (dC (.int 0)))) (dC (.str "yes")) (dC (.str "no"))))
  (dSeq (dSet 7 (dCall (r q4m) (dCons (dOp ixW (dVar 5) (dC (.int 1))) (dCons (dVar 2) dNil))))
  (dApp 3 (dCons (dFstr (fTxt "held " (fVal (dVar 4) (fTxt " " (fVal (dVar 6) (fTxt " = " (fVal (dVar 7) fNil))))))) dNil))))
nD q4a(K:PySem.W.Frag)(a:Adr)(r:Nat->List W->FR):List S->SR:=
 (dSeq (dSet 2 (dOp addX (dOp ixW (dVar 0) (dC (.int 0))) (dOp ixW (dVar 0) (dC (.int 1)))))
  (dSeq (dSetO 3 (dLst (dCons (dMeth "str" joinW (dC (.str " ")) (dCons (dOp addX (dTup (dCons (dC (.str "in")) dNil)) (dOp ixW (dVar 0) (dC (.int 0)))) dNil)) dNil)))
  (dSeq (dForP 4 5 (srcZ (dCons (dOp ixW (dVar 0) (dC (.int 1))) (dCons (dOp ixW (dVar 1) (dC (.int 1))) dNil)))
  (q28 K a r))
  (dSeq (dForP 4 8 (srcZ (dCons (dOp ixW (dVar 0) (dC (.int 2))) (dCons (dOp ixW (dVar 1) (dC (.int 2))) dNil)))
  (q27 K a r))
  (dRet (dMeth "str" joinW (dC (.str "")) (dCons (dFz (dComp [] (dVar 3) dYes (q46 K a r))) dNil)))))))
nD q3v(K:PySem.W.Frag)(a:Adr)(r:Nat->List W->FR):List S->SR:=
 (dSeq (dIfS (dTest (dOp ltW (dVar 1) (dFn len1 (dCons (dVar 0) dNil))))
  (dRet (dOp ixW (dVar 0) (dVar 1)))
  dNx)
  (dRet (dC (.int 0))))
nD q47(K:PySem.W.Frag)(a:Adr)(r:Nat->List W->FR):List S->SR:=
 (dRet (dOp modW (dOp powW (dOp modW (dOp addX (dOp mulW (dVar 0) (dC (.int 48271))) (dOp mulW (dOp addX (dVar 1) (dC (.int 1))) (dC (.int 1299721)))) (dC (.int 2147483647))) (dC (.int 5))) (dC (.int 2147483647))))
nD q3w(K:PySem.W.Frag)(a:Adr)(r:Nat->List W->FR):List S->SR:=
 (dSeq (dIfS (dOr (dTest (dOp eq2 (dVar 1) (dC (.int 0)))) (dTest (dOp eq2 (dOp modW (dVar 0) (dC (.int 8))) (dC (.int 7)))))
  (dRet (dTup (dCons (dC (.str "is")) (dCons (dOp eq2 (dOp modW (dOp fdivW (dVar 0) (dC (.int 8))) (dC (.int 2))) (dC (.int 1))) dNil))))
  dNx)
  (dRet (dTup (dCons (dC (.str "at")) (dCons (dOp modW (dOp fdivW (dVar 0) (dC (.int 8))) (dVar 1)) dNil)))))
nD q4c(K:PySem.W.Frag)(a:Adr)(r:Nat->List W->FR):List S->SR:=
 (dSet 7 (dTup (dCons (dOp ixW (dFz (dLst (dCons (dC (.str "or")) (dCons (dC (.str "odd")) (dCons (dC (.str "and")) dNil))))) (dOp modW (dOp addX (dVar 8) (dFn len1 (dCons (dVar 0) dNil))) (dC (.int 3)))) (dCons (dVar 7) (dCons (dIxV 2 (dVar 8)) dNil)))))
nD q2v(K:PySem.W.Frag)(a:Adr)(r:Nat->List W->FR):List S->SR:=
 (dSeq (dSet 4 (dOp modW (dVar 3) (dC (.int 9))))
  (dSeq (dSet 5 (dOp fdivW (dVar 3) (dC (.int 9))))
  (dIfS (dTest (dOp eq2 (dVar 4) (dC (.int 0))))
  (dApp 2 (dCons (dTup (dCons (dC (.str "not")) (dCons (dPop 2) dNil))) dNil))
  (dIfS (dAnd (dTest (dOp ltW (dVar 4) (dC (.int 5)))) (dTest (dOp gtW (dFnV 2 len1) (dC (.int 1)))))
  (dSeq (dSet 6 (dPop 2))
  (dApp 2 (dCons (dTup (dCons (dOp ixW (dFz (dLst (dCons (dC (.str "and")) (dCons (dC (.str "or")) (dCons (dC (.str "odd")) dNil))))) (dOp modW (dVar 5) (dC (.int 3)))) (dCons (dPop 2) (dCons (dVar 6) dNil)))) dNil)))
  (dApp 2 (dCons (dCall (r q1r) (dCons (dVar 5) (dCons (dVar 1) dNil))) dNil))))))
nD q3x(K:PySem.W.Frag)(a:Adr)(r:Nat->List W->FR):List S->SR:=
 (dSeq (dSetO 2 (dLst (dCons (dCall (r q1r) (dCons (dFn len1 (dCons (dVar 0) dNil)) (dCons (dVar 1) dNil))) dNil)))
  (dSeq (dFor 3 (dVar 0)
  (q2v K a r))
  (dSeq (dSet 7 (dIxV 2 (dC (.int 0))))
  (dSeq (dForR 8 rng2 (dCons (dC (.int 1)) (dCons (dFnV 2 len1) dNil))
  (q4c K a r))
  (dRet (dVar 7))))))
nD q2a(K:PySem.W.Frag)(a:Adr)(r:Nat->List W->FR):Den W:=
 (dOp ixW (dVar 2) (dOp modW (dCall (r q1d) (dCons (dVar 1) (dCons (dOp addX (dOp mulW (dC (.int 9)) (dVar 3)) (dVar 0)) dNil))) (dC (.int 26))))
nD nmE(K:PySem.W.Frag)(a:Adr)(r:Nat->List W->FR):List S->SR:=
 (dSeq (dIfS (dTest (dOp inW (dVar 8) (dTup (dCons (dC (.str "yes")) (dCons (dC (.str "no")) (dCons (dC (.str "not")) (dCons (dC (.str "and")) (dCons (dC (.str "odd")) (dCons (dC (.str "or")) (dCons (dC (.str "in")) (dCons (dC (.str "held")) (dCons (dC (.str "out")) dNil))))))))))))
  (dSet 8 (dOp addX (dVar 8) (dC (.str "x"))))
  dNx)
  (dApp 3 (dCons (dVar 8) dNil)))
nD nmS(K:PySem.W.Frag)(a:Adr)(r:Nat->List W->FR):List S->SR:=
 (dSeq (dSet 7 (dOp modW (dOp fdivW (dVar 0) (dC (.int 624))) (dOp addX (dVar 6) (dC (.int 1)))))
  (dSeq (dSet 8 (dOp addX (dOp addX (dOp mulS (dC (.str "q")) (dVar 7)) (dVar 5)) (dOp mulS (dC (.str "q")) (dOp subW (dVar 6) (dVar 7)))))
  (dSeq (dIfS (dTest (dOp eq2 (dOp modW (dVar 0) (dC (.int 3))) (dC (.int 2))))
  (dSeq (dSet 9 (dFz (dCompR rng1 [0,2,4] (dCons (dVar 6) dNil) dYes (q2a K a r))))
  (dSet 8 (dOp addX (dVar 5) (dMeth "str" joinW (dC (.str "")) (dCons (dVar 9) dNil)))))
  dNx)
  (nmE K a r))))
nD q2b(K:PySem.W.Frag)(a:Adr)(r:Nat->List W->FR):List S->SR:=
 (dSeq (dSet 5 (dOp ixW (dVar 2) (dOp modW (dOp addX (dOp fdivW (dVar 0) (dC (.int 3))) (dOp mulW (dC (.int 7)) (dVar 4))) (dC (.int 26)))))
  (dSeq (dSet 6 (dOp ixW (dFz (dLst (dCons (dC (.int 0)) (dCons (dC (.int 1)) (dCons (dC (.int 2)) (dCons (dC (.int 0)) (dCons (dC (.int 5)) (dCons (dC (.int 7)) (dCons (dC (.int 3)) (dCons (dC (.int 0)) dNil)))))))))) (dOp modW (dOp fdivW (dVar 0) (dC (.int 78))) (dC (.int 8)))))
  (dSeq (dIfS (dTest (dOp eq2 (dOp modW (dVar 0) (dC (.int 3))) (dC (.int 0))))
  (dSet 6 (dOp modW (dCall (r q1d) (dCons (dVar 0) (dCons (dVar 4) dNil))) (dC (.int 8))))
  dNx)
  (nmS K a r))))
nD q29(K:PySem.W.Frag)(a:Adr)(r:Nat->List W->FR):List S->SR:=
 (dSeq (dSet 2 (dC (.str "abcdefghijklmnopqrstuvwxyz")))
  (dSeq (dSetO 3 (dLst dNil))
  (dSeq (dForR 4 rng1 (dCons (dVar 1) dNil)
  (q2b K a r))
  (dRetO 3))))
nD q24(K:PySem.W.Frag)(a:Adr)(r:Nat->List W->FR):Den W:=
 (dTup (dCons (dOp eq2 (dOp modW (dOp fdivW (dVar 2) (dOp addX (dVar 0) (dC (.int 1)))) (dC (.int 2))) (dC (.int 1))) (dCons (dOp ixW (dVar 1) (dVar 0)) dNil)))
nD q1v(K:PySem.W.Frag)(a:Adr)(r:Nat->List W->FR):Den W:=
 (dCall (r q1d) (dCons (dVar 2) (dCons (dOp addX (dOp mulW (dC (.int 11)) (dVar 1)) (dVar 0)) dNil)))
nD q1w(K:PySem.W.Frag)(a:Adr)(r:Nat->List W->FR):List S->SR:=
 (dSeq (dSet 8 (dCall (r q03) (dCons (dVar 0) (dCons (dOp addX (dC (.int 2)) (dVar 7)) dNil))))
  (dSeq (dSet 9 (dOp addX (dC (.int 1)) (dOp modW (dCall (r q1d) (dCons (dVar 8) (dCons (dVar 7) dNil))) (dVar 1))))
  (dSeq (dSet 10 (dFz (dCompR rng1 [7,8] (dCons (dVar 9) dNil) dYes (q1v K a r))))
  (dApp 6 (dCons (dCall (r q2i) (dCons (dVar 10) (dCons (dOp addX (dVar 3) (dVar 4)) dNil))) dNil)))))
nD ciT(K:PySem.W.Frag)(a:Adr)(r:Nat->List W->FR):List S->SR:=
 (dSeq (dSetO 6 (dLst dNil))
  (dSeq (dForR 7 rng1 (dCons (dOp addX (dVar 4) (dVar 5)) dNil)
  (q1w K a r))
  (dSeq (dSet 11 (dCall (r q03) (dCons (dVar 0) (dCons (dC (.int 1)) dNil))))
  (dSeq (dSet 12 (dFz (dCompR rng1 [6,11] (dCons (dVar 4) dNil) dYes (q24 K a r))))
  (dRet (dTup (dCons (dVar 3) (dCons (dFn tup1 (dCons (dVar 12) dNil)) (dCons (dFn tup1 (dCons (dSlX (dVar 6) (dPart (dVar 4)) dNoPart) dNil)) dNil)))))))))
nD ciO(K:PySem.W.Frag)(a:Adr)(r:Nat->List W->FR):List S->SR:=
 (dSeq (dSet 5 (dOp ixW (dFz (dLst (dCons (dC (.int 1)) (dCons (dC (.int 2)) (dCons (dC (.int 3)) (dCons (dC (.int 0)) dNil)))))) (dOp modW (dOp fdivW (dVar 2) (dC (.int 12))) (dC (.int 4)))))
  (dSeq (dIfS (dTest (dOp eq2 (dOp modW (dOp fdivW (dVar 2) (dC (.int 48))) (dC (.int 8))) (dC (.int 3))))
  (dSet 5 (dC (.int 6)))
  dNx)
  (ciT K a r)))
nD q2c(K:PySem.W.Frag)(a:Adr)(r:Nat->List W->FR):List S->SR:=
 (dSeq (dSet 2 (dCall (r q03) (dCons (dVar 0) (dCons (dC (.int 0)) dNil))))
  (dSeq (dSet 3 (dOp modW (dVar 2) (dC (.int 3))))
  (dSeq (dSet 4 (dOp modW (dOp fdivW (dVar 2) (dC (.int 3))) (dC (.int 4))))
  (dSeq (dIfS (dAnd (dTest (dOp eq2 (dOp modW (dOp fdivW (dVar 2) (dC (.int 48))) (dC (.int 8))) (dC (.int 1)))) (dTest (dOp ltW (dVar 3) (dC (.int 2)))))
  (dSet 4 (dC (.int 4)))
  dNx)
  (dSeq (dIfS (dTest (dOp eq2 (dOp modW (dOp fdivW (dVar 2) (dC (.int 48))) (dC (.int 8))) (dC (.int 2))))
  (dSeq (dSet 3 (dC (.int 3)))
  (dSet 4 (dOp modW (dVar 4) (dC (.int 3)))))
  dNx)
  (ciO K a r))))))
nD q48(K:PySem.W.Frag)(a:Adr)(r:Nat->List W->FR):List S->SR:=
 (dSeq (dSet 2 (dOp addX (dOp ixW (dVar 1) (dC (.int 0))) (dFn len1 (dCons (dOp ixW (dVar 1) (dC (.int 1))) dNil))))
  (dSeq (dSet 3 (dCall (r q14) (dCons (dCall (r q03) (dCons (dVar 0) (dCons (dC (.int 9)) dNil))) (dCons (dOp addX (dVar 2) (dFn len1 (dCons (dOp ixW (dVar 1) (dC (.int 2))) dNil))) dNil))))
  (dRet (dTup (dCons (dFn tup1 (dCons (dSlX (dVar 3) dNoPart (dPart (dOp ixW (dVar 1) (dC (.int 0))))) dNil)) (dCons (dFn tup1 (dCons (dSlX (dVar 3) (dPart (dOp ixW (dVar 1) (dC (.int 0)))) (dPart (dVar 2))) dNil)) (dCons (dFn tup1 (dCons (dSlX (dVar 3) (dPart (dVar 2)) dNoPart) dNil)) dNil)))))))
nD q5v(K:PySem.W.Frag)(a:Adr)(r:Nat->List W->FR):List S->SR:=
 (dSeq (dSet 2 (dC .non))
  (dSeq (dTryK K a.CircuitError 3
  (dDrop (dCall (r q1g) (dCons (dVar 0) (dCons (dVar 1) dNil))))
  (dSet 2 (dVar 3)))
  (dSeq (dIfS (dTest (dOp isW (dVar 2) (dC .non)))
  (dRet (dC (.str "")))
  dNx)
  (dSeq (dSet 4 (dOp addX (dOp repW (dFz (dLst (dCons (dC (.str "name")) dNil))) (dFn int1 (dCons (dIsi K (.ref a.NoName) (dVar 2)) dNil))) (dOp repW (dFz (dLst (dCons (dC (.str "place")) dNil))) (dFn int1 (dCons (dIsi K (.ref a.NoPlace) (dVar 2)) dNil)))))
  (dSeq (dIfS (dAnd (dTest (dOp eq2 (dFn len1 (dCons (dVar 4) dNil)) (dC (.int 1)))) (dTru (dIsi K (.type "ValueError") (dVar 2))))
  (dRet (dOp ixW (dVar 4) (dC (.int 0))))
  dNx)
  (dRet (dC (.str "other"))))))))
nD q6g(K:PySem.W.Frag)(a:Adr)(r:Nat->List W->FR):List S->SR:=
 (dRet (dOp addX (dOp addX (dSlX (dVar 0) dNoPart (dPart (dVar 1))) (dTup (dCons (dVar 2) dNil))) (dSlX (dVar 0) (dPart (dOp addX (dVar 1) (dC (.int 1)))) dNoPart)))
nD q2w(K:PySem.W.Frag)(a:Adr)(r:Nat->List W->FR):List S->SR:=
 (dSeq (dSet 2 (dOp addX (dOp ixW (dVar 0) (dC (.int 0))) (dOp ixW (dVar 0) (dC (.int 1)))))
  (dSeq (dSet 3 (dOp ixW (dFz (dLst (dCons (dC (.str "and")) (dCons (dC (.str "abcdefghi")) (dCons (dC (.str "aB")) (dCons (dC (.str "a1")) (dCons (dC (.str "")) (dCons (dC (.str "not")) (dCons (dC (.str "a b")) (dCons (dOp ixW (dVar 2) (dOp modW (dOp fdivW (dVar 1) (dC (.int 7))) (dFn len1 (dCons (dVar 2) dNil)))) dNil)))))))))) (dOp modW (dVar 1) (dC (.int 8)))))
  (dSeq (dSet 4 (dOp modW (dOp fdivW (dVar 1) (dC (.int 64))) (dFn len1 (dCons (dVar 2) dNil))))
  (dSeq (dIfS (dTest (dOp eq2 (dOp ixW (dVar 2) (dVar 4)) (dVar 3)))
  (dSet 3 (dC (.str "or")))
  dNx)
  (dSeq (dIfS (dTest (dOp ltW (dVar 4) (dFn len1 (dCons (dOp ixW (dVar 0) (dC (.int 0))) dNil))))
  (dRet (dTup (dCons (dCall (r q15) (dCons (dOp ixW (dVar 0) (dC (.int 0))) (dCons (dVar 4) (dCons (dVar 3) dNil)))) (dCons (dOp ixW (dVar 0) (dC (.int 1))) (dCons (dOp ixW (dVar 0) (dC (.int 2))) dNil)))))
  dNx)
  (dRet (dTup (dCons (dOp ixW (dVar 0) (dC (.int 0))) (dCons (dCall (r q15) (dCons (dOp ixW (dVar 0) (dC (.int 1))) (dCons (dOp subW (dVar 4) (dFn len1 (dCons (dOp ixW (dVar 0) (dC (.int 0))) dNil))) (dCons (dVar 3) dNil)))) (dCons (dOp ixW (dVar 0) (dC (.int 2))) dNil))))))))))
nD q6h(K:PySem.W.Frag)(a:Adr)(r:Nat->List W->FR):List S->SR:=
 (dSeq (dSet 2 (dTup (dCons (dC (.str "not")) (dCons (dTup (dCons (dC (.str "at")) (dCons (dOp addX (dOp addX (dOp ixW (dVar 0) (dC (.int 0))) (dFn len1 (dCons (dOp ixW (dVar 0) (dC (.int 1))) dNil))) (dOp modW (dVar 1) (dC (.int 3)))) dNil))) dNil))))
  (dSeq (dSet 3 (dOp modW (dOp fdivW (dVar 1) (dC (.int 3))) (dOp addX (dFn len1 (dCons (dOp ixW (dVar 0) (dC (.int 1))) dNil)) (dFn len1 (dCons (dOp ixW (dVar 0) (dC (.int 2))) dNil)))))
  (dSeq (dIfS (dTest (dOp ltW (dVar 3) (dFn len1 (dCons (dOp ixW (dVar 0) (dC (.int 1))) dNil))))
  (dRet (dTup (dCons (dOp ixW (dVar 0) (dC (.int 0))) (dCons (dCall (r q15) (dCons (dOp ixW (dVar 0) (dC (.int 1))) (dCons (dVar 3) (dCons (dTup (dCons (dOp ixW (dOp ixW (dOp ixW (dVar 0) (dC (.int 1))) (dVar 3)) (dC (.int 0))) (dCons (dVar 2) dNil))) dNil)))) (dCons (dOp ixW (dVar 0) (dC (.int 2))) dNil)))))
  dNx)
  (dRet (dTup (dCons (dOp ixW (dVar 0) (dC (.int 0))) (dCons (dOp ixW (dVar 0) (dC (.int 1))) (dCons (dCall (r q15) (dCons (dOp ixW (dVar 0) (dC (.int 2))) (dCons (dOp subW (dVar 3) (dFn len1 (dCons (dOp ixW (dVar 0) (dC (.int 1))) dNil))) (dCons (dVar 2) dNil)))) dNil))))))))
nD q3y(K:PySem.W.Frag)(a:Adr)(r:Nat->List W->FR):List S->SR:=
 (dSeq (dSet 3 (dOp modW (dVar 2) (dC (.int 3))))
  (dSeq (dIfS (dTest (dOp eq2 (dOp addX (dOp ixW (dVar 0) (dC (.int 0))) (dOp ixW (dVar 0) (dC (.int 1)))) (dTup dNil)))
  (dSet 3 (dC (.int 1)))
  dNx)
  (dSeq (dSetO 4 (dLst (dCons (dVar 0) (dCons (dVar 1) dNil))))
  (dSeq (dIfS (dTest (dOp ne2 (dVar 3) (dC (.int 1))))
  (dPut 4 (dCall (r q1j) (dCons (dVar 0) (dCons (dOp fdivW (dVar 2) (dC (.int 3))) dNil))) (dC (.int 0)))
  dNx)
  (dSeq (dIfS (dTest (dOp gtW (dVar 3) (dC (.int 0))))
  (dPut 4 (dCall (r q40) (dCons (dVar 1) (dCons (dOp fdivW (dVar 2) (dC (.int 3))) dNil))) (dC (.int 1)))
  dNx)
  (dRet (dOp eq2 (dCall (r q1m) (dCons (dIxV 4 (dC (.int 0))) (dCons (dIxV 4 (dC (.int 1))) dNil))) (dOp ixW (dFz (dLst (dCons (dC (.str "name")) (dCons (dC (.str "place")) (dCons (dC (.str "name")) dNil))))) (dVar 3)))))))))
nD x0i(K:PySem.W.Frag)(a:Adr)(r:Nat->List W->FR):List S->SR:=
 (dSet 4 (dOp addX (dOp addX (dOp addX (dOp addX (dOp addX (dVar 4) (dC (.str "out "))) (dOp ixW (dOp ixW (dVar 2) (dC (.int 2))) (dVar 5))) (dC (.str " = "))) (dCall (r q4m) (dCons (dOp ixW (dOp ixW (dVar 1) (dC (.int 2))) (dVar 5)) (dCons (dVar 3) dNil)))) (dC (.str "\n"))))
nD x0j(K:PySem.W.Frag)(a:Adr)(r:Nat->List W->FR):List S->SR:=
 (dSeq (dSet 6 (dOp ixW (dFz (dLst (dCons (dC (.str "no")) (dCons (dC (.str "yes")) dNil)))) (dFn int1 (dCons (dOp ixW (dOp ixW (dOp ixW (dVar 1) (dC (.int 1))) (dVar 5)) (dC (.int 0))) dNil))))
  (dSeq (dSet 7 (dCall (r q4m) (dCons (dOp ixW (dOp ixW (dOp ixW (dVar 1) (dC (.int 1))) (dVar 5)) (dC (.int 1))) (dCons (dVar 3) dNil))))
  (dSet 4 (dOp addX (dOp addX (dOp addX (dOp addX (dOp addX (dOp addX (dOp addX (dVar 4) (dC (.str "held "))) (dOp ixW (dOp ixW (dVar 2) (dC (.int 1))) (dVar 5))) (dC (.str " "))) (dVar 6)) (dC (.str " = "))) (dVar 7)) (dC (.str "\n"))))))
nD x5f(K:PySem.W.Frag)(a:Adr)(r:Nat->List W->FR):List S->SR:=
 (dSeq (dSet 1 (dCall (r q1p) (dCons (dVar 0) (dCons (dC (.int 5)) dNil))))
  (dSeq (dSet 2 (dCall (r q2j) (dCons (dVar 0) (dCons (dVar 1) dNil))))
  (dSeq (dSet 3 (dOp addX (dOp ixW (dVar 2) (dC (.int 0))) (dOp ixW (dVar 2) (dC (.int 1)))))
  (dSeq (dSet 4 (dOp addX (dMeth "str" joinW (dC (.str " ")) (dCons (dOp addX (dFz (dLst (dCons (dC (.str "in")) dNil))) (dFz (dList (dCons (dOp ixW (dVar 2) (dC (.int 0))) dNil)))) dNil)) (dC (.str "\n"))))
  (dSeq (dForR 5 rng1 (dCons (dFn len1 (dCons (dOp ixW (dVar 1) (dC (.int 1))) dNil)) dNil)
  (x0j K a r))
  (dSeq (dForR 5 rng1 (dCons (dFn len1 (dCons (dOp ixW (dVar 1) (dC (.int 2))) dNil)) dNil)
  (x0i K a r))
  (dSeq (dSet 8 (dCall (r q1d) (dCons (dCall (r q03) (dCons (dVar 0) (dCons (dC (.int 11)) dNil))) (dCons (dC (.int 3)) dNil))))
  (dSeq (dIfS (dAnd (dTest (dOp ne2 (dOp addX (dOp ixW (dVar 1) (dC (.int 1))) (dOp ixW (dVar 1) (dC (.int 2)))) (dTup dNil))) (dAnd (dTest (dOp eq2 (dOp modW (dVar 8) (dC (.int 4))) (dC (.int 1)))) (dNot (dTru (dCall (r q2k) (dCons (dVar 2) (dCons (dVar 1) (dCons (dOp fdivW (dVar 8) (dC (.int 4))) dNil))))))))
  (dRet (dC (.bl false)))
  dNx)
  (dSeq (dSet 9 (dCall (r q1g) (dCons (dVar 2) (dCons (dVar 1) dNil))))
  (dRet (dAndV (dIsi K (.type "str") (dVar 9)) (dAndV (dOp eq2 (dVar 9) (dVar 4)) (dOp eq2 (dCall (r q2h) (dCons (dVar 9) dNil)) (dTup (dCons (dVar 2) (dCons (dVar 1) dNil))))))))))))))))
nD body(K:PySem.W.Frag)(a:Adr)(r:Nat->List W->FR)(ws:List W):Nat->FR
 |0=>if ws.length=2 then(q6d K a r (init 2 ws)).fn else .no
 |1=>if ws.length=2 then(x0g K a r (init 2 ws)).fn else .no
 |2=>if ws.length=2 then(x2m K a r (init 5 ws)).fn else .no
 |3=>if ws.length=2 then(x0h K a r (init 3 ws)).fn else .no
 |4=>if ws.length=1 then(q2q K a r (init 4 ws)).fn else .no
 |5=>if ws.length=1 then(q7i K a r (init 1 ws)).fn else .no
 |6=>if ws.length=1 then(q19 K a r (init 1 ws)).fn else .no
 |7=>if ws.length=2 then(q3g K a r (init 7 ws)).fn else .no
 |8=>if ws.length=3 then(q5q K a r (init 4 ws)).fn else .no
 |9=>if ws.length=1 then(q5r K a r (init 4 ws)).fn else .no
 |10=>if ws.length=2 then(q3t K a r (init 3 ws)).fn else .no
 |11=>if ws.length=3 then(q38 K a r (init 8 ws)).fn else .no
 |12=>if ws.length=3 then(q5s K a r (init 3 ws)).fn else .no
 |13=>if ws.length=2 then(q42 K a r (init 2 ws)).fn else .no
 |14=>if ws.length=2 then(q2t K a r (init 6 ws)).fn else .no
 |15=>if ws.length=3 then(q8e K a r (initM 5 ws)).fm else .no
 |16=>if ws.length=2 then(q44 K a r (init 2 ws)).fn else .no
 |17=>if ws.length=1 then(q45 K a r (init 6 ws)).fn else .no
 |18=>if ws.length=1 then(q5t K a r (init 4 ws)).fn else .no
 |19=>if ws.length=1 then(q2u K a r (init 5 ws)).fn else .no
 |20=>if ws.length=1 then(q6e K a r (init 1 ws)).fn else .no
 |21=>if ws.length=2 then(q39 K a r (init 5 ws)).fn else .no
 |22=>if ws.length=2 then(q5u K a r (init 7 ws)).fn else .no
 |23=>if ws.length=2 then(q6f K a r (init 4 ws)).fn else .no
 |24=>if ws.length=2 then(q4a K a r (init 9 ws)).fn else .no
 |25=>if ws.length=2 then(q3v K a r (init 2 ws)).fn else .no
 |26=>if ws.length=2 then(q47 K a r (init 2 ws)).fn else .no
 |27=>if ws.length=2 then(q3w K a r (init 2 ws)).fn else .no
 |28=>if ws.length=2 then(q3x K a r (init 9 ws)).fn else .no
 |29=>if ws.length=2 then(q29 K a r (init 10 ws)).fn else .no
 |30=>if ws.length=2 then(q2c K a r (init 13 ws)).fn else .no
 |31=>if ws.length=2 then(q48 K a r (init 4 ws)).fn else .no
 |32=>if ws.length=2 then(q5v K a r (init 5 ws)).fn else .no
 |33=>if ws.length=3 then(q6g K a r (init 3 ws)).fn else .no
 |34=>if ws.length=2 then(q2w K a r (init 5 ws)).fn else .no
 |35=>if ws.length=2 then(q6h K a r (init 4 ws)).fn else .no
 |36=>if ws.length=3 then(q3y K a r (init 5 ws)).fn else .no
 |37=>if ws.length=1 then(x5f K a r (init 10 ws)).fn else .no
 |_=>.no
nD run(K:PySem.W.Frag)(a:Adr):Nat->Nat->List W->FR
 |0,_,_=>.no
 |n+1,i,ws=>body K a (run K a n) ws i
tm q65:run K a (n+1) q4z ws=if ws.length=2 then(q6d K a (run K a n) (init 2 ws)).fn else .no:=rfl
tm q9p:run K a (n+1) q4m ws=if ws.length=2 then(x0g K a (run K a n) (init 2 ws)).fn else .no:=rfl
tm x1k:run K a (n+1) q9g ws=if ws.length=2 then(x2m K a (run K a n) (init 5 ws)).fn else .no:=rfl
tm q9q:run K a (n+1) q7y ws=if ws.length=2 then(x0h K a (run K a n) (init 3 ws)).fn else .no:=rfl
tm q3i:run K a (n+1) q0y ws=if ws.length=1 then(q2q K a (run K a n) (init 4 ws)).fn else .no:=rfl
tm q7p:run K a (n+1) q4n ws=if ws.length=1 then(q7i K a (run K a n) (init 1 ws)).fn else .no:=rfl
tm q25:run K a (n+1) q1f ws=if ws.length=1 then(q19 K a (run K a n) (init 1 ws)).fn else .no:=rfl
tm q21:run K a (n+1) q05 ws=if ws.length=2 then(q3g K a (run K a n) (init 7 ws)).fn else .no:=rfl
tm q54:run K a (n+1) q16 ws=if ws.length=3 then(q5q K a (run K a n) (init 4 ws)).fn else .no:=rfl
tm q55:run K a (n+1) q20 ws=if ws.length=1 then(q5r K a (run K a n) (init 4 ws)).fn else .no:=rfl
tm q4d:run K a (n+1) q2g ws=if ws.length=2 then(q3t K a (run K a n) (init 3 ws)).fn else .no:=rfl
tm q49:run K a (n+1) q1y ws=if ws.length=3 then(q38 K a (run K a n) (init 8 ws)).fn else .no:=rfl
tm q56:run K a (n+1) q34 ws=if ws.length=3 then(q5s K a (run K a n) (init 3 ws)).fn else .no:=rfl
tm q5i:run K a (n+1) q3d ws=if ws.length=2 then(q42 K a (run K a n) (init 2 ws)).fn else .no:=rfl
tm q3j:run K a (n+1) q1t ws=if ws.length=2 then(q2t K a (run K a n) (init 6 ws)).fn else .no:=rfl
tm q8f:run K a (n+1) q4b ws=if ws.length=3 then(q8e K a (run K a n) (initM 5 ws)).fm else .no:=rfl
tm q5j:run K a (n+1) q3e ws=if ws.length=2 then(q44 K a (run K a n) (init 2 ws)).fn else .no:=rfl
tm q5k:run K a (n+1) q2h ws=if ws.length=1 then(q45 K a (run K a n) (init 6 ws)).fn else .no:=rfl
tm q57:run K a (n+1) q35 ws=if ws.length=1 then(q5t K a (run K a n) (init 4 ws)).fn else .no:=rfl
tm q3k:run K a (n+1) q1i ws=if ws.length=1 then(q2u K a (run K a n) (init 5 ws)).fn else .no:=rfl
tm q66:run K a (n+1) q3s ws=if ws.length=1 then(q6e K a (run K a n) (init 1 ws)).fn else .no:=rfl
tm q5a:run K a (n+1) q0z ws=if ws.length=2 then(q39 K a (run K a n) (init 5 ws)).fn else .no:=rfl
tm q58:run K a (n+1) q36 ws=if ws.length=2 then(q5u K a (run K a n) (init 7 ws)).fn else .no:=rfl
tm q67:run K a (n+1) q1q ws=if ws.length=2 then(q6f K a (run K a n) (init 4 ws)).fn else .no:=rfl
tm q5b:run K a (n+1) q1g ws=if ws.length=2 then(q4a K a (run K a n) (init 9 ws)).fn else .no:=rfl
tm q4e:run K a (n+1) q03 ws=if ws.length=2 then(q3v K a (run K a n) (init 2 ws)).fn else .no:=rfl
tm q5l:run K a (n+1) q1d ws=if ws.length=2 then(q47 K a (run K a n) (init 2 ws)).fn else .no:=rfl
tm q4f:run K a (n+1) q1r ws=if ws.length=2 then(q3w K a (run K a n) (init 2 ws)).fn else .no:=rfl
tm q4g:run K a (n+1) q2i ws=if ws.length=2 then(q3x K a (run K a n) (init 9 ws)).fn else .no:=rfl
tm q3z:run K a (n+1) q14 ws=if ws.length=2 then(q29 K a (run K a n) (init 10 ws)).fn else .no:=rfl
tm q26:run K a (n+1) q1p ws=if ws.length=2 then(q2c K a (run K a n) (init 13 ws)).fn else .no:=rfl
tm q5m:run K a (n+1) q2j ws=if ws.length=2 then(q48 K a (run K a n) (init 4 ws)).fn else .no:=rfl
tm q59:run K a (n+1) q1m ws=if ws.length=2 then(q5v K a (run K a n) (init 5 ws)).fn else .no:=rfl
tm q68:run K a (n+1) q15 ws=if ws.length=3 then(q6g K a (run K a n) (init 3 ws)).fn else .no:=rfl
tm q3l:run K a (n+1) q1j ws=if ws.length=2 then(q2w K a (run K a n) (init 5 ws)).fn else .no:=rfl
tm q69:run K a (n+1) q40 ws=if ws.length=2 then(q6h K a (run K a n) (init 4 ws)).fn else .no:=rfl
tm q4h:run K a (n+1) q2k ws=if ws.length=3 then(q3y K a (run K a n) (init 5 ws)).fn else .no:=rfl
tm q75:run K a (n+1) x0e ws=if ws.length=1 then(x5f K a (run K a n) (init 10 ws)).fn else .no:=rfl
section
variable{P:Program}{w:World}{base:Heap}
structure Ats(K:PySem.W.Frag)(mg:Str->Option Value):Prop where
 thing_at:At K mg "thing_at" x2g ["things", "place"]
 shown:At K mg "shown" x8o ["form", "names"]
 read:At K mg "read" y2v ["text", "names"]
 fault:At K mg "fault" x8p ["text", "names"]
 places_by_name:At K mg "places_by_name" q61 ["names"]
 is_name:At K mg "is_name" q9h ["name"]
 is_small_letter:At K mg "is_small_letter" q6a ["sign"]
 text_of:At K mg "text_of" x4f ["form", "names"]
 bracketed:At K mg "bracketed" x00 ["form", "least", "names"]
 pieces_of:At K mg "pieces_of" x01 ["text"]
 end_of_piece:At K mg "end_of_piece" q7z ["text", "place"]
 first_fault:At K mg "first_fault" q8s ["pieces", "places", "length"]
 can_begin:At K mg "can_begin" x02 ["piece", "brackets", "places"]
 can_follow:At K mg "can_follow" q9j ["piece", "brackets"]
 form_of_pieces:At K mg "form_of_pieces" q62 ["pieces", "places"]
 settle:At K mg "settle" x6t ["forms", "waiting", "least"]
 plain_form:At K mg "plain_form" q9k ["piece", "places"]
 read_sheet:At K mg "read_sheet" q3f ["text"]
 fault_row:At K mg "fault_row" x03 ["text"]
 standing_parts:At K mg "standing_parts" q63 ["rows"]
 words_in:At K mg "words_in" q8d ["text"]
 part_of_row:At K mg "part_of_row" q8t ["row", "number"]
 can_stand:At K mg "can_stand" x04 ["part", "ahead"]
 names_of:At K mg "names_of" x2h ["parts", "word"]
 shown_sheet:At K mg "shown_sheet" q53 ["names", "circuit"]
 _law_cell_at:At K mg "_law_cell_at" q70 ["_law_script", "_law_k"]
 _law_mixed:At K mg "_law_mixed" q9l ["_law_cell", "_law_k"]
 _law_leaf_by:At K mg "_law_leaf_by" q71 ["_law_cell", "_law_many"]
 _law_form_by:At K mg "_law_form_by" q72 ["_law_cells", "_law_many"]
 _law_names_by:At K mg "_law_names_by" q41 ["_law_cell", "_law_count"]
 _law_circuit_by:At K mg "_law_circuit_by" q18 ["_law_script", "_law_most"]
 _law_three:At K mg "_law_three" q9m ["_law_script", "_law_circuit"]
 _law_word:At K mg "_law_word" x05 ["_law_names", "_law_circuit"]
 _law_put:At K mg "_law_put" x2k ["_law_some", "_law_at", "_law_thing"]
 _law_bad_names:At K mg "_law_bad_names" q64 ["_law_names", "_law_cell"]
 _law_far:At K mg "_law_far" x2l ["_law_circuit", "_law_cell"]
 _law_refused:At K mg "_law_refused" q73 ["_law_names", "_law_circuit", "_law_cell"]
 law:At K mg "law" x0f ["_law_script"]
structure Cals(P:Program)(w:World)(K:PySem.W.Frag)(mg:Str->Option Value)(base:Heap)(a:Adr)(n:Nat):Prop where
 thing_at:Cal P w K mg base n "thing_at" ["things", "place"] (spF K (run K a n q4z))
 shown:Cal P w K mg base n "shown" ["form", "names"] (spF K (run K a n q4m))
 read:Cal P w K mg base n "read" ["text", "names"] (spF K (run K a n q9g))
 fault:Cal P w K mg base n "fault" ["text", "names"] (spF K (run K a n q7y))
 places_by_name:Cal P w K mg base n "places_by_name" ["names"] (spF K (run K a n q0y))
 is_name:Cal P w K mg base n "is_name" ["name"] (spF K (run K a n q4n))
 is_small_letter:Cal P w K mg base n "is_small_letter" ["sign"] (spF K (run K a n q1f))
 text_of:Cal P w K mg base n "text_of" ["form", "names"] (spF K (run K a n q05))
 bracketed:Cal P w K mg base n "bracketed" ["form", "least", "names"] (spF K (run K a n q16))
 pieces_of:Cal P w K mg base n "pieces_of" ["text"] (spF K (run K a n q20))
 end_of_piece:Cal P w K mg base n "end_of_piece" ["text", "place"] (spF K (run K a n q2g))
 first_fault:Cal P w K mg base n "first_fault" ["pieces", "places", "length"] (spF K (run K a n q1y))
 can_begin:Cal P w K mg base n "can_begin" ["piece", "brackets", "places"] (spF K (run K a n q34))
 can_follow:Cal P w K mg base n "can_follow" ["piece", "brackets"] (spF K (run K a n q3d))
 form_of_pieces:Cal P w K mg base n "form_of_pieces" ["pieces", "places"] (spF K (run K a n q1t))
 settle:Cal P w K mg base n "settle" ["forms", "waiting", "least"] (spM K (run K a n q4b))
 plain_form:Cal P w K mg base n "plain_form" ["piece", "places"] (spF K (run K a n q3e))
 read_sheet:Cal P w K mg base n "read_sheet" ["text"] (spF K (run K a n q2h))
 fault_row:Cal P w K mg base n "fault_row" ["text"] (spF K (run K a n q35))
 standing_parts:Cal P w K mg base n "standing_parts" ["rows"] (spF K (run K a n q1i))
 words_in:Cal P w K mg base n "words_in" ["text"] (spF K (run K a n q3s))
 part_of_row:Cal P w K mg base n "part_of_row" ["row", "number"] (spF K (run K a n q0z))
 can_stand:Cal P w K mg base n "can_stand" ["part", "ahead"] (spF K (run K a n q36))
 names_of:Cal P w K mg base n "names_of" ["parts", "word"] (spF K (run K a n q1q))
 shown_sheet:Cal P w K mg base n "shown_sheet" ["names", "circuit"] (spF K (run K a n q1g))
 _law_cell_at:Cal P w K mg base n "_law_cell_at" ["_law_script", "_law_k"] (spF K (run K a n q03))
 _law_mixed:Cal P w K mg base n "_law_mixed" ["_law_cell", "_law_k"] (spF K (run K a n q1d))
 _law_leaf_by:Cal P w K mg base n "_law_leaf_by" ["_law_cell", "_law_many"] (spF K (run K a n q1r))
 _law_form_by:Cal P w K mg base n "_law_form_by" ["_law_cells", "_law_many"] (spF K (run K a n q2i))
 _law_names_by:Cal P w K mg base n "_law_names_by" ["_law_cell", "_law_count"] (spF K (run K a n q14))
 _law_circuit_by:Cal P w K mg base n "_law_circuit_by" ["_law_script", "_law_most"] (spF K (run K a n q1p))
 _law_three:Cal P w K mg base n "_law_three" ["_law_script", "_law_circuit"] (spF K (run K a n q2j))
 _law_word:Cal P w K mg base n "_law_word" ["_law_names", "_law_circuit"] (spF K (run K a n q1m))
 _law_put:Cal P w K mg base n "_law_put" ["_law_some", "_law_at", "_law_thing"] (spF K (run K a n q15))
 _law_bad_names:Cal P w K mg base n "_law_bad_names" ["_law_names", "_law_cell"] (spF K (run K a n q1j))
 _law_far:Cal P w K mg base n "_law_far" ["_law_circuit", "_law_cell"] (spF K (run K a n q40))
 _law_refused:Cal P w K mg base n "_law_refused" ["_law_names", "_law_circuit", "_law_cell"] (spF K (run K a n q2k))
 law:Cal P w K mg base n "law" ["_law_script"] (spF K (run K a n x0e))
structure CalsH(P:Program)(w:World)(K:PySem.W.Frag)(mg:Str->Option Value)(base:Heap)(a:Adr)(n:Nat):Prop where
 z:True
section
variable(B:Blt P w K mg)(M:Exs K mg a)(C:Cals P w K mg base a n)(CH:CalsH P w K mg base a n)
tm lof{c:Prop} [Decidable c]{x r:FR}(e:r=if c then x else .no)(h:r≠.no):c/\x=r:=by
 rw[e]at h |-;split at h
 ·rename_i hl;rw[if_pos hl];!⟨hl,rfl⟩
 ·!absurd rfl h
include B M C CH
tm x7r  (A:Ats K mg):Cal P w K mg base (n+1) "thing_at" ["things", "place"] (spF K (run K a (n+1) q4z)):=
 con A.thing_at x7o (λws hw=>(lof q65 hw).1) λws hw f cdv A outer s H E Z hr=>⟨q6d K a (run K a n),(q0d (q0q (dt_w (q6c (q5p (dv 1) q0c) (q6v (y7h (dv 1) (q0s B.b_len (q0a (dv 0) q0b))))))
  (q0e (q6w rais1 M.e_NoPlace M.m_NoPlace rfl (q0a q0f q0b)))
  q0o)
  (q0e (q0n (q0j (dv 0) (dv 1))))),(lof q65 hw).2⟩
tm y58  (A:Ats K mg):Cal P w K mg base (n+1) "shown" ["form", "names"] (spF K (run K a (n+1) q4m)):=
 con A.shown y57 (λws hw=>(lof q9p hw).1) λws hw f cdv A outer s H E Z hr=>⟨x0g K a (run K a n),(q0d (x24 (q0l C.places_by_name hr pass1 (q0a (dv 1) q0b)))
  (q0e (q0n (q0l C.text_of hr pass1 (q0a (dv 0) (q0a (dv 1) q0b)))))),(lof q9p hw).2⟩
tm z1f  (A:Ats K mg):Cal P w K mg base (n+1) "read" ["text", "names"] (spF K (run K a (n+1) q9g)):=
 con A.read sc_read (λws hw=>(lof x1k hw).1) λws hw f cdv A outer s H E Z hr=>⟨x2m K a (run K a n),(q0d (q0i 2 sc_read.nd (q0l C.places_by_name hr pass1 (q0a (dv 1) q0b)))
  (q0d (q0i 3 sc_read.nd (q0l C.pieces_of hr pass1 (q0a (dv 0) q0b)))
  (q0d (q0i 4 sc_read.nd (q0l C.first_fault hr pass1 (q0a (dv 3) (q0a (dv 2) (q0a (q0s B.b_len (q0a (dv 0) q0b)) q0b)))))
  (q0d (q0q (x17 (dv 4) q31)
  (q0e (q6w rais1 M.e_BadText M.m_BadText rfl (q0a (q3r (q1o (q2e (dv 4) (q1o q4w))) (by decide)) q0b)))
  q0o)
  (q0e (q0n (q0l C.form_of_pieces hr pass1 (q0a (dv 3) (q0a (dv 2) q0b))))))))),(lof x1k hw).2⟩
tm y59  (A:Ats K mg):Cal P w K mg base (n+1) "fault" ["text", "names"] (spF K (run K a (n+1) q7y)):=
 con A.fault sc_fault (λws hw=>(lof q9q hw).1) λws hw f cdv A outer s H E Z hr=>⟨x0h K a (run K a n),(q0d (q0i 2 sc_fault.nd (q0l C.places_by_name hr pass1 (q0a (dv 1) q0b)))
  (q0e (q0n (q0l C.first_fault hr pass1 (q0a (q0l C.pieces_of hr pass1 (q0a (dv 0) q0b)) (q0a (dv 2) (q0a (q0s B.b_len (q0a (dv 0) q0b)) q0b))))))),(lof q9q hw).2⟩
tm x0s  (A:Ats K mg):Cal P w K mg base (n+1) "places_by_name" ["names"] (spF K (run K a (n+1) q0y)):=
 con A.places_by_name sc_places_by_name (λws hw=>(lof q3i hw).1) λws hw f cdv A outer s H E Z hr=>⟨q2q K a (run K a n),(q0d (y98 1 sc_places_by_name.nd)
  (q0d (q6k 2 3 sc_places_by_name.nd PassesOwn.leaving rfl (y5t B.b_enumerate (q0a (dv 0) q0b))
  (q0d (q0q (q84 (q3b (q0l C.is_name hr pass1 (q0a (dv 3) q0b))))
  (q0e (q6w rais1 M.e_NoName M.m_NoName rfl (q0a (q3r (z0k (dv 3) (q1o q4w)) (by decide)) q0b)))
  q0o)
  (q0d (q0q (x4b λ_=>(z56 (q0h hr) (dv 3) (dv 1)))
  (q0e (q6w rais1 M.e_NoName M.m_NoName rfl (q0a (q3r (q1o (q2e (dv 3) (q1o q4w))) (by decide)) q0b)))
  q0o)
  (q0e (z0b 1 (q0h hr) (dv 2) (dv 3))))))
  (q0e (y99 1)))),(lof q3i hw).2⟩
tm x92  (A:Ats K mg):Cal P w K mg base (n+1) "is_name" ["name"] (spF K (run K a (n+1) q4n)):=
 con A.is_name x91 (λws hw=>(lof q7p hw).1) λws hw f cdv A outer s H E Z hr=>⟨q7i K a (run K a n),(q0d (q0q (dt_w (q6c (q5p (q0s B.b_len (q0a (dv 0) q0b)) q0c) (q6c (q7g (q0s B.b_len (q0a (dv 0) q0b)) (q13 M.m_LONGEST_NAME M.g_LONGEST_NAME)) (q6v (x0a (q0h hr) (dv 0) (q13 M.m_WORDS M.g_WORDS))))))
  (q0e (q0n q6b))
  q0o)
  (q0e (q0n (z5d rfl B.b_all (q0a (q12 (y5r (x:="sign") (Nf:=[]) (js:=[]) (sc:=defScope q9h) (N:=["name"]) rfl (dv 0) (by decide +kernel)
   (λ_ _ _ _ _ _=>q6j)
   (λ_ _ _ _ _ _=>(q0l C.is_small_letter hr passE (q0a (dv 0) q0b)))
   (λ_ _ _ _ _=>q17 0 (show(["sign"]:List Str).Nodup by decide +kernel)))) q0b))))),(lof q7p hw).2⟩
tm q9r  (A:Ats K mg):Cal P w K mg base (n+1) "is_small_letter" ["sign"] (spF K (run K a (n+1) q1f)):=
 con A.is_small_letter q9i (λws hw=>(lof q25 hw).1) λws hw f cdv A outer s H E Z hr=>⟨q19 K a (run K a n),(q0e (q0n (x5v (y1v q0f (dv 0)) (x12 (y1v (dv 0) q0f))))),(lof q25 hw).2⟩
tm x93  (A:Ats K mg):Cal P w K mg base (n+1) "text_of" ["form", "names"] (spF K (run K a (n+1) q05)):=
 con A.text_of sc_text_of (λws hw=>(lof q21 hw).1) λws hw f cdv A outer s H E Z hr=>⟨q3g K a (run K a n),(q0d (q0i 2 sc_text_of.nd (q0j (dv 0) q0c))
  (q0d (q0q (q0v (q0h hr) (dv 2) q0f)
  (q0e (q0n (x48 (q3b (q0j (dv 0) q0c)) q0f q0f)))
  q0o)
  (q0d (q0q (q0v (q0h hr) (dv 2) q0f)
  (q0e (q0n (q0l C.thing_at hr pass1 (q0a (dv 1) (q0a (q0j (dv 0) q0c) q0b)))))
  q0o)
  (q0d (q0i 3 sc_text_of.nd (q7h B.t_TIGHTNESS (dv 2)))
  (q0d (q0q (q0v (q0h hr) (dv 2) q0f)
  (q0d (q0i 4 sc_text_of.nd (q0l C.bracketed hr pass1 (q0a (q0j (dv 0) q0c) (q0a (dv 3) (q0a (dv 1) q0b)))))
  (q0e (q0n (q3r (q1o (q2e (dv 4) q4w)) (by decide)))))
  q0o)
  (q0d (q0i 5 sc_text_of.nd (q0l C.bracketed hr pass1 (q0a (q0j (dv 0) q0c) (q0a (dv 3) (q0a (dv 1) q0b)))))
  (q0d (q0i 6 sc_text_of.nd (q0l C.bracketed hr pass1 (q0a (q0j (dv 0) q0c) (q0a (q0m (dv 3) q0c) (q0a (dv 1) q0b)))))
  (q0e (q0n (q3r (q2e (dv 5) (q1o (q2e (dv 2) (q1o (q2e (dv 6) q4w))))) (by decide))))))))))),(lof q21 hw).2⟩
tm x6u  (A:Ats K mg):Cal P w K mg base (n+1) "bracketed" ["form", "least", "names"] (spF K (run K a (n+1) q16)):=
 con A.bracketed sc_bracketed (λws hw=>(lof q54 hw).1) λws hw f cdv A outer s H E Z hr=>⟨q5q K a (run K a n),(q0d (q0i 3 sc_bracketed.nd (q0l C.text_of hr pass1 (q0a (dv 0) (q0a (dv 2) q0b))))
  (q0d (q0q (q5p (x90 B.t_TIGHTNESS (q0a (q0j (dv 0) q0c) (q0a (q13 M.m_WHOLE M.g_WHOLE) q0b))) (dv 1))
  (q0e (q0n (q3r (q1o (q2e (dv 3) (q1o q4w))) (by decide))))
  q0o)
  (q0e (q0n (dv 3))))),(lof q54 hw).2⟩
tm x6v  (A:Ats K mg):Cal P w K mg base (n+1) "pieces_of" ["text"] (spF K (run K a (n+1) q20)):=
 con A.pieces_of sc_pieces_of (λws hw=>(lof q55 hw).1) λws hw f cdv A outer s H E Z hr=>⟨q5r K a (run K a n),(q0d (q33 1 sc_pieces_of.nd (q00 q0b))
  (q0d (q0i 2 sc_pieces_of.nd q0c)
  (q0d (x1e 1000000 PassesOwn.leaving (q5p (dv 2) (q0s B.b_len (q0a (dv 0) q0b)))
  (q0d (q0i 3 sc_pieces_of.nd (q0l C.end_of_piece hr pass1 (q0a (dv 0) (q0a (dv 2) q0b))))
  (q0d (q0q (q97 (q0h hr) (q0j (dv 0) (dv 2)) q0f)
  (q0e (q1s 1 (q0a (q0r (q0a (dv 2) (q0a (q08 (dv 0) (q1h (dv 2)) (q1h (dv 3))) q0b))) q0b)))
  q0o)
  (q0e (q0i 2 sc_pieces_of.nd (dv 3))))))
  (q0e (x79 1))))),(lof q55 hw).2⟩
tm x2n  (A:Ats K mg):Cal P w K mg base (n+1) "end_of_piece" ["text", "place"] (spF K (run K a (n+1) q2g)):=
 con A.end_of_piece sc_end_of_piece (λws hw=>(lof q4d hw).1) λws hw f cdv A outer s H E Z hr=>⟨q3t K a (run K a n),(q0d (q0i 2 sc_end_of_piece.nd (dv 1))
  (q0d (x1e 1000000 PassesOwn.leaving (dt_w (q11 (q5p (dv 2) (q0s B.b_len (q0a (dv 0) q0b))) (q2z (q3b (q0l C.is_small_letter hr pass1 (q0a (q0j (dv 0) (dv 2)) q0b))))))
  (q0e (q0i 2 sc_end_of_piece.nd (q0m (dv 2) q0c))))
  (q0e (q0n (y9n rfl B.b_max (q0a (dv 2) (q0a (q0m (dv 1) q0c) q0b))))))),(lof q4d hw).2⟩
tm x3f  (A:Ats K mg):Cal P w K mg base (n+1) "first_fault" ["pieces", "places", "length"] (spF K (run K a (n+1) q1y)):=
 con A.first_fault sc_first_fault (λws hw=>(lof q49 hw).1) λws hw f cdv A outer s H E Z hr=>⟨q38 K a (run K a n),(q0d (q0i 3 sc_first_fault.nd q6b)
  (q0d (q0i 4 sc_first_fault.nd q0c)
  (q0d (q6k 5 6 sc_first_fault.nd PassesOwn.leaving rfl (x6d (dv 0))
  (q0d (q0q (q3b (dv 3))
  (q0e (q0i 7 sc_first_fault.nd (q0l C.can_begin hr pass1 (q0a (dv 6) (q0a (dv 4) (q0a (dv 1) q0b))))))
  (q0e (q0i 7 sc_first_fault.nd (q0l C.can_follow hr pass1 (q0a (dv 6) (q0a (dv 4) q0b))))))
  (q0d (q0q (q84 (q3b (dv 7)))
  (q0e (q0n (dv 5)))
  q0o)
  (q0e (q0q (q0v (q0h hr) (dv 6) q0f)
  (q0e (q0i 4 sc_first_fault.nd (q0m (dv 4) q0c)))
  (q0e (q0q (q0v (q0h hr) (dv 6) q0f)
  (q0e (q0i 4 sc_first_fault.nd (x16 (dv 4) q0c)))
  (q0e (q0i 3 sc_first_fault.nd (y7b (q8a (q0h hr) (dv 6) q0f) (x12 (x9p (q0h hr) (dv 6) (q13 M.m_JOINING M.g_JOINING)))))))))))))
  (q0d (q0q (dt_w (q6c (q3b (dv 3)) (q6v (q7g (dv 4) q0c))))
  (q0e (q0n (dv 2)))
  q0o)
  (q0e (q0n q31)))))),(lof q49 hw).2⟩
tm x6w  (A:Ats K mg):Cal P w K mg base (n+1) "can_begin" ["piece", "brackets", "places"] (spF K (run K a (n+1) q34)):=
 con A.can_begin x6s (λws hw=>(lof q56 hw).1) λws hw f cdv A outer s H E Z hr=>⟨q5s K a (run K a n),(q0d (q0q (q0v (q0h hr) (dv 0) q0f)
  (q0e (q0n (z7k (dv 1) (q13 M.m_MOST_BRACKETS M.g_MOST_BRACKETS))))
  q0o)
  (q0e (q0n (y7b (x9p (q0h hr) (dv 0) (q0r (q0a q0f (q0a q0f (q0a q0f q0b))))) (x12 (z55 (q0h hr) (dv 0) (dv 2))))))),(lof q56 hw).2⟩
tm x40  (A:Ats K mg):Cal P w K mg base (n+1) "can_follow" ["piece", "brackets"] (spF K (run K a (n+1) q3d)):=
 con A.can_follow x4x (λws hw=>(lof q5i hw).1) λws hw f cdv A outer s H E Z hr=>⟨q42 K a (run K a n),(q0d (q0q (q0v (q0h hr) (dv 0) q0f)
  (q0e (q0n (z7l (dv 1) q0c)))
  q0o)
  (q0e (q0n (x9p (q0h hr) (dv 0) (q13 M.m_JOINING M.g_JOINING))))),(lof q5i hw).2⟩
tm x0t  (A:Ats K mg):Cal P w K mg base (n+1) "form_of_pieces" ["pieces", "places"] (spF K (run K a (n+1) q1t)):=
 con A.form_of_pieces sc_form_of_pieces (λws hw=>(lof q3j hw).1) λws hw f cdv A outer s H E Z hr=>⟨q2t K a (run K a n),(q0d (q33 2 sc_form_of_pieces.nd (q00 q0b))
  (q0d (q33 3 sc_form_of_pieces.nd (q00 q0b))
  (q0d (q6k 4 5 sc_form_of_pieces.nd PassesOwn.leaving rfl (x6d (dv 0))
  (q0e (q0q (dt_w (q6c (q0v (q0h hr) (dv 5) q0f) (q6v (q0v (q0h hr) (dv 5) q0f))))
  (q0e (q1s 3 (q0a (dv 5) q0b)))
  (q0e (q0q (q0v (q0h hr) (dv 5) q0f)
  (q0d (x3e 2 3 (by decide) C.settle hr pass1 (q0a (q13 M.m_LOOSEST_WORD M.g_LOOSEST_WORD) q0b))
  (q0e (x24 (q6x 3))))
  (q0e (q0q (x0a (q0h hr) (dv 5) (q13 M.m_JOINING M.g_JOINING))
  (q0d (x3e 2 3 (by decide) C.settle hr pass1 (q0a (q7h B.t_TIGHTNESS (dv 5)) q0b))
  (q0e (q1s 3 (q0a (dv 5) q0b))))
  (q0e (q1s 2 (q0a (q0l C.plain_form hr pass1 (q0a (dv 5) (q0a (dv 1) q0b))) q0b))))))))))
  (q0d (x3e 2 3 (by decide) C.settle hr pass1 (q0a (q13 M.m_LOOSEST_WORD M.g_LOOSEST_WORD) q0b))
  (q0e (q0n (q7w 2 q0c))))))),(lof q3j hw).2⟩
tm y2w  (A:Ats K mg):Cal P w K mg base (n+1) "settle" ["forms", "waiting", "least"] (spM K (run K a (n+1) q4b)):=
 conM2 A.settle sc_settle (λws hw=>(lof q8f hw).1) λws hw f cdv A outer s H E Z hr=>⟨q8e K a (run K a n),(q0e (x1e 1000000 PassesOwn.leaving (dt_w (q11 (q7g (q98 1 B.b_len) q0c) (q2z (y7h (q7h B.t_TIGHTNESS (q7w 1 (y1f q0c))) (dv 2)))))
  (q0d (q0i 3 sc_settle.nd (q6x 1))
  (q0d (q0i 4 sc_settle.nd (q6x 0))
  (q0e (q0q (q0v (q0h hr) (dv 3) q0f)
  (q0e (q1s 0 (q0a (q0r (q0a q0f (q0a (dv 4) q0b))) q0b)))
  (q0e (q1s 0 (q0a (q0r (q0a (dv 3) (q0a (q6x 0) (q0a (dv 4) q0b)))) q0b))))))))),(lof q8f hw).2⟩
tm x41  (A:Ats K mg):Cal P w K mg base (n+1) "plain_form" ["piece", "places"] (spF K (run K a (n+1) q3e)):=
 con A.plain_form x4y (λws hw=>(lof q5j hw).1) λws hw f cdv A outer s H E Z hr=>⟨q44 K a (run K a n),(q0d (q0q (q0v (q0h hr) (dv 0) q0f)
  (q0e (q0n (q0r (q0a q0f (q0a q6b q0b)))))
  q0o)
  (q0d (q0q (q0v (q0h hr) (dv 0) q0f)
  (q0e (q0n (q0r (q0a q0f (q0a q6b q0b)))))
  q0o)
  (q0e (q0n (q0r (q0a q0f (q0a (z57 (q0h hr) (dv 1) (dv 0)) q0b))))))),(lof q5j hw).2⟩
tm x42  (A:Ats K mg):Cal P w K mg base (n+1) "read_sheet" ["text"] (spF K (run K a (n+1) q2h)):=
 con A.read_sheet sc_read_sheet (λws hw=>(lof q5k hw).1) λws hw f cdv A outer s H E Z hr=>⟨q45 K a (run K a n),(q0d (q0q (x17 (q0l C.fault_row hr pass1 (q0a (dv 0) q0b)) q31)
  (q0e (q6w rais1 M.e_BadSheet M.m_BadSheet rfl (q0a q0f q0b)))
  q0o)
  (q0d (q0i 1 sc_read_sheet.nd (q0j (q0l C.standing_parts hr pass1 (q0a (x1j (dv 0) (q0a q0f q0b)) q0b)) q0c))
  (q0d (q0i 2 sc_read_sheet.nd (q3c B.b_tuple (q0a (q12 (x26 (x:="word") (Nf:=["parts"]) (js:=[1]) (sc:=defScope q3f) (N:=["text", "parts", "names", "forms", "firsts", "cells"]) rfl (q13 M.m_ROW_WORDS M.g_ROW_WORDS) (by decide +kernel)
   (λ_ _ _ _ _ _=>q6j)
   (λ_ _ _ _ _ _=>(q0l C.names_of hr passE (q0a (dv 1) (q0a (dv 0) q0b))))
   (λ_ _ _ _ _=>q17 0 (show(["word", "parts"]:List Str).Nodup by decide +kernel)))) q0b)))
  (q0d (x15 3 sc_read_sheet.nd (x:="part") (Nf:=["names"]) (js:=[2]) (sc:=defScope q3f) (N:=["text", "parts", "names", "forms", "firsts", "cells"]) rfl (dv 1) (by decide +kernel)
   (λ_ _ _ _ _ _=>(x25 (q97 (q0h hr) (q2f (q0h hr) (dv 0) q0f) q0f)))
   (λ_ _ _ _ _ _=>(q0l C.read hr passE (q0a (q2f (q0h hr) (dv 0) q0f) (q0a (q0m (q0j (dv 1) q0c) (q0j (dv 1) q0c)) q0b))))
   (λ_ _ _ _ _=>q17 0 (show(["part", "names"]:List Str).Nodup by decide +kernel)))
  (q0d (x15 4 sc_read_sheet.nd (x:="part") (Nf:=[]) (js:=[]) (sc:=defScope q3f) (N:=["text", "parts", "names", "forms", "firsts", "cells"]) rfl (dv 1) (by decide +kernel)
   (λ_ _ _ _ _ _=>(x25 (q0v (q0h hr) (q2f (q0h hr) (dv 0) q0f) q0f)))
   (λ_ _ _ _ _ _=>(q8a (q0h hr) (q2f (q0h hr) (dv 0) q0f) q0f))
   (λ_ _ _ _ _=>q17 0 (show(["part"]:List Str).Nodup by decide +kernel)))
  (q0d (q0i 5 sc_read_sheet.nd (q0s B.b_len (q0a (dv 4) q0b)))
  (q0e (q0n (q0r (q0a (dv 2) (q0a (q0r (q0a (q0s B.b_len (q0a (q0j (dv 2) q0c) q0b)) (q0a (y2s rfl B.b_tuple B.b_zip (q0a (dv 4) (q0a (q08 (dv 3) q2d (q1h (dv 5))) q0b))) (q0a (q3c B.b_tuple (q0a (q08 (dv 3) (q1h (dv 5)) q2d) q0b)) q0b)))) q0b))))))))))),(lof q5k hw).2⟩
tm x6x  (A:Ats K mg):Cal P w K mg base (n+1) "fault_row" ["text"] (spF K (run K a (n+1) q35)):=
 con A.fault_row sc_fault_row (λws hw=>(lof q57 hw).1) λws hw f cdv A outer s H E Z hr=>⟨q5t K a (run K a n),(q0d (q0i 1 sc_fault_row.nd (q0l C.standing_parts hr pass1 (q0a (x1j (dv 0) (q0a q0f q0b)) q0b)))
  (q0d (q0q (x17 (q0j (dv 1) q0c) q31)
  (q0e (q0n (q0j (dv 1) q0c)))
  q0o)
  (q0d (q0i 2 sc_fault_row.nd (q0m (q0l C.names_of hr pass1 (q0a (q0j (dv 1) q0c) (q0a q0f q0b))) (q0l C.names_of hr pass1 (q0a (q0j (dv 1) q0c) (q0a q0f q0b)))))
  (q0d (q85 3 sc_fault_row.nd PassesOwn.leaving rfl (q0j (dv 1) q0c)
  (q0e (q0q (dt_w (q11 (q97 (q0h hr) (q2f (q0h hr) (dv 3) q0f) q0f) (q2z (x17 (q0l C.fault hr pass1 (q0a (q2f (q0h hr) (dv 3) q0f) (q0a (dv 2) q0b))) q31))))
  (q0e (q0n (q2f (q0h hr) (dv 3) q0f)))
  q0o)))
  (q0e (q0n q31)))))),(lof q57 hw).2⟩
tm x0u  (A:Ats K mg):Cal P w K mg base (n+1) "standing_parts" ["rows"] (spF K (run K a (n+1) q1i)):=
 con A.standing_parts sc_standing_parts (λws hw=>(lof q3k hw).1) λws hw f cdv A outer s H E Z hr=>⟨q2u K a (run K a n),(q0d (q33 1 sc_standing_parts.nd (q00 q0b))
  (q0d (q6k 2 3 sc_standing_parts.nd PassesOwn.leaving rfl (y9u B.b_enumerate (q0a (dv 0) q0b))
  (q0e (q0q (q7g (q0s B.b_len (q0a (q0l C.words_in hr pass1 (q0a (dv 3) q0b)) q0b)) q0c)
  (q0d (y50 4 sc_standing_parts.nd C.part_of_row hr pass1 (q0a (dv 3) (q0a (dv 2) q0b)))
  (q0d (q0q (q84 (q3b (y2b λ_=>(q0l C.can_stand hr pass1 (q0a (dv 4) (q0a (dv 1) q0b))))))
  (q0e (q0n (q0r (q0a (dv 1) (q0a (dv 2) q0b)))))
  q0o)
  (q0e (q1s 1 (q0a (dv 4) q0b)))))
  q0o)))
  (q0e (q0n (q0r (q0a (dv 1) (q0a (x48 (q0v (q0h hr) (q98 1 B.b_len) q0c) (q0s B.b_len (q0a (dv 0) q0b)) q31) q0b))))))),(lof q3k hw).2⟩
tm x7s  (A:Ats K mg):Cal P w K mg base (n+1) "words_in" ["text"] (spF K (run K a (n+1) q3s)):=
 con A.words_in x7p (λws hw=>(lof q66 hw).1) λws hw f cdv A outer s H E Z hr=>⟨q6e K a (run K a n),(q0e (y8f (x26 (x:="word") (Nf:=[]) (js:=[]) (sc:=defScope q8d) (N:=["text"]) rfl (x1j (dv 0) (q0a q0f q0b)) (by decide +kernel)
   (λ_ _ _ _ _ _=>(x25 (q97 (q0h hr) (dv 0) q0f)))
   (λ_ _ _ _ _ _=>(dv 0))
   (λ_ _ _ _ _=>q17 0 (show(["word"]:List Str).Nodup by decide +kernel))))),(lof q66 hw).2⟩
tm x3g  (A:Ats K mg):Cal P w K mg base (n+1) "part_of_row" ["row", "number"] (spF K (run K a (n+1) q0z)):=
 con A.part_of_row sc_part_of_row (λws hw=>(lof q5a hw).1) λws hw f cdv A outer s H E Z hr=>⟨q39 K a (run K a n),(q0d (q0i 2 sc_part_of_row.nd (z0z (dv 0) (q0a q0f q0b)))
  (q0d (q0i 3 sc_part_of_row.nd (q0l C.words_in hr pass1 (q0a (q0j (dv 2) q0c) q0b)))
  (q0d (y55 4 ["row", "word", "names", "first", "form"] sc_part_of_row.nd (q1x (dv 1) (q1x q0f (q1x (q0r q0b) (q1x q31 (q1x (q0j (dv 2) q0c) x2f))))))
  (q0d (q0q (dt_w (q11 (q0v (q0h hr) (q08 (dv 3) q2d (q1h q0c)) (q12 (q00 (q0a q0f q0b)))) (q2z (q0v (q0h hr) (q0j (dv 2) q0c) q0f))))
  (q0e (x6p 4 ["word", "names"] (q1x q0f (q1x (q3c B.b_tuple (q0a (q08 (dv 3) (q1h q0c) q2d) q0b)) x2f))))
  (q0e (q0q (dt_w (q11 (q0v (q0h hr) (q08 (dv 3) q2d (q1h q0c)) (q12 (q00 (q0a q0f q0b)))) (q11 (q0v (q0h hr) (q0j (dv 2) q0c) q0f) (q11 (q0v (q0h hr) (q0s B.b_len (q0a (dv 3) q0b)) q0c) (q2z (x0a (q0h hr) (q0j (dv 3) q0c) (q13 M.m_FIRST_TRUTHS M.g_FIRST_TRUTHS)))))))
  (q0e (x6p 4 ["word", "names", "first"] (q1x q0f (q1x (q0r (q0a (q0j (dv 3) q0c) q0b)) (q1x (q0j (dv 3) q0c) x2f)))))
  (q0e (q0q (dt_w (q11 (q0v (q0h hr) (q08 (dv 3) q2d (q1h q0c)) (q12 (q00 (q0a q0f q0b)))) (q11 (q0v (q0h hr) (q0j (dv 2) q0c) q0f) (q2z (q0v (q0h hr) (q0s B.b_len (q0a (dv 3) q0b)) q0c)))))
  (q0e (x6p 4 ["word", "names"] (q1x q0f (q1x (q0r (q0a (q0j (dv 3) q0c) q0b)) x2f))))
  q0o)))))
  (q0e (z00 4)))))),(lof q5a hw).2⟩
tm x6y  (A:Ats K mg):Cal P w K mg base (n+1) "can_stand" ["part", "ahead"] (spF K (run K a (n+1) q36)):=
 con A.can_stand sc_can_stand (λws hw=>(lof q58 hw).1) λws hw f cdv A outer s H E Z hr=>⟨q5u K a (run K a n),(q0d (q0i 2 sc_can_stand.nd (q2f (q0h hr) (dv 0) q0f))
  (q0d (q0i 3 sc_can_stand.nd (x48 (q7g (q0s B.b_len (q0a (dv 1) q0b)) q0c) (q2f (q0h hr) (q0j (dv 1) (y1f q0c)) q0f) q0f))
  (q0d (q0q (dt_w (q6c (y1q (q0h hr) (dv 2) (q13 M.m_ROW_WORDS M.g_ROW_WORDS)) (q6v (y1q (q0h hr) (dv 3) (z1a B.t_BEHIND (dv 2))))))
  (q0e (q0n q6b))
  q0o)
  (q0d (q0q (q7g (q0s B.b_len (q0a (q0m (q0l C.names_of hr pass1 (q0a (dv 1) (q0a (dv 2) q0b))) (q2f (q0h hr) (dv 0) q0f)) q0b)) (q7h B.t_MOST_NAMES (dv 2)))
  (q0e (q0n q6b))
  q0o)
  (q0d (q33 4 sc_can_stand.nd (q00 q0b))
  (q0d (q85 5 sc_can_stand.nd PassesOwn.leaving rfl (q13 M.m_ROW_WORDS M.g_ROW_WORDS)
  (q0e (z5j 4 (q0a (q0l C.names_of hr pass1 (q0a (dv 1) (q0a (dv 5) q0b))) q0b))))
  (q0d (q85 6 sc_can_stand.nd PassesOwn.leaving rfl (q2f (q0h hr) (dv 0) q0f)
  (q0d (q0q (dt_w (q6c (x4b λ_=>(x0a (q0h hr) (dv 6) (dv 4))) (q6c (x0a (q0h hr) (dv 6) (q13 M.m_ROW_WORDS M.g_ROW_WORDS)) (q6v (q84 (q3b (q0l C.is_name hr pass1 (q0a (dv 6) q0b))))))))
  (q0e (q0n q6b))
  q0o)
  (q0e (q1s 4 (q0a (dv 6) q0b)))))
  (q0e (q0n q6b))))))))),(lof q58 hw).2⟩
tm x7t  (A:Ats K mg):Cal P w K mg base (n+1) "names_of" ["parts", "word"] (spF K (run K a (n+1) q1q)):=
 con A.names_of sc_names_of (λws hw=>(lof q67 hw).1) λws hw f cdv A outer s H E Z hr=>⟨q6f K a (run K a n),(q0d (q0i 2 sc_names_of.nd (q0r q0b))
  (q0d (q85 3 sc_names_of.nd PassesOwn.leaving rfl (dv 0)
  (q0e (q0q (q0v (q0h hr) (q2f (q0h hr) (dv 3) q0f) (dv 1))
  (q0e (q0i 2 sc_names_of.nd (q0m (dv 2) (q2f (q0h hr) (dv 3) q0f))))
  q0o)))
  (q0e (q0n (dv 2))))),(lof q67 hw).2⟩
tm x3h  (A:Ats K mg):Cal P w K mg base (n+1) "shown_sheet" ["names", "circuit"] (spF K (run K a (n+1) q1g)):=
 con A.shown_sheet sc_shown_sheet (λws hw=>(lof q5b hw).1) λws hw f cdv A outer s H E Z hr=>⟨q4a K a (run K a n),(q0d (q0i 2 sc_shown_sheet.nd (q0m (q0j (dv 0) q0c) (q0j (dv 0) q0c)))
  (q0d (q33 3 sc_shown_sheet.nd (q00 (q0a (x0b q0f (q0a (q0m (q0r (q0a q0f q0b)) (q0j (dv 0) q0c)) q0b)) q0b)))
  (q0d (q6k 4 5 sc_shown_sheet.nd PassesOwn.leaving rfl (y2a B.b_zip (q0a (q0j (dv 0) q0c) (q0a (q0j (dv 1) q0c) q0b)))
  (q0d (q0i 6 sc_shown_sheet.nd (x48 (q3b (q0j (dv 5) q0c)) q0f q0f))
  (q0d (q0i 7 sc_shown_sheet.nd (q0l C.shown hr pass1 (q0a (q0j (dv 5) q0c) (q0a (dv 2) q0b))))
  (q0e (q1s 3 (q0a (q3r (q1o (q2e (dv 4) (q1o (q2e (dv 6) (q1o (q2e (dv 7) q4w)))))) (by decide)) q0b))))))
  (q0d (q6k 4 8 sc_shown_sheet.nd PassesOwn.leaving rfl (y2a B.b_zip (q0a (q0j (dv 0) q0c) (q0a (q0j (dv 1) q0c) q0b)))
  (q0d (q0i 7 sc_shown_sheet.nd (q0l C.shown hr pass1 (q0a (dv 8) (q0a (dv 2) q0b))))
  (q0e (q1s 3 (q0a (q3r (q1o (q2e (dv 4) (q1o (q2e (dv 7) q4w)))) (by decide)) q0b)))))
  (q0e (q0n (x0b q0f (q0a (q12 (x26 (x:="row") (Nf:=[]) (js:=[]) (sc:=defScope q53) (N:=["names", "circuit", "known", "rows", "name", "cell", "first", "form", "answer"]) rfl (dv 3) (by decide +kernel)
   (λ_ _ _ _ _ _=>q6j)
   (λ_ _ _ _ _ _=>(q3r (q2e (dv 0) (q1o q4w)) (by decide)))
   (λ_ _ _ _ _=>q17 0 (show(["row"]:List Str).Nodup by decide +kernel)))) q0b)))))))),(lof q5b hw).2⟩
tm x2o  (A:Ats K mg):Cal P w K mg base (n+1) "_law_cell_at" ["_law_script", "_law_k"] (spF K (run K a (n+1) q03)):=
 con A._law_cell_at x2i (λws hw=>(lof q4e hw).1) λws hw f cdv A outer s H E Z hr=>⟨q3v K a (run K a n),(q0d (q0q (q5p (dv 1) (q0s B.b_len (q0a (dv 0) q0b)))
  (q0e (q0n (q0j (dv 0) (dv 1))))
  q0o)
  (q0e (q0n q0c))),(lof q4e hw).2⟩
tm x43  (A:Ats K mg):Cal P w K mg base (n+1) "_law_mixed" ["_law_cell", "_law_k"] (spF K (run K a (n+1) q1d)):=
 con A._law_mixed x4z (λws hw=>(lof q5l hw).1) λws hw f cdv A outer s H E Z hr=>⟨q47 K a (run K a n),(q0e (q0n (q0t (z3w (q0t (q0m (q87 (dv 0) q0c) (q87 (q0m (dv 1) q0c) q0c)) q0c) q0c) q0c))),(lof q5l hw).2⟩
tm x2p  (A:Ats K mg):Cal P w K mg base (n+1) "_law_leaf_by" ["_law_cell", "_law_many"] (spF K (run K a (n+1) q1r)):=
 con A._law_leaf_by x2j (λws hw=>(lof q4f hw).1) λws hw f cdv A outer s H E Z hr=>⟨q3w K a (run K a n),(q0d (q0q (dt_w (q6c (q0v (q0h hr) (dv 1) q0c) (q6v (q0v (q0h hr) (q0t (dv 0) q0c) q0c))))
  (q0e (q0n (q0r (q0a q0f (q0a (q8a (q0h hr) (q0t (q06 (dv 0) q0c) q0c) q0c) q0b)))))
  q0o)
  (q0e (q0n (q0r (q0a q0f (q0a (q0t (q06 (dv 0) q0c) (dv 1)) q0b)))))),(lof q4f hw).2⟩
tm x2q  (A:Ats K mg):Cal P w K mg base (n+1) "_law_form_by" ["_law_cells", "_law_many"] (spF K (run K a (n+1) q2i)):=
 con A._law_form_by sc__law_form_by (λws hw=>(lof q4g hw).1) λws hw f cdv A outer s H E Z hr=>⟨q3x K a (run K a n),(q0d (q33 2 sc__law_form_by.nd (q00 (q0a (q0l C._law_leaf_by hr pass1 (q0a (q0s B.b_len (q0a (dv 0) q0b)) (q0a (dv 1) q0b))) q0b)))
  (q0d (q85 3 sc__law_form_by.nd PassesOwn.leaving rfl (dv 0)
  (q0d (q0i 4 sc__law_form_by.nd (q0t (dv 3) q0c))
  (q0d (q0i 5 sc__law_form_by.nd (q06 (dv 3) q0c))
  (q0e (q0q (q0v (q0h hr) (dv 4) q0c)
  (q0e (q1s 2 (q0a (q0r (q0a q0f (q0a (q6x 2) q0b))) q0b)))
  (q0e (q0q (dt_w (q11 (q5p (dv 4) q0c) (q2z (q7g (q98 2 B.b_len) q0c))))
  (q0d (q0i 6 sc__law_form_by.nd (q6x 2))
  (q0e (q1s 2 (q0a (q0r (q0a (q0j (q12 (q00 (q0a q0f (q0a q0f (q0a q0f q0b))))) (q0t (dv 5) q0c)) (q0a (q6x 2) (q0a (dv 6) q0b)))) q0b))))
  (q0e (q1s 2 (q0a (q0l C._law_leaf_by hr pass1 (q0a (dv 5) (q0a (dv 1) q0b))) q0b))))))))))
  (q0d (q0i 7 sc__law_form_by.nd (q7w 2 q0c))
  (q0d (y8g 8 sc__law_form_by.nd PassesOwn.leaving rfl B.b_range (q0a q0c (q0a (q98 2 B.b_len) q0b))
  (q0e (q0i 7 sc__law_form_by.nd (q0r (q0a (q0j (q12 (q00 (q0a q0f (q0a q0f (q0a q0f q0b))))) (q0t (q0m (dv 8) (q0s B.b_len (q0a (dv 0) q0b))) q0c)) (q0a (dv 7) (q0a (q7w 2 (dv 8)) q0b)))))))
  (q0e (q0n (dv 7))))))),(lof q4g hw).2⟩
tm x1l  (A:Ats K mg):Cal P w K mg base (n+1) "_law_names_by" ["_law_cell", "_law_count"] (spF K (run K a (n+1) q14)):=
 con A._law_names_by sc__law_names_by (λws hw=>(lof q3z hw).1) λws hw f cdv A outer s H E Z hr=>⟨q29 K a (run K a n),(q0d (q0i 2 sc__law_names_by.nd q0f)
  (q0d (q33 3 sc__law_names_by.nd (q00 q0b))
  (q0d (q94 4 sc__law_names_by.nd PassesOwn.leaving rfl B.b_range (q0a (dv 1) q0b)
  (q0d (q0i 5 sc__law_names_by.nd (q0j (dv 2) (q0t (q0m (q06 (dv 0) q0c) (q87 q0c (dv 4))) q0c)))
  (q0d (q0i 6 sc__law_names_by.nd (q0j (q12 (q00 (q0a q0c (q0a q0c (q0a q0c (q0a q0c (q0a q0c (q0a q0c (q0a q0c (q0a q0c q0b)))))))))) (q0t (q06 (dv 0) q0c) q0c)))
  (q0d (q0q (q0v (q0h hr) (q0t (dv 0) q0c) q0c)
  (q0e (q0i 6 sc__law_names_by.nd (q0t (q0l C._law_mixed hr pass1 (q0a (dv 0) (q0a (dv 4) q0b))) q0c)))
  q0o)
  (q0d (q0i 7 sc__law_names_by.nd (q0t (q06 (dv 0) q0c) (q0m (dv 6) q0c)))
  (q0d (q0i 8 sc__law_names_by.nd (q0m (q0m (x8k q0f (dv 7)) (dv 5)) (x8k q0f (x16 (dv 6) (dv 7)))))
  (q0d (q0q (q0v (q0h hr) (q0t (dv 0) q0c) q0c)
  (q0d (q7n 9 sc__law_names_by.nd (x:="_law_j") (Nf:=["_law_cell", "_law_letters", "_law_k"]) (js:=[0,2,4]) (sc:=defScope q41) (N:=["_law_cell", "_law_count", "_law_letters", "_law_some", "_law_k", "_law_letter", "_law_size", "_law_at", "_law_name", "_law_tail"]) rfl B.b_range (q0a (dv 6) q0b) (by decide +kernel)
   (λ_ _ _ _ _ _=>q6j)
   (λ_ _ _ _ _ _=>(q0j (dv 2) (q0t (q0l C._law_mixed hr passE (q0a (dv 1) (q0a (q0m (q87 q0c (dv 3)) (dv 0)) q0b))) q0c)))
   (λ_ _ _ _ _=>q17 0 (show(["_law_j", "_law_cell", "_law_letters", "_law_k"]:List Str).Nodup by decide +kernel)))
  (q0e (q0i 8 sc__law_names_by.nd (q0m (dv 5) (x0b q0f (q0a (dv 9) q0b))))))
  q0o)
  (q0d (q0q (x0a (q0h hr) (dv 8) (q0r (q0a q0f (q0a q0f (q0a q0f (q0a q0f (q0a q0f (q0a q0f (q0a q0f (q0a q0f (q0a q0f q0b)))))))))))
  (q0e (q0i 8 sc__law_names_by.nd (q0m (dv 8) q0f)))
  q0o)
  (q0e (q1s 3 (q0a (dv 8) q0b)))))))))))
  (q0e (x79 3))))),(lof q3z hw).2⟩
tm q9s  (A:Ats K mg):Cal P w K mg base (n+1) "_law_circuit_by" ["_law_script", "_law_most"] (spF K (run K a (n+1) q1p)):=
 con A._law_circuit_by sc__law_circuit_by (λws hw=>(lof q26 hw).1) λws hw f cdv A outer s H E Z hr=>⟨q2c K a (run K a n),(q0d (q0i 2 sc__law_circuit_by.nd (q0l C._law_cell_at hr pass1 (q0a (dv 0) (q0a q0c q0b))))
  (q0d (q0i 3 sc__law_circuit_by.nd (q0t (dv 2) q0c))
  (q0d (q0i 4 sc__law_circuit_by.nd (q0t (q06 (dv 2) q0c) q0c))
  (q0d (q0q (dt_w (q11 (q0v (q0h hr) (q0t (q06 (dv 2) q0c) q0c) q0c) (q2z (q5p (dv 3) q0c))))
  (q0e (q0i 4 sc__law_circuit_by.nd q0c))
  q0o)
  (q0d (q0q (q0v (q0h hr) (q0t (q06 (dv 2) q0c) q0c) q0c)
  (q0d (q0i 3 sc__law_circuit_by.nd q0c)
  (q0e (q0i 4 sc__law_circuit_by.nd (q0t (dv 4) q0c))))
  q0o)
  (q0d (q0i 5 sc__law_circuit_by.nd (q0j (q12 (q00 (q0a q0c (q0a q0c (q0a q0c (q0a q0c q0b)))))) (q0t (q06 (dv 2) q0c) q0c)))
  (q0d (q0q (q0v (q0h hr) (q0t (q06 (dv 2) q0c) q0c) q0c)
  (q0e (q0i 5 sc__law_circuit_by.nd q0c))
  q0o)
  (q0d (q33 6 sc__law_circuit_by.nd (q00 q0b))
  (q0d (q94 7 sc__law_circuit_by.nd PassesOwn.leaving rfl B.b_range (q0a (q0m (dv 4) (dv 5)) q0b)
  (q0d (q0i 8 sc__law_circuit_by.nd (q0l C._law_cell_at hr pass1 (q0a (dv 0) (q0a (q0m q0c (dv 7)) q0b))))
  (q0d (q0i 9 sc__law_circuit_by.nd (q0m q0c (q0t (q0l C._law_mixed hr pass1 (q0a (dv 8) (q0a (dv 7) q0b))) (dv 1))))
  (q0d (q7n 10 sc__law_circuit_by.nd (x:="_law_j") (Nf:=["_law_k", "_law_seed"]) (js:=[7,8]) (sc:=defScope q18) (N:=["_law_script", "_law_most", "_law_cell", "_law_many", "_law_cells", "_law_outs", "_law_forms", "_law_k", "_law_seed", "_law_count", "_law_some", "_law_first", "_law_held"]) rfl B.b_range (q0a (dv 9) q0b) (by decide +kernel)
   (λ_ _ _ _ _ _=>q6j)
   (λ_ _ _ _ _ _=>(q0l C._law_mixed hr passE (q0a (dv 2) (q0a (q0m (q87 q0c (dv 1)) (dv 0)) q0b))))
   (λ_ _ _ _ _=>q17 0 (show(["_law_j", "_law_k", "_law_seed"]:List Str).Nodup by decide +kernel)))
  (q0e (q1s 6 (q0a (q0l C._law_form_by hr pass1 (q0a (dv 10) (q0a (q0m (dv 3) (dv 4)) q0b))) q0b)))))))
  (q0d (q0i 11 sc__law_circuit_by.nd (q0l C._law_cell_at hr pass1 (q0a (dv 0) (q0a q0c q0b))))
  (q0d (q7n 12 sc__law_circuit_by.nd (x:="_law_k") (Nf:=["_law_forms", "_law_first"]) (js:=[6,11]) (sc:=defScope q18) (N:=["_law_script", "_law_most", "_law_cell", "_law_many", "_law_cells", "_law_outs", "_law_forms", "_law_k", "_law_seed", "_law_count", "_law_some", "_law_first", "_law_held"]) rfl B.b_range (q0a (dv 4) q0b) (by decide +kernel)
   (λ_ _ _ _ _ _=>q6j)
   (λ_ _ _ _ _ _=>(q0r (q0a (q8a (q0h hr) (q0t (q06 (dv 2) (q0m (dv 0) q0c)) q0c) q0c) (q0a (q0j (dv 1) (dv 0)) q0b))))
   (λ_ _ _ _ _=>q17 0 (show(["_law_k", "_law_forms", "_law_first"]:List Str).Nodup by decide +kernel)))
  (q0e (q0n (q0r (q0a (dv 3) (q0a (q3c B.b_tuple (q0a (dv 12) q0b)) (q0a (q3c B.b_tuple (q0a (q08 (dv 6) (q1h (dv 4)) q2d) q0b)) q0b))))))))))))))))),(lof q26 hw).2⟩
tm x44  (A:Ats K mg):Cal P w K mg base (n+1) "_law_three" ["_law_script", "_law_circuit"] (spF K (run K a (n+1) q2j)):=
 con A._law_three sc__law_three (λws hw=>(lof q5m hw).1) λws hw f cdv A outer s H E Z hr=>⟨q48 K a (run K a n),(q0d (q0i 2 sc__law_three.nd (q0m (q0j (dv 1) q0c) (q0s B.b_len (q0a (q0j (dv 1) q0c) q0b))))
  (q0d (q0i 3 sc__law_three.nd (q0l C._law_names_by hr pass1 (q0a (q0l C._law_cell_at hr pass1 (q0a (dv 0) (q0a q0c q0b))) (q0a (q0m (dv 2) (q0s B.b_len (q0a (q0j (dv 1) q0c) q0b))) q0b))))
  (q0e (q0n (q0r (q0a (q3c B.b_tuple (q0a (q08 (dv 3) q2d (q1h (q0j (dv 1) q0c))) q0b)) (q0a (q3c B.b_tuple (q0a (q08 (dv 3) (q1h (q0j (dv 1) q0c)) (q1h (dv 2))) q0b)) (q0a (q3c B.b_tuple (q0a (q08 (dv 3) (q1h (dv 2)) q2d) q0b)) q0b)))))))),(lof q5m hw).2⟩
tm x6z  (A:Ats K mg):Cal P w K mg base (n+1) "_law_word" ["_law_names", "_law_circuit"] (spF K (run K a (n+1) q1m)):=
 con A._law_word sc__law_word (λws hw=>(lof q59 hw).1) λws hw f cdv A outer s H E Z hr=>⟨q5v K a (run K a n),(q0d (q0i 2 sc__law_word.nd q31)
  (q0d (z1c M.m_CircuitError sc__law_word.nd (i:=3) rfl rfl (λEE pn xe hx1=>(q0e (x24 (q0l C.shown_sheet hr hx1 (q0a (dv 0) (q0a (dv 1) q0b))))))
  (λe=>(q0e (q0i 2 sc__law_word.nd (dv 3)))))
  (q0d (q0q (z7m (dv 2) q31)
  (q0e (q0n q0f))
  q0o)
  (q0d (q0i 4 sc__law_word.nd (q0m (y17 (q12 (q00 (q0a q0f q0b))) (x29 B.b_int (q0a (x18 (c0:=.ref _) rfl (x8e M.m_NoName) B.b_isinstance (dv 2)) q0b))) (y17 (q12 (q00 (q0a q0f q0b))) (x29 B.b_int (q0a (x18 (c0:=.ref _) rfl (x8e M.m_NoPlace) B.b_isinstance (dv 2)) q0b)))))
  (q0d (q0q (dt_w (q11 (q0v (q0h hr) (q0s B.b_len (q0a (dv 4) q0b)) q0c) (q2z (q3b (x18 (c0:=.ty _) rfl (x8f PyProof.Rows.Boot.«ValueError» B.b_ValueError) B.b_isinstance (dv 2))))))
  (q0e (q0n (q0j (dv 4) q0c)))
  q0o)
  (q0e (q0n q0f))))))),(lof q59 hw).2⟩
tm x7u  (A:Ats K mg):Cal P w K mg base (n+1) "_law_put" ["_law_some", "_law_at", "_law_thing"] (spF K (run K a (n+1) q15)):=
 con A._law_put x7q (λws hw=>(lof q68 hw).1) λws hw f cdv A outer s H E Z hr=>⟨q6g K a (run K a n),(q0e (q0n (q0m (q0m (q08 (dv 0) q2d (q1h (dv 1))) (q0r (q0a (dv 2) q0b))) (q08 (dv 0) (q1h (q0m (dv 1) q0c)) q2d)))),(lof q68 hw).2⟩
tm x0v  (A:Ats K mg):Cal P w K mg base (n+1) "_law_bad_names" ["_law_names", "_law_cell"] (spF K (run K a (n+1) q1j)):=
 con A._law_bad_names sc__law_bad_names (λws hw=>(lof q3l hw).1) λws hw f cdv A outer s H E Z hr=>⟨q2w K a (run K a n),(q0d (q0i 2 sc__law_bad_names.nd (q0m (q0j (dv 0) q0c) (q0j (dv 0) q0c)))
  (q0d (q0i 3 sc__law_bad_names.nd (q0j (q12 (q00 (q0a q0f (q0a q0f (q0a q0f (q0a q0f (q0a q0f (q0a q0f (q0a q0f (q0a (q0j (dv 2) (q0t (q06 (dv 1) q0c) (q0s B.b_len (q0a (dv 2) q0b)))) q0b)))))))))) (q0t (dv 1) q0c)))
  (q0d (q0i 4 sc__law_bad_names.nd (q0t (q06 (dv 1) q0c) (q0s B.b_len (q0a (dv 2) q0b))))
  (q0d (q0q (q0v (q0h hr) (q0j (dv 2) (dv 4)) (dv 3))
  (q0e (q0i 3 sc__law_bad_names.nd q0f))
  q0o)
  (q0d (q0q (q5p (dv 4) (q0s B.b_len (q0a (q0j (dv 0) q0c) q0b)))
  (q0e (q0n (q0r (q0a (q0l C._law_put hr pass1 (q0a (q0j (dv 0) q0c) (q0a (dv 4) (q0a (dv 3) q0b)))) (q0a (q0j (dv 0) q0c) (q0a (q0j (dv 0) q0c) q0b))))))
  q0o)
  (q0e (q0n (q0r (q0a (q0j (dv 0) q0c) (q0a (q0l C._law_put hr pass1 (q0a (q0j (dv 0) q0c) (q0a (x16 (dv 4) (q0s B.b_len (q0a (q0j (dv 0) q0c) q0b))) (q0a (dv 3) q0b)))) (q0a (q0j (dv 0) q0c) q0b))))))))))),(lof q3l hw).2⟩
tm x7v  (A:Ats K mg):Cal P w K mg base (n+1) "_law_far" ["_law_circuit", "_law_cell"] (spF K (run K a (n+1) q40)):=
 con A._law_far sc__law_far (λws hw=>(lof q69 hw).1) λws hw f cdv A outer s H E Z hr=>⟨q6h K a (run K a n),(q0d (q0i 2 sc__law_far.nd (q0r (q0a q0f (q0a (q0r (q0a q0f (q0a (q0m (q0m (q0j (dv 0) q0c) (q0s B.b_len (q0a (q0j (dv 0) q0c) q0b))) (q0t (dv 1) q0c)) q0b))) q0b))))
  (q0d (q0i 3 sc__law_far.nd (q0t (q06 (dv 1) q0c) (q0m (q0s B.b_len (q0a (q0j (dv 0) q0c) q0b)) (q0s B.b_len (q0a (q0j (dv 0) q0c) q0b)))))
  (q0d (q0q (q5p (dv 3) (q0s B.b_len (q0a (q0j (dv 0) q0c) q0b)))
  (q0e (q0n (q0r (q0a (q0j (dv 0) q0c) (q0a (q0l C._law_put hr pass1 (q0a (q0j (dv 0) q0c) (q0a (dv 3) (q0a (q0r (q0a (q0j (q0j (q0j (dv 0) q0c) (dv 3)) q0c) (q0a (dv 2) q0b))) q0b)))) (q0a (q0j (dv 0) q0c) q0b))))))
  q0o)
  (q0e (q0n (q0r (q0a (q0j (dv 0) q0c) (q0a (q0j (dv 0) q0c) (q0a (q0l C._law_put hr pass1 (q0a (q0j (dv 0) q0c) (q0a (x16 (dv 3) (q0s B.b_len (q0a (q0j (dv 0) q0c) q0b))) (q0a (dv 2) q0b)))) q0b))))))))),(lof q69 hw).2⟩
tm x2r  (A:Ats K mg):Cal P w K mg base (n+1) "_law_refused" ["_law_names", "_law_circuit", "_law_cell"] (spF K (run K a (n+1) q2k)):=
 con A._law_refused sc__law_refused (λws hw=>(lof q4h hw).1) λws hw f cdv A outer s H E Z hr=>⟨q3y K a (run K a n),(q0d (q0i 3 sc__law_refused.nd (q0t (dv 2) q0c))
  (q0d (q0q (q0v (q0h hr) (q0m (q0j (dv 0) q0c) (q0j (dv 0) q0c)) (q0r q0b))
  (q0e (q0i 3 sc__law_refused.nd q0c))
  q0o)
  (q0d (q33 4 sc__law_refused.nd (q00 (q0a (dv 0) (q0a (dv 1) q0b))))
  (q0d (q0q (q97 (q0h hr) (dv 3) q0c)
  (q0e (y1u 4 (q0l C._law_bad_names hr pass1 (q0a (dv 0) (q0a (q06 (dv 2) q0c) q0b))) q0c))
  q0o)
  (q0d (q0q (q7g (dv 3) q0c)
  (q0e (y1u 4 (q0l C._law_far hr pass1 (q0a (dv 1) (q0a (q06 (dv 2) q0c) q0b))) q0c))
  q0o)
  (q0e (q0n (q8a (q0h hr) (q0l C._law_word hr pass1 (q0a (q7w 4 q0c) (q0a (q7w 4 q0c) q0b))) (q0j (q12 (q00 (q0a q0f (q0a q0f (q0a q0f q0b))))) (dv 3)))))))))),(lof q4h hw).2⟩
tm y7o  {f:Addr}{cdv:Value}{A:Around}{outer:List Env}{s:Shared}{H:Hp}{E:XK}{Z:Zt}(hr:Room n (A.deeper (PyProof.Rows.envOfC "law" (defScope x0f) s.heap.objs.size f cdv))):
  DSs Z (cxOf (CX1 P w) P w K mg base ["_law_script", "_law_circuit", "_law_names", "_law_known", "_law_due", "_law_k", "_law_word_here", "_law_told", "_law_cell", "_law_found"] "law" (defScope x0f) f cdv A outer s H E) (λ_=>E) (defBody x0f) (x5f K a (run K a n)):=
 (q0d (q0i 1 sc_law.nd (q0l C._law_circuit_by hr pass1 (q0a (dv 0) (q0a q0c q0b))))
  (q0d (q0i 2 sc_law.nd (q0l C._law_three hr pass1 (q0a (dv 0) (q0a (dv 1) q0b))))
  (q0d (q0i 3 sc_law.nd (q0m (q0j (dv 2) q0c) (q0j (dv 2) q0c)))
  (q0d (q0i 4 sc_law.nd (q0m (x0b q0f (q0a (q0m (q12 (q00 (q0a q0f q0b))) (q12 (y8m B.b_list (q0a (q0j (dv 2) q0c) q0b)))) q0b)) q0f))
  (q0d (q94 5 sc_law.nd PassesOwn.leaving rfl B.b_range (q0a (q0s B.b_len (q0a (q0j (dv 1) q0c) q0b)) q0b)
  (q0d (q0i 6 sc_law.nd (q0j (q12 (q00 (q0a q0f (q0a q0f q0b)))) (x29 B.b_int (q0a (q0j (q0j (q0j (dv 1) q0c) (dv 5)) q0c) q0b))))
  (q0d (q0i 7 sc_law.nd (q0l C.shown hr pass1 (q0a (q0j (q0j (q0j (dv 1) q0c) (dv 5)) q0c) (q0a (dv 3) q0b))))
  (q0e (q0i 4 sc_law.nd (q0m (q0m (q0m (q0m (q0m (q0m (q0m (dv 4) q0f) (q0j (q0j (dv 2) q0c) (dv 5))) q0f) (dv 6)) q0f) (dv 7)) q0f))))))
  (q0d (q94 5 sc_law.nd PassesOwn.leaving rfl B.b_range (q0a (q0s B.b_len (q0a (q0j (dv 1) q0c) q0b)) q0b)
  (q0e (q0i 4 sc_law.nd (q0m (q0m (q0m (q0m (q0m (dv 4) q0f) (q0j (q0j (dv 2) q0c) (dv 5))) q0f) (q0l C.shown hr pass1 (q0a (q0j (q0j (dv 1) q0c) (dv 5)) (q0a (dv 3) q0b)))) q0f))))
  (q0d (q0i 8 sc_law.nd (q0l C._law_mixed hr pass1 (q0a (q0l C._law_cell_at hr pass1 (q0a (dv 0) (q0a q0c q0b))) (q0a q0c q0b))))
  (q0d (q0q (dt_w (q11 (q97 (q0h hr) (q0m (q0j (dv 1) q0c) (q0j (dv 1) q0c)) (q0r q0b)) (q11 (q0v (q0h hr) (q0t (dv 8) q0c) q0c) (q2z (q84 (q3b (q0l C._law_refused hr pass1 (q0a (dv 2) (q0a (dv 1) (q0a (q06 (dv 8) q0c) q0b))))))))))
  (q0e (q0n q6b))
  q0o)
  (q0d (q0i 9 sc_law.nd (q0l C.shown_sheet hr pass1 (q0a (dv 2) (q0a (dv 1) q0b))))
  (q0e (q0n (x5v (x18 (c0:=.ty _) rfl (x8f PyProof.Rows.Boot.«str» B.b_str) B.b_isinstance (dv 9)) (x5v (q8a (q0h hr) (dv 9) (dv 4)) (x12 (q8a (q0h hr) (q0l C.read_sheet hr pass1 (q0a (dv 9) q0b)) (q0r (q0a (dv 2) (q0a (dv 1) q0b))))))))))))))))))
tm z6k  (A:Ats K mg):Cal P w K mg base (n+1) "law" ["_law_script"] (spF K (run K a (n+1) x0e)):=
 con A.law sc_law (λws hw=>(lof q75 hw).1) λws hw f cdv A outer s H E Z hr=>⟨_,y7o B M C CH hr,(lof q75 hw).2⟩
end
tm allH(A:Ats K mg)(B:Blt P w K mg)(M:Exs K mg a):∀n,CalsH P w K mg base a n
 |0=>⟨trivial⟩
 |n+1=>⟨trivial⟩
tm all(A:Ats K mg)(B:Blt P w K mg)(M:Exs K mg a):∀n,Cals P w K mg base a n
 |0=>⟨con0 A.thing_at,con0 A.shown,con0 A.read,con0 A.fault,con0 A.places_by_name,con0 A.is_name,con0 A.is_small_letter,con0 A.text_of,con0 A.bracketed,con0 A.pieces_of,con0 A.end_of_piece,con0 A.first_fault,con0 A.can_begin,con0 A.can_follow,con0 A.form_of_pieces,con0M A.settle,con0 A.plain_form,con0 A.read_sheet,con0 A.fault_row,con0 A.standing_parts,con0 A.words_in,con0 A.part_of_row,con0 A.can_stand,con0 A.names_of,con0 A.shown_sheet,con0 A._law_cell_at,con0 A._law_mixed,con0 A._law_leaf_by,con0 A._law_form_by,con0 A._law_names_by,con0 A._law_circuit_by,con0 A._law_three,con0 A._law_word,con0 A._law_put,con0 A._law_bad_names,con0 A._law_far,con0 A._law_refused,con0 A.law⟩
 |n+1=>⟨x7r B M (all A B M n) (allH A B M n) A,y58 B M (all A B M n) (allH A B M n) A,z1f B M (all A B M n) (allH A B M n) A,y59 B M (all A B M n) (allH A B M n) A,x0s B M (all A B M n) (allH A B M n) A,x92 B M (all A B M n) (allH A B M n) A,q9r B M (all A B M n) (allH A B M n) A,x93 B M (all A B M n) (allH A B M n) A,x6u B M (all A B M n) (allH A B M n) A,x6v B M (all A B M n) (allH A B M n) A,x2n B M (all A B M n) (allH A B M n) A,x3f B M (all A B M n) (allH A B M n) A,x6w B M (all A B M n) (allH A B M n) A,x40 B M (all A B M n) (allH A B M n) A,x0t B M (all A B M n) (allH A B M n) A,y2w B M (all A B M n) (allH A B M n) A,x41 B M (all A B M n) (allH A B M n) A,x42 B M (all A B M n) (allH A B M n) A,x6x B M (all A B M n) (allH A B M n) A,x0u B M (all A B M n) (allH A B M n) A,x7s B M (all A B M n) (allH A B M n) A,x3g B M (all A B M n) (allH A B M n) A,x6y B M (all A B M n) (allH A B M n) A,x7t B M (all A B M n) (allH A B M n) A,x3h B M (all A B M n) (allH A B M n) A,x2o B M (all A B M n) (allH A B M n) A,x43 B M (all A B M n) (allH A B M n) A,x2p B M (all A B M n) (allH A B M n) A,x2q B M (all A B M n) (allH A B M n) A,x1l B M (all A B M n) (allH A B M n) A,q9s B M (all A B M n) (allH A B M n) A,x44 B M (all A B M n) (allH A B M n) A,x6z B M (all A B M n) (allH A B M n) A,x7u B M (all A B M n) (allH A B M n) A,x0v B M (all A B M n) (allH A B M n) A,x7v B M (all A B M n) (allH A B M n) A,x2r B M (all A B M n) (allH A B M n) A,z6k B M (all A B M n) (allH A B M n) A⟩
tm law_fn{f:Addr}{fd:FuncData}(A:Ats K mg)(B:Blt P w K mg)(M:Exs K mg a)(F:Fun K "law" "law" x0f f fd)(n:Nat):FnOk P w K mg base (CX1 P w) (n+1) f fd ["_law_script"] (spF K (run K a (n+1) x0e)):=
 conF F sc_law (λws hw=>(lof q75 hw).1) λws hw cdv A' outer s H E Z hr=>⟨_,y7o B M (all A B M n) (allH A B M n) hr,(lof q75 hw).2⟩
end
tm at_k{h:Heap}{st:Stmt}{ps:List Str}{f:Addr}{od an:Option Addr}{sl:Array (Option Value)}{oc kV dc pm cd ct:Value}(X:K.In h)(G:h.Ns mainGlobals mg)(a:PySem.W.nsIn K mainGlobals x=some (some (.ref f)))(l:K.lookup f=some ⟨oc,od,.func (PySem.W.fnOf x x (defArgs st) (defBody st) (defScope st) .none kV dc pm an cd ct),sl⟩)(c:PySem.W.codeIn K cd x=true)(k:keepIn K (.ref f)=true)(hb:∀(kV doc pm:Value)(an:Option Addr)(cdv ct:Value)(us:List Value),us.length=ps.length->bindArgs (PySem.W.fnOf x x (defArgs st) (defBody st) (defScope st) .none kV doc pm an cdv ct) ⟨us,[]⟩=pure (ps.zip us)):At K mg x st ps:=
 ⟨⟨_,_,y01 l c k,PySem.W.mg_of X G a,(y01 l c k).binds hb⟩⟩
tm mk{l:PySem.W.OpenLaw}{w:World}{fa:Addr}{p0 p1 p2 p3 p4:Addr}{p5 p6 p7 p8 p9 p10 p11 p12:Value}(hfa:mg "law"=some (.ref fa))(A:Ats K mg)(B:Blt l.prog w K mg)(M:Exs K mg ⟨p0,p1,p2,p3,p4,p5,p6,p7,p8,p9,p10,p11,p12⟩)(n:Nat)(hL:∀a:Adr,Exs K mg a->∀ns:List Int,ns.length<=63->run K a (n+1) x0e [.lst (ns.map .int)]=.ok (.fr (.bl true))):
  ∃fd:FuncData,(∀(s:Shared)(v:Value),BindsTo s fd ⟨[v],[]⟩ [("_law_script", v)])/\∀base:Heap,K.In base->base.Ns mainGlobals mg->FnOk l.prog w K mg base (CX1 l.prog w) (n+1) fa fd ["_law_script"] (spLaw K):=by
 ~⟨f,fd,F,m,_⟩:=A.law.ex;cases hfa.symm.trans m;~⟨_,_,_,_,_,_,_,_,_,rfl,_⟩:=F.ex;!⟨_,λs v=>.of_eq rfl,λbase _ _=>(law_fn A B M F n).imp λvs H Q E q=>y4q (hL _ M) q⟩
local macro "&":tactic=> do
 let l:=(("z1d z1e y56 z6h z6i y51 y52 z01 z6d z02 z0s z0t z0u z0v z0w z86 z6b z81 z83 y5u y5v z0l y5w z0m z84 z85 y5x z0o z0p y4s z0c z0d z0e z0f y5o y5p z80 y91 y92 y93 y94 y5l y2g y2h y2c x9t y2d y2e x9u x9v x9w x7j y5j y2f y5k y9z y90 z50 y5e y5f y5g y5h z5o y44 y45 y1y y9r y1z y10 y46 z5p y47 y48 y11 y9s z5q z5r z5s le_str y9v q07 y49 y5a y5b x6e y5c y14 z5t y9w z5u x9s x55 z32 z33 z34 z35 z36 z37 y8s y8o y8p y8q y4r z3z z30 z31 y8r z7o z7p z7q z7r z38 x9l x9m y1i z39 z4a y8t dC_s z7s z7t y8u y8v z4b z4c z7u z4d y8w z4e z4f z7v z7w z4g y8x z4h z4i z7x z7y y8y z7z y8z z4j y80 y81 y82 z4k z4l x56 y83 y84 y85 y4t y86 y87 y4u y1j y4v y1k z4m y88 y1l x28 y89 y9a y9b y9c y9d y4w z4n y1m z70 z4o z4p z4q y9e z4r z71 z72 z4s y9f y4x y1n y9g y4y z4t z4u y9i y9j y4z x9n x9o y1o y40 y1p y9k y41 z4v z4w z4x z4y z4z y9l z40 z41 z73 z74 z75 z76 z77 z78 z79 z8a y7i z8b z8c z8d z8e z8f z8g z8h z8i z42 z43 z44 z45 z46 z47 z48 ix_t ix_l z8j z8k z8l z8m z8n z8o z8p z8q z8r z8s z8t z8u z8v sc_i sc_b sc_s sc_n sl_l at0 at1 at2 q4x rng1 rng2 init Option.map_some Option.bind_some List.map_cons List.map_nil List.length_cons List.length_nil List.replicate_succ List.replicate_zero List.cons_append List.nil_append List.getElem?_cons_zero List.getElem?_cons_succ List.set_cons_zero List.set_cons_succ if_true if_false decide_eq_true_eq reduceIte Bool.false_eq_true ite_true ite_false Nat.reduceSub Nat.reduceAdd Nat.reduceLeDiff Nat.zero_add Nat.le_refl Int.reduceLT Int.reduceLE Int.reduceNeg true_and and_true true_or or_true false_and and_false false_or or_false not_true_eq_false not_false_eq_true decide_true decide_false Bool.not_true Bool.not_false String.reduceEq Nat.reduceEqDiff y42 z5e z8x z8y z5f z5g z5h y1r y9o Int.reduceToNat Int.reducePow Nat.reduceLT cast0 cast1 Int.reduceEq Int.reduceMod Int.reduceDiv Int.reduceAdd Int.reduceSub Int.reduceMul".splitOn " ").map fun s=>Lean.mkIdent s.toName).toArray
 `(tactic| try simp only [$[$l:ident],*])
tm q7a(n:Nat)(ns:List Int){k:Int}(hk:0<=k):run K a (n+1) q03 [.lst (ns.map .int),.int k]=.ok (.fr (.int (ns.getD k.toNat 0))):=by
 rw[q4e];unfold q3v;&
 by_cases h:k<ns.length
 ·rw[if_pos (by simpa using h),x59 hk]
  #e:(ns.map W.int)[k.toNat]?=some (.int (ns.getD k.toNat 0)):=by
   #:k.toNat<ns.length:=by omega
   simp[List.getD,this]
  rw[e];&
 ·rw[if_neg (by simpa using h)]
  #:ns.getD k.toNat 0=0:=by
   #:¬k.toNat<ns.length:=by omega
   simp[List.getD,this]
  rw[this]
set_option genInjectivity true in
inductive Fm where
 |is (b:Bool)|at (p:Nat)|not (f:Fm)|and (f g:Fm)|or (f g:Fm)|odd (f g:Fm)
variable{f g:Fm}{gs:List Fm}
nD enc:Fm->W
 |.is b=>.tup [.str "is", .bl b]
 |.at p=>.tup [.str "at", .int p]
 |.not f=>.tup [.str "not", enc f]
 |.and f g=>.tup [.str "and", enc f,enc g]
 |.or f g=>.tup [.str "or", enc f,enc g]
 |.odd f g=>.tup [.str "odd", enc f,enc g]
nD Fm.depth:Fm->Nat
 |.is _=>1
 |.at _=>1
 |.not f=>f.depth+1
 |.and f g=>max f.depth g.depth+1
 |.or f g=>max f.depth g.depth+1
 |.odd f g=>max f.depth g.depth+1
nD Fm.inb(m:Nat):Fm->Prop
 |.is _=>True
 |.at p=>p<m
 |.not f=>f.inb m
 |.and f g=>f.inb m/\g.inb m
 |.or f g=>f.inb m/\g.inb m
 |.odd f g=>f.inb m/\g.inb m
tm Fm.depth_pos:∀f:Fm,1<=f.depth
 |.is _=>w0b _
 |.at _=>w0b _
 |.not f=>by simp only[Fm.depth];omega
 |.and f g=>by simp only[Fm.depth];omega
 |.or f g=>by simp only[Fm.depth];omega
 |.odd f g=>by simp only[Fm.depth];omega
nD Fm.size:Fm->Nat
 |.is _=>1
 |.at _=>1
 |.not f=>f.size+1
 |.and f g=>f.size+g.size+1
 |.or f g=>f.size+g.size+1
 |.odd f g=>f.size+g.size+1
nD leafB(c:Int)(m:Nat):Fm:=if m=0\/c%8=7 then .is (decide (c / 8%2=1))else .at (c / 8%m).toNat
tm x4g(c:Int)(m:Nat):(leafB c m).inb m:=by
 unfold leafB;split
 ·trivial
 ·rename_i h;show(c / 8%m).toNat<m;#h1:=w1h (c / 8) (show(m:Int)≠0 by omega);#h2:=w1f (c / 8) (show(0:Int)<m by omega);omega
tm x07(c:Int)(m:Nat):(leafB c m).depth=1:=by
 unfold leafB;split<;>rfl
tm x2s(c:Int)(m:Nat):(leafB c m).size=1:=by
 unfold leafB;split<;>rfl
tm q9t(n:Nat)(c:Int)(m:Nat):run K a (n+1) q1r [.int c,.int m]=.ok (.fr (enc (leafB c m))):=by
 rw[q4f];unfold q3w;&;unfold leafB
 by_cases h:m=0
 ·subst h;simp[enc]
 ·rw[if_neg oM]
  by_cases h9:c%8=7
  ·rw[if_pos h9,if_pos (.inr h9)];rfl
  ·rw[if_neg h9,if_pos (show(0:Int)<m by omega),if_neg (show ¬(m=0\/c%8=7) by omega)];&;#h1:=w1h (c / 8) (show(m:Int)≠0 by omega);simp only[enc];congr 4;simp;omega
nD Ok(m:Nat)(st:List Fm)(k z:Nat):Prop:=(∀f∈st,f.inb m)/\(st.map Fm.depth).sum<=k/\(st.map Fm.size).sum<=z
tm Ok.len:∀{st:List Fm}{k z:Nat},Ok m st k z->st.length<=k
 |[],k,_,_=>by simp
 |f::st,k,z,h=>by
  #h2:Ok m st (k-f.depth) (z-f.size):=⟨λg hg=>h.1 g (by simp[hg]),by #:=h.2.1;simp at this;omega,by #:=h.2.2;simp at this;omega⟩
  #:=h2.len;#:=f.depth_pos;#:=h.2.1;simp at this |-
  omega
tm Ok.push{st : List Fm}{k z : Nat}{f : Fm}(h : Ok m st k z)(hf : f.inb m){k' z' : Nat}(hk : k + f.depth <= k')(hz : z + f.size <= z') : Ok m (st ++ [f]) k' z' :=
  ⟨fun g hg => by rcases w1c.mp hg with z | z
                  . !h.1 g z
                  . rw [w1k.mp z]; !hf, by have := h.2.1; simp; omega, by have := h.2.2; simp; omega⟩
tm Ok.pop{st:List Fm}{k z:Nat}(h:Ok m (st++[f]) k z):f.inb m/\(f.depth<=k/\f.size<=z)/\Ok m st (k-f.depth) (z-f.size):=
 ⟨h.1 f (by simp),⟨by #:=h.2.1;simp at this;omega,by #:=h.2.2;simp at this;omega⟩,λg hg=>h.1 g (by simp[hg]),by #:=h.2.1;simp at this;omega,by #:=h.2.2;simp at this;omega⟩
tm q76(st:List Fm):(st.map enc).length=st.length:=w0j ..
tm words3(h:j=0\/j=1\/j=2):atI [W.str "and", W.str "or", W.str "odd"] j=some (.str (if j=0 then "and" else if j=1 then "or" else "odd")):=by
 rcases h with rfl|rfl|rfl<;>rfl
nD bin3(j:Int)(f g:Fm):Fm:=if j=0 then .and f g else if j=1 then .or f g else .odd f g
tm y6a(f g:Fm):(W.tup [.str (if j=0 then "and" else if j=1 then "or" else "odd"),enc f,enc g])=enc (bin3 j f g):=by
 unfold bin3;split
 ·rfl
 ·split<;>rfl
tm y6b(h1:f.inb m)(h2:g.inb m):(bin3 j f g).inb m:=by
 unfold bin3;split
 ·!⟨h1,h2⟩
 ·split<;>!⟨h1,h2⟩
tm x94(f g:Fm):(bin3 j f g).depth=max f.depth g.depth+1:=by
 unfold bin3;split
 ·rfl
 ·split<;>rfl
tm y2x(f g:Fm):(bin3 j f g).size=f.size+g.size+1:=by
 unfold bin3;split
 ·rfl
 ·split<;>rfl
tm x3i{l:List α}(h:0<l.length):∃s x,l=s++[x]:=by
 rcases List.eq_nil_or_concat l with rfl|⟨s,x,rfl⟩
 ·simp at h
 ·!⟨s,x,by simp⟩
tm x60{i:Nat}{b:List S->SR}(B:Nat)(I:Nat->List S->Prop):∀(ws:List W)(k:Nat)(e:List S),I k e->k+ws.length<=B->(∀(j:Nat)(w:W)(e:List S),j<B->w∈ws->I j e->∃e',b (e.set i (.fr w))=.nx e'/\I (j+1) e')->∃e',forD i b ws e=.nx e'/\I (k+ws.length) e'
 |[],k,e,h0,_,_=>⟨e,rfl,h0⟩
 |w::ws,k,e,h0,hB,h=>by
  rw[w0t]at hB;~⟨e1,h1,h2⟩:=h k w e oM (by simp) h0;~⟨e2,h3,h4⟩:=x60 B I ws (k+1) e1 h2 oM λj u e hj hu=>h j u e hj (by simp[hu])
  rF⟨e2,?_,?_⟩
  ·rw[x57,h1,x28,h3]
  ·rw[w0t];#:k+1+ws.length=k+(ws.length+1):=by omega
   rw[<- this];!h4
tm x7w(n:Nat)(cs:W)(m:Nat)(j:Nat)(c:Int)(e:List S)(hj:j<1000)(h:∃(st:List Fm)(z3 z4 z5 z6:S),e=[.fr cs,.fr (.int m),.own none (st.map enc),z3,z4,z5,z6,.no,.no]/\0<st.length/\Ok m st (j+1) (j+1)):
  ∃e',q2v K a (run K a (n+1)) (e.set 3 (.fr (.int c)))=.nx e'/\∃(st:List Fm)(z3 z4 z5 z6:S),e'=[.fr cs,.fr (.int m),.own none (st.map enc),z3,z4,z5,z6,.no,.no]/\0<st.length/\Ok m st (j+1+1) (j+1+1):=by
 ~⟨st,z3,z4,z5,z6,rfl,hp,ok⟩:=h;#hl:=ok.len;unfold q2v;&
 #pushed:∃e',(if(st.map enc).length<16777216 then SR.nx [.fr cs,.fr (.int m),.own none (st.map enc++[enc (leafB (c / 9) m)]),.fr (.int c),.fr (.int (c%9)),.fr (.int (c / 9)),z6,.no,.no]else SR.no)=.nx e'/\∃(st:List Fm)(z3 z4 z5 z6:S),e'=[.fr cs,.fr (.int m),.own none (st.map enc),z3,z4,z5,z6,.no,.no]/\0<st.length/\Ok m st (j+1+1) (j+1+1):=by
  rw[if_pos (by rw[q76];omega)];!⟨_,rfl,st++[leafB (c / 9) m],_,_,_,_,by rw[w0n];rfl,by simp,ok.push (x4g _ m) (by rw[x07];omega) (by rw[x2s];omega)⟩
 by_cases c4:c%9=0
 ·rw[if_pos c4];~⟨s,f,rfl⟩:=x3i hp;rw[w0n];&;~⟨p1,p2,p3⟩:=ok.pop;rw[if_pos (by rw[w0q,w4v]at hl;rw[q76];omega)];!⟨_,rfl,s++[.not f],_,_,_,_,by rw[w0n];rfl,by simp,p3.push (f:=.not f) p1 (by simp only[Fm.depth];omega) (by simp only[Fm.size];omega)⟩
 ·rw[if_neg c4]
  by_cases c5:c%9<5
  ·rw[if_pos c5]
   by_cases hp2:1<st.length
   ·~⟨s,g,rfl⟩:=x3i (show 0<st.length by omega);~⟨s,f,rfl⟩:=x3i (l:=s) (by simp at hp2;omega);rw[if_pos (by rw[q76];omega),w0n];&;rw[words3 oM,w0n];&;~⟨p1,p2,p3⟩:=ok.pop;~⟨p4,p5,p6⟩:=p3.pop;rw[if_pos (by rw[w0q,w0q,w4v]at hl;rw[q76];omega),y6a];!⟨_,rfl,s++[bin3 (c / 9%3) f g],_,_,_,_,by rw[w0n];rfl,by simp,p6.push (y6b p4 p1) (by rw[x94];#:=f.depth_pos;#:=g.depth_pos;omega) (by rw[y2x];omega)⟩
   ·rw[if_neg (by rw[q76];omega),q9t n _ m];&;!pushed
  ·rw[if_neg c5,q9t n _ m];&;!pushed
tm words3b(h:j=0\/j=1\/j=2):atI [W.str "or", W.str "odd", W.str "and"] j=some (.str (if j=2 then "and" else if j=0 then "or" else "odd")):=by
 rcases h with rfl|rfl|rfl<;>rfl
nD bin3b(j:Int)(f g:Fm):Fm:=if j=2 then .and f g else if j=0 then .or f g else .odd f g
tm y2y(f g:Fm):(W.tup [.str (if j=2 then "and" else if j=0 then "or" else "odd"),enc f,enc g])=enc (bin3b j f g):=by
 unfold bin3b;split
 ·rfl
 ·split<;>rfl
tm y2z(h1:f.inb m)(h2:g.inb m):(bin3b j f g).inb m:=by
 unfold bin3b;split
 ·!⟨h1,h2⟩
 ·split<;>!⟨h1,h2⟩
tm x7x(f g:Fm):(bin3b j f g).depth=max f.depth g.depth+1:=by
 unfold bin3b;split
 ·rfl
 ·split<;>rfl
tm x95(f g:Fm):(bin3b j f g).size=f.size+g.size+1:=by
 unfold bin3b;split
 ·rfl
 ·split<;>rfl
tm q7q:∀(l:List Nat)(k:Nat),(l.take k).sum<=l.sum
 |[],k=>by simp
 |x::l,0=>by simp
 |x::l,k+1=>by #:=q7q l k;simp;omega
tm y20(n:Nat)(ns:List Int)(m:Nat)(hl:ns.length<=900):∃f:Fm,run K a (n+2) q2i [.lst (ns.map .int),.int m]=.ok (.fr (enc f))/\f.inb m/\f.depth<=ns.length+1/\f.size<=2*ns.length+2:=by
 rw[q4g];unfold q3x;&;rw[q9t n _ m];&
 ~⟨e',h1,st,z1,z2,z3,z4,rfl,hp,ok⟩:=x60 (i:=3) (b:=q2v K a (run K a (n+1))) 1000 (λk e=>∃(st:List Fm)(z3 z4 z5 z6:S),e=[.fr (.lst (ns.map .int)),.fr (.int m),.own none (st.map enc),z3,z4,z5,z6,.no,.no]/\0<st.length/\Ok m st (k+1) (k+1)) (ns.map W.int) 0 [.fr (.lst (ns.map .int)),.fr (.int m),.own none [enc (leafB ((ns.map W.int).length) m)],.no,.no,.no,.no,.no,.no] ⟨[leafB ((ns.map W.int).length) m],_,_,_,_,rfl,by simp,(λf hf=>by rw[w1k.mp hf];!x4g _ _),by simp[x07],by simp[x2s]⟩ (by simp;omega) (λj w e hj hw h=>by
  ~⟨c,_,rfl⟩:=w0u.mp hw;!x7w n _ m j c e hj h)
 rw[h1];rw[w0j,w4d]at ok;#hlen:=ok.len;&
 obtain⟨f0,rest,rfl⟩:∃f0 r,st=f0::r:=by
  cases st with
  |nil=>simp at hp
  |cons x r=>!⟨x,r,rfl⟩
 rw[w0g];&;rw[if_pos ⟨q32 oM oM,q32 oM (by simp;simp at hlen;omega)⟩];&
 ~⟨e',h2,f,z,rfl,h3,h4,h5⟩:=q4y (b:=q4c K a (run K a (n+1))) (i:=8) (lo:=1) (hi:=(((rest.map enc).length+1:Nat):Int)) rest.length (by rw[w0j];omega)
  (λj e=>∃(f:Fm)(z:S),e=[.fr (.lst (ns.map .int)),.fr (.int m),.own none (enc f0::rest.map enc),z1,z2,z3,z4,.fr (enc f),z]/\f.inb m/\f.depth<=f0.depth+((rest.map Fm.depth).take j).sum/\f.size<=f0.size+((rest.map Fm.size).take j).sum+j)
  [.fr (.lst (ns.map .int)),.fr (.int m),.own none (enc f0::rest.map enc),z1,z2,z3,z4,.fr (enc f0),.no] ⟨f0,_,rfl,ok.1 f0 (by simp),by simp,by simp⟩ (by
  rintro j e hj ⟨f,z,rfl,q1,q2,q3⟩;unfold q4c;&;rw[words3b oM];&
  #hx:atI (enc f0::rest.map enc) (1+(j:Int))=some (enc rest[j]):=by
   rw[show(1:Int)+j=((j+1:Nat):Int) by omega];rF q4j ?_;simp[hj]
  rw[hx];&;rw[y2y];rF⟨_,rfl,bin3b _ f rest[j],_,rfl,y2z q1 (ok.1 _ (by simp)),?_,?_⟩
  ·rw[x7x,w2x,w1t,w0a hj];simp only[w4w,w5h,List.sum_append,w5i,List.sum_nil];#:=f.depth_pos;#:=(rest[j]).depth_pos;#:=f0.depth_pos;omega
  ·rw[x95,w2x,w1t,w0a hj];simp only[w4w,w5h,List.sum_append,w5i,List.sum_nil];omega)
 rw[w0t]at *;rw[h2];&;#o2:=ok.2.1;#o3:=ok.2.2;#:=q7q (rest.map Fm.depth) rest.length;#:=q7q (rest.map Fm.size) rest.length;simp at o2 o3;rF⟨f,rfl,h3,by omega,?_⟩;simp at hlen;omega
tm q7b(n:Nat)(c k:Int):∃v:Int,run K a (n+1) q1d [.int c,.int k]=.ok (.fr (.int v)):=by
 rw[q5l];unfold q47;&;generalize hx:(c*48271+(k+1)*1299721)%2147483647=x;#h1:0<=x:=by rw[<- hx];!w1h _ (by decide)
 #h2:x<2147483647:=by rw[<- hx];!w1f _ (by decide)
 rw[if_pos ⟨by omega,by omega⟩];&;!⟨_,rfl⟩
nD isL(c:Nat):Bool:=decide (97<=c)&&decide (c<=122)
nD six(x:Str):Bool:=decide (x∈(["yes", "no", "not", "and", "odd", "or"]:List Str))
nD okN(x:Str):Bool:=!six x&&(decide (1<=x.length)&&(decide (x.length<=8)&&x.cps.toList.all isL))
nD limS(x:Str):Prop:=x.length<=1000/\∀c∈x.cps.toList,c<1000
tm z89:eqS (.str y) (.str x)=decide (x=y):=by
 show(some (decide (y=x))).getD false=_;simp only[Option.getD_some,eq_comm]
tm q8g:∀ys:List Str,(ys.map W.str).any (λy=>eqS y (.str x))=decide (x∈ys)
 |[]=>by simp
 |y::ys=>by
  rw[w0g,w4k,q8g ys,z89,<- Bool.decide_or];simp
tm q7j:∀ys:List Str,(ys.map W.str).all scalW=true
 |[]=>rfl
 |y::ys=>by rw[w0g,w2p,q7j ys];rfl
tm x2t(ys:List Str):inW (.str x) (.tup (ys.map .str))=some (.bl (decide (x∈ys))):=by
 show(if scalW (.str x)=true/\(ys.map W.str).all scalW=true then some (W.bl ((ys.map W.str).any λy=>eqS y (.str x)))else none)=_
 rw[if_pos ⟨rfl,q7j ys⟩,q8g]
tm z9a(ys:List Str):inW (.str x) (.lst (ys.map .str))=some (.bl (decide (x∈ys))):=by
 show(if scalW (.str x)=true/\(ys.map W.str).all scalW=true then some (W.bl ((ys.map W.str).any λy=>eqS y (.str x)))else none)=_
 rw[if_pos ⟨rfl,q7j ys⟩,q8g]
tm z6l:inW (.str x) (.tup [.str "yes", .str "no", .str "not", .str "and", .str "odd", .str "or"])=some (.bl (six x)):=x2t ["yes", "no", "not", "and", "odd", "or"]
tm y21(h:x.length<=1000):len1 [.str x]=some (.int x.length):=by rw[y7j,if_pos oM]
tm x4h(n:Nat)(c:Nat):run K a (n+1) q1f [.str ⟨#[c]⟩]=.ok (.fr (.bl (isL c))):=by
 rw[q25];unfold q19;&;#e1:("a":Str).cps.toList=[97]:=by decide +kernel
 #e2:("z":Str).cps.toList=[122]:=by decide +kernel
 #e3:∀x y:Nat,decide ([x]<[y])=decide (x<y):=λx y=>by
  rw[decide_eq_decide,List.cons_lt_cons_iff];simp
 #e4:(!decide ((Str.mk #[c]).cps.toList<("a":Str).cps.toList))=decide (97<=c):=by
  rw[e1];show(!decide ([c]<[97]))=_;rw[e3];simp only[<- decide_not,w4j]
 #e5:(!decide (("z":Str).cps.toList<(Str.mk #[c]).cps.toList))=decide (c<=122):=by
  rw[e2];show(!decide ([122]<[c]))=_;rw[e3];simp only[<- decide_not,w4j]
 rw[e4];cases q:decide (97<=c)with
 |false=>
  &;simp[isL,q]
 |true=>
  &;rw[e5];simp[isL,q]
tm y22{d:Den W}(h:∀c:Nat,∃e',d [.fr (.str ⟨#[c]⟩)]=.ok (.bl (isL c)) e')(x:Str):compD dYes d [] (signsW x)=some ((x.cps.toList.map isL).map .bl):=by
 #:=x58 (d:=d) (pe:=[]) (g:=λw=>match w with|.str z=>.bl (z.cps.toList.all isL)|w=>w) (signsW x) λw hw=>by
  ~⟨c,_,rfl⟩:=w0u.mp hw;~⟨e',h⟩:=h c;!⟨e',by rw[h];simp⟩
 rw[this];simp[signsW]
tm y23(h:x.length<=1000):(signsW x).length<=16777216:=by
 unfold signsW;rw[w0j,w2o];#:x.cps.size<=1000:=h;omega
tm x2u(n:Nat)(x:Str)(hx:x.length<=1000):run K a (n+2) q4n [.str x]=.ok (.fr (.bl (okN x))):=by
 rw[q7p];unfold q7i;&;rw[y21 hx];&
 by_cases h1:(x.length:Int)<1
 ·simp only[h1];&;#:¬1<=x.length:=by omega
  simp[okN,this]
 ·simp only[h1];&;rw[y21 hx];&
  by_cases h2:(x.length:Int)>8
  ·simp only[h2];&;#:¬x.length<=8:=by omega
   simp[okN,this]
  ·simp only[h2];&;rw[z6l];&;cases h3:six x with
   |true=>
    &;simp[okN,h3]
   |false=>
    &;rw[if_pos (y23 hx),y22 (λc=>⟨[.fr (.str ⟨#[c]⟩)],by unfold x06;&;rw[x4h n c];&⟩) x]
    &;rw[z8w];&;#g1:1<=x.length:=by omega
    #g2:x.length<=8:=by omega
    simp[okN,h3,g1,g2]
nD letters(t:Str):Prop:=∀c∈t.cps.toList,isL c=true
nD tx(cs:List Nat):Str:=⟨cs.toArray⟩
tm q1k(cs:List Nat):(tx cs).cps.toList=cs:=by simp[tx]
tm q0u(cs:List Nat):(tx cs).length=cs.length:=by show cs.toArray.size=_;simp
tm q1l(x:Str):tx x.cps.toList=x:=by @x;simp[tx]
tm q37(as bs:List Nat):tx as++tx bs=tx (as++bs):=by
 show Str.mk (as.toArray++bs.toArray)=_;simp[tx]
tm y24{x y:List Nat}(h:tx x=tx y):x=y:=by rw[<- q1k x,h,q1k]
nD pN:Nat->List Str->List (Key×Sv)
 |_,[]=>[]
 |k,x::xs=>(.inr x,.inl (k:Int))::pN (k+1) xs
tm x8q:∀(k:Nat)(xs:List Str)(x:Str),pN k (xs++[x])=pN k xs++[(.inr x,.inl ((k+xs.length:Nat):Int))]
 |k,[],x=>by simp[pN]
 |k,y::xs,x=>by
  show(_,_)::pN (k+1) (xs++[x])=_;rw[x8q (k+1) xs x];#:k+1+xs.length=k+(y::xs).length:=by simp;omega
  rw[this];rfl
tm y25:∀(k:Nat)(xs:List Str),(pN k xs).length=xs.length
 |_,[]=>rfl
 |k,x::xs=>by simp[pN,y25 (k+1) xs]
tm y26:∀(k:Nat)(xs:List Str),((pN k xs).any λp=>decide (p.1=.inr x))=decide (x∈xs)
 |_,[]=>by simp[pN]
 |k,y::xs=>by
  show(decide ((Sum.inr y:Key)=.inr x)||_)=_;rw[y26 (k+1) xs,<- Bool.decide_or,decide_eq_decide];simp[eq_comm]
tm x5g{x:Str}:∀(k:Nat)(xs:List Str),lk (pN k xs) (.inr x)=(idxS x xs).map λj=>.inl ((k+j:Nat):Int)
 |_,[]=>rfl
 |k,y::xs=>by
  #ih:=x5g (x:=x) (k+1) xs;unfold lk at ih |-
  show Option.map _ (List.find? _ ((.inr y,.inl (k:Int))::pN (k+1) xs))=_
  by_cases h:y=x
  ·subst h;simp[idxS]
  ·#h1:decide ((Sum.inr y:Key)=.inr x)=false:=by simp[h]
   rw[w2l,h1,ih];show _=Option.map _ (if y=x then _ else _);rw[if_neg h,Option.map_map];congr 1;funext j
   simp only[Function.comp];congr 2;omega
tm x0k:∀xs:List Str,(idxS x xs).isSome=decide (x∈xs)
 |[]=>by simp[idxS]
 |y::xs=>by
  unfold idxS
  by_cases h:y=x
  ·simp[h]
  ·rw[if_neg h,w2c,x0k xs,decide_eq_decide,w0d];!⟨.inr,λz=>z.elim (λe=>absurd e.symm h) id⟩
nD okAll:List Str->List Str->Bool
 |_,[]=>true
 |done,x::xs=>okN x&&(!decide (x∈done)&&okAll (done++[x]) xs)
tm q4o:∀(done xs:List Str),done.Nodup->(okAll done xs=true↔(∀x∈xs,okN x=true)/\(done++xs).Nodup)
 |done,[],h=>by simp[okAll,h]
 |done,x::xs,h=>by
  unfold okAll;rw[w0l,w0l]
  by_cases hx:x∈done
  ·simp only[hx,decide_true,Bool.not_true,w3h,false_and,and_false,false_iff,not_and];intro _ hn;rw[w2d]at hn;!hn.2.2 x hx x (by simp) rfl
  ·#h2:(done++[x]).Nodup:=by
    rw[w2d];!⟨h,by simp,λa ha b hb=>by rw[w1k.mp hb];rintro rfl;!hx ha⟩
   rw[q4o (done++[x]) xs h2];simp[hx,and_assoc]
tm y6c(h:limS x):(reprText x).length<=1000000:=by
 #:=PySem.StrLaws.reprText_len x λc hc=>w0s (h.2 c hc) (by decide)
 #:=h.1;omega
tm z1g(h:x.length<=1000):fmtW (.str x)=some x:=if_pos oM
tm x96(n k:Nat)(w:W)(x:Str)(done:List Str)(hx:limS x)(hd:done.length<1000)(hk:k=done.length):
  (okN x=true/\x∉done->q09 K a (run K a (n+2)) [.fr w,.dic (.k (pN 0 done)),.fr (.int k),.fr (.str x)]=.nx [.fr w,.dic (.k (pN 0 (done++[x]))),.fr (.int k),.fr (.str x)]) /\
  (¬(okN x=true/\x∉done)->∃e,q09 K a (run K a (n+2)) [.fr w,.dic (.k (pN 0 done)),.fr (.int k),.fr (.str x)]=.ex (.ref a.NoName) e):=by
 unfold q09;&;rw[x2u n x hx.1];&;cases h1:okN x with
 |false=>
  &;rF⟨λq=>(by first|!False.elim q|!absurd q.1 (by simp)),λ_=>?_⟩
  rw[z0n (y6c hx)];simp only[x9z];&;!⟨_,rfl⟩
 |true=>
  &;rw[x5g,w2c,x0k]
  by_cases h2:x∈done
  ·simp only[h2,decide_true];&;rF⟨λq=>(by first|!False.elim q|!absurd h2 (by simpa using q)),λ_=>?_⟩
   rw[z1g hx.1];&;!⟨_,rfl⟩
  ·simp only[h2,decide_false];&;rF⟨λ_=>?_,λq=>(by first|!False.elim q|!absurd ⟨trivial,h2⟩ q)⟩
   rw[if_pos ⟨by rw[y25];omega,rfl⟩]
   #e1:putL (pN 0 done) (.inr x) (.inl (k:Int))=pN 0 (done++[x]):=by
    unfold putL;rw[y26,if_neg (by simp[h2]),x8q,hk];simp
   rw[e1]
tm x2v(n:Nat)(w:W):∀(xs done:List Str)(z2 z3:S),(∀x∈xs,limS x)->done.length+xs.length<1000 ->
  (okAll done xs=true->∃y2 y3,forP 2 3 (q09 K a (run K a (n+2))) (enumL done.length (xs.map .str)) [.fr w,.dic (.k (pN 0 done)),z2,z3]=.nx [.fr w,.dic (.k (pN 0 (done++xs))),y2,y3]) /\
  (okAll done xs=false->∃e,forP 2 3 (q09 K a (run K a (n+2))) (enumL done.length (xs.map .str)) [.fr w,.dic (.k (pN 0 done)),z2,z3]=.ex (.ref a.NoName) e)
 |[],done,z2,z3,_,_=>⟨λ_=>⟨z2,z3,by rw[w1a];rfl⟩,λh=>by simp[okAll]at h⟩
 |x::xs,done,z2,z3,hl,hd=>by
  #t:=x96 (K:=K) (a:=a) n done.length w x done (hl x (by simp)) (by simp at hd;omega) rfl;rw[w0g];show(_->∃y2 y3,forP 2 3 _ ((.int (done.length:Nat),.str x)::enumL (done.length+1) (xs.map .str)) _=_)/\(_->∃e,forP 2 3 _ ((.int (done.length:Nat),.str x)::enumL (done.length+1) (xs.map .str)) _=_);rw[q2o];simp only[w1y,w1z];#ih:=x2v n w xs (done++[x]) (.fr (.int done.length)) (.fr (.str x)) (λy hy=>hl y (by simp[hy])) (by simp at hd |-;omega)
  #e1:(done++[x]).length=done.length+1:=by simp
  #e2:done++[x]++xs=done++x::xs:=by simp
  rw[e1,e2]at ih
  by_cases g:okN x=true/\x∉done
  ·#e3:okAll done (x::xs)=okAll (done++[x]) xs:=by
    show(okN x&&(!decide (x∈done)&&okAll (done++[x]) xs))=_;simp[g.1,g.2]
   rw[e3,t.1 g,q07];!ih
  ·#e3:okAll done (x::xs)=false:=by
    show(okN x&&(!decide (x∈done)&&okAll (done++[x]) xs))=_;rw[w3o,w3o]
    by_cases q:okN x=true
    ·!.inr (.inl (by simpa using λz=>g ⟨q,z⟩))
    ·!.inl (by simpa using q)
   ~⟨e,h⟩:=t.2 g;rw[e3,h,x6e];!⟨λz=>(by @z),λ_=>⟨e,rfl⟩⟩
tm x8r(n:Nat)(xs:List Str)(hl:∀x∈xs,limS x)(hd:xs.length<1000):
  (okAll [] xs=true->run K a (n+3) q0y [.tup (xs.map .str)]=.ok (.dic (.k (pN 0 xs))))/\(okAll [] xs=false->run K a (n+3) q0y [.tup (xs.map .str)]=.ex (.ref a.NoName)):=by
 rw[q3i];unfold q2q;&;#t:=x2v (K:=K) (a:=a) n (.tup (xs.map .str)) xs [] .no .no hl (by simpa using hd);rF⟨λh=>?_,λh=>?_⟩
 ·~⟨y2,y3,q⟩:=t.1 h;rw[show(pN 0 []:List (Key×Sv))=[]from rfl,show([]:List Str).length=0 from rfl,w2e]at q;rw[q];&
 ·~⟨e,q⟩:=t.2 h;rw[show(pN 0 []:List (Key×Sv))=[]from rfl,show([]:List Str).length=0 from rfl]at q;rw[q];&
tm z6m(h:isL c=true):c<1000:=by
 unfold isL at h;rw[<- Bool.decide_and]at h;#:=of_decide_eq_true h;omega
tm q01(h:okN x=true):six x=false/\1<=x.length/\x.length<=8/\letters x:=by
 unfold okN at h;simp only[w0l,w3l,decide_eq_true_eq,w0z]at h;!⟨h.1,h.2.1,h.2.2.1,h.2.2.2⟩
tm q4p(h:okN x=true):limS x:=by
 ~⟨_,_,h2,h3⟩:=q01 h;!⟨by omega,λc hc=>z6m (h3 c hc)⟩
tm q7c{l:List W}{k:Nat}(h:k<=l.length):cutW l (some (k:Int)) none=l.drop k:=by
 unfold cutW;rw[HT.sIx_none,HT.sIx_nat,w2m h,w2f (by simp)]
tm z1h{k:Nat}(h:k<xs.length):atI (xs.map W.str) (k:Int)=some (.str xs[k]):=by
 rw[x59 oM,w2b,w1t,w0a h];rfl
tm x2w{l:List W}{k:Nat}(h:k<=l.length):cutW l none (some (k:Int))=l.take k:=by
 unfold cutW;rw[HT.sIx_none,HT.sIx_nat,w2m h];simp
nD lvl:Fm->Nat
 |.or _ _=>0
 |.odd _ _=>1
 |.and _ _=>2
 |.not _=>3
 |.is _=>4
 |.at _=>5
nD par(b:Bool)(x:Str):Str:=if b=true then "("++(x++")")else x
nD mid(w:Str)(x y:Str):Str:=x++(" "++(w++(" "++y)))
nD txt(ns:List Str):Fm->Str
 |.is b=>if b=true then "yes" else "no"
 |.at p=>ns.getD p ""
 |.not f=>"not "++par (decide (lvl f<3)) (txt ns f)
 |.and f g=>mid "and" (par (decide (lvl f<2)) (txt ns f)) (par (decide (lvl g<3)) (txt ns g))
 |.or f g=>mid "or" (par (decide (lvl f<0)) (txt ns f)) (par (decide (lvl g<1)) (txt ns g))
 |.odd f g=>mid "odd" (par (decide (lvl f<1)) (txt ns f)) (par (decide (lvl g<2)) (txt ns g))
tm z6n(h:p<ns.length):atI (ns.map W.str) (p:Int)=some (.str (ns.getD p "")):=by
 rF q4j ?_;simp[List.getD,h]
tm x97(n:Nat)(ns:List Str)(p:Nat):run K a (n+1) q4z [.tup (ns.map .str),.int p]=if p<ns.length then .ok (.fr (.str (ns.getD p "")))else .ex (.ref a.NoPlace):=by
 rw[q65];unfold q6d;&;rw[if_neg oM,w0j]
 by_cases h:p<ns.length
 ·rw[if_pos h,if_neg oM,z6n h];&
 ·rw[if_neg h,if_pos oM]
tm z1i:tabW q1c (.str "not")=some (.int 4):=rfl
nD head:Fm->Str
 |.is _=>"is"
 |.at _=>"at"
 |.not _=>"not"
 |.and _ _=>"and"
 |.or _ _=>"or"
 |.odd _ _=>"odd"
tm y6d(f:Fm):tabGet q1c [.str (head f),.int 5]=some (.int (if lvl f<4 then(lvl f:Int)+1 else 5)):=by
 @f<;>rfl
tm z9b(f:Fm):ixW (enc f) (.int 0)=some (.str (head f)):=by
 @f<;>rfl
nD inF(m:Nat):Fm->Bool
 |.is _=>true
 |.at p=>decide (p<m)
 |.not f=>inF m f
 |.and f g=>inF m f&&inF m g
 |.or f g=>inF m f&&inF m g
 |.odd f g=>inF m f&&inF m g
tm q4q(m:Nat):∀f:Fm,inF m f=true↔f.inb m
 |.is _=>by simp[inF,Fm.inb]
 |.at p=>by simp[inF,Fm.inb]
 |.not f=>by simp only[inF,Fm.inb];!q4q m f
 |.and f g=>by simp only[inF,Fm.inb,w0l];rw[q4q m f,q4q m g]
 |.or f g=>by simp only[inF,Fm.inb,w0l];rw[q4q m f,q4q m g]
 |.odd f g=>by simp only[inF,Fm.inb,w0l];rw[q4q m f,q4q m g]
nD textR(a:Adr)(b:Bool)(x:Str):FR:=if b=true then .ok (.fr (.str x))else .ex (.ref a.NoPlace)
tm q2l(h:x.length<=1000000):fmtW (.str x)=some x:=by
 unfold fmtW;simp[h]
tm q6m(x:Str):x++Str.empty=x:=by
 cases x with
 |mk c=>show Str.mk (c++#[])=_;rw[Array.append_empty]
tm q2m(x y:Str):(x++y).length=x.length+y.length:=by
 @x;@y;!Array.size_append
tm q22(b:Bool)(x:Str):(par b x).length<=x.length+2:=by
 unfold par;split
 ·rw[q2m,q2m];#e1:(Str.ofString "(").length=1:=by decide +kernel
  #e2:(Str.ofString ")").length=1:=by decide +kernel
  omega
 ·omega
tm x3j(n:Nat)(f:Fm)(ns:List Str)(l:Nat)(hl:l<=4)(hx:(txt ns f).length<=1000000)(h:run K a (n+1) q05 [enc f,.tup (ns.map .str)]=textR a b (txt ns f)):
  run K a (n+2) q16 [enc f,.int ((l:Int)+1),.tup (ns.map .str)]=textR a b (par (decide (lvl f<l)) (txt ns f)):=by
 rw[q54];unfold q5q;&;rw[h];unfold textR;@b
 ·rfl
 rw[if_pos rfl,if_pos rfl];&;rw[z9b];&;rw[y6d]
 #e:((if lvl f<4 then(lvl f:Int)+1 else 5)<(l:Int)+1)↔lvl f<l:=by
  split<;>omega
 &;simp only[e,q2l hx];unfold par
 by_cases q:lvl f<l
 ·simp only[q,decide_true,if_true];&;rw[q6m]
 ·simp only[q,decide_false,if_false];&
tm z1j(n:Nat)(b:Bool)(ns:List Str):run K a (n+1) q05 [enc (.is b),.tup (ns.map .str)]=textR a true (txt ns (.is b)):=by
 rw[q21];unfold q3g;simp only[enc];&;@b<;>rfl
tm z1k(n p:Nat)(ns:List Str):run K a (n+2) q05 [enc (.at p),.tup (ns.map .str)]=textR a (inF ns.length (.at p)) (txt ns (.at p)):=by
 rw[q21];unfold q3g;simp only[enc];&;rw[x97];simp only[inF,textR,txt,decide_eq_true_eq];split<;>rfl
tm y6e(n:Nat)(f:Fm)(ns:List Str)(hx:(txt ns f).length<=900000)(h:run K a (n+1) q05 [enc f,.tup (ns.map .str)]=textR a b (txt ns f)):
  run K a (n+3) q05 [enc (.not f),.tup (ns.map .str)]=textR a b (txt ns (.not f)):=by
 rw[q21];unfold q3g;simp only[enc];&;rw[z1i];&;#e:=x3j (l:=3) n f ns oM oM h;#e4:((3:Nat):Int)+1=4:=rfl;rw[e4]at e;rw[e];unfold textR;@b
 ·rfl
 rw[if_pos rfl,if_pos rfl];&;rw[q2l (w0v (q22 _ _) oM)];&;rw[q6m];rfl
tm x1m{mk:Fm->Fm->Fm}{c:Bool}{w:String}{l:Nat}(hm:enc (mk f g)=.tup [.str w,enc f,enc g])(h1:w≠"is")(h2:w≠"at")(h3:w≠"not")
  (ht:tabW q1c (.str w)=some (.int ((l:Int)+1)))(hl:l<=3)(hw:(Str.ofString w).length<=100)(hT:txt ns (mk f g)=mid w (par (decide (lvl f<l)) (txt ns f)) (par (decide (lvl g<l+1)) (txt ns g)))
  (hx:(txt ns f).length<=900000)(hy:(txt ns g).length<=900000)
  (hf:run K a (n+1) q05 [enc f,.tup (ns.map .str)]=textR a b (txt ns f))(hg:run K a (n+1) q05 [enc g,.tup (ns.map .str)]=textR a c (txt ns g)):
  run K a (n+3) q05 [enc (mk f g),.tup (ns.map .str)]=textR a (b&&c) (txt ns (mk f g)):=by
 rw[q21];unfold q3g;rw[hm,hT];&;rw[if_neg (by simpa using h1),if_neg (by simpa using h2),ht];&;rw[if_neg (by simpa using h3)];&;rw[x3j (l:=l) n f ns oM oM hf];unfold textR;@b
 ·rfl
 rw[if_pos rfl];&;#e:(l:Int)+1+1=((l+1:Nat):Int)+1:=by omega
 rw[e,x3j (l:=l+1) n g ns oM oM hg];unfold textR;@c
 ·rfl
 rw[if_pos rfl,if_pos (by rfl)];&;rw[q2l (w0v (q22 _ _) oM)];&;rw[q2l oM];&;rw[q2l (w0v (q22 _ _) oM)];&;rw[q6m];rfl
tm q1b(hn:∀x∈ns,x.length<=8):∀f:Fm,(txt ns f).length<=10*f.size
 |.is b=>by @b<;>simp only[txt,Fm.size]<;>decide +kernel
 |.at p=>by
  simp only[txt,Fm.size]
  by_cases h:p<ns.length
  ·#:=hn (ns.getD p "") (by rw[w0o,w0a h];!w1l h);omega
  ·rw[w0o,w3q oM];decide +kernel
 |.not f=>by
  #h:=q1b hn f;#q:=q22 (decide (lvl f<3)) (txt ns f);#e:(Str.ofString "not ").length=4:=by decide +kernel
  simp only[txt,Fm.size,q2m];omega
 |.and f g=>by
  #h1:=q1b hn f;#h2:=q1b hn g;#q1:=q22 (decide (lvl f<2)) (txt ns f);#q2:=q22 (decide (lvl g<3)) (txt ns g);#e:(Str.ofString " ").length=1:=by decide +kernel
  #e1:(Str.ofString "and").length=3:=by decide +kernel
  simp only[txt,Fm.size,mid,q2m];omega
 |.or f g=>by
  #h1:=q1b hn f;#h2:=q1b hn g;#q1:=q22 (decide (lvl f<0)) (txt ns f);#q2:=q22 (decide (lvl g<1)) (txt ns g);#e:(Str.ofString " ").length=1:=by decide +kernel
  #e1:(Str.ofString "or").length=2:=by decide +kernel
  simp only[txt,Fm.size,mid,q2m];omega
 |.odd f g=>by
  #h1:=q1b hn f;#h2:=q1b hn g;#q1:=q22 (decide (lvl f<1)) (txt ns f);#q2:=q22 (decide (lvl g<2)) (txt ns g);#e:(Str.ofString " ").length=1:=by decide +kernel
  #e1:(Str.ofString "odd").length=3:=by decide +kernel
  simp only[txt,Fm.size,mid,q2m];omega
tm q3m(hn:∀x∈ns,x.length<=8):∀(f:Fm)(n:Nat),2*f.depth<=n->f.size<=800->run K a (n+1) q05 [enc f,.tup (ns.map .str)]=textR a (inF ns.length f) (txt ns f)
 |.is b,n,hd,hs=>z1j n b ns
 |.at p,n,hd,hs=>by
  obtain⟨n,rfl⟩:∃k,n=k+1:=⟨n-1,by simp only[Fm.depth]at hd;omega⟩;!z1k n p ns
 |.not f,n,hd,hs=>by
  obtain⟨n,rfl⟩:∃k,n=k+2:=⟨n-2,by simp only[Fm.depth]at hd;omega⟩;simp only[Fm.depth,Fm.size]at hd hs;#:=q1b hn f;!y6e n f ns oM (q3m hn f n oM oM)
 |.and f g,n,hd,hs=>by
  obtain⟨n,rfl⟩:∃k,n=k+2:=⟨n-2,by simp only[Fm.depth]at hd;omega⟩;simp only[Fm.depth,Fm.size]at hd hs;#:=q1b hn f;#:=q1b hn g;!x1m (mk:=.and) (w:="and") (l:=2) rfl (by decide) (by decide) (by decide) rfl oM (by decide +kernel) rfl oM oM (q3m hn f n oM oM) (q3m hn g n oM oM)
 |.or f g,n,hd,hs=>by
  obtain⟨n,rfl⟩:∃k,n=k+2:=⟨n-2,by simp only[Fm.depth]at hd;omega⟩;simp only[Fm.depth,Fm.size]at hd hs;#:=q1b hn f;#:=q1b hn g;!x1m (mk:=.or) (w:="or") (l:=0) rfl (by decide) (by decide) (by decide) rfl oM (by decide +kernel) rfl oM oM (q3m hn f n oM oM) (q3m hn g n oM oM)
 |.odd f g,n,hd,hs=>by
  obtain⟨n,rfl⟩:∃k,n=k+2:=⟨n-2,by simp only[Fm.depth]at hd;omega⟩;simp only[Fm.depth,Fm.size]at hd hs;#:=q1b hn f;#:=q1b hn g;!x1m (mk:=.odd) (w:="odd") (l:=1) rfl (by decide) (by decide) (by decide) rfl oM (by decide +kernel) rfl oM oM (q3m hn f n oM oM) (q3m hn g n oM oM)
nD upto(cs:List Nat):Nat:=(cs.takeWhile isL).length
nD stp(cs:List Nat):Nat:=max 1 (upto cs)
tm x8s(cs:List Nat):upto cs<=cs.length:=(List.takeWhile_sublist _).length_le
tm lenB(h:cs.length<=100000):len1 [.str (tx cs)]=some (.int cs.length):=by rw[y7j,q0u,if_pos oM]
tm ixB{cs:List Nat}(h:cs.length<=100000){k:Nat}(hc:cs[k]?=some c):ixW (.str (tx cs)) (.int k)=some (.str ⟨#[c]⟩):=by
 show(if(tx cs).length<=16777216 then(atI (tx cs).cps.toList k).map λc=>W.str ⟨#[c]⟩else none)=_
 rw[if_pos (by rw[q0u];omega),x59 oM,w2b,q1k,hc];rfl
tm y27{k:Nat}(hc:cs[k]?=some c):upto (cs.drop k)=if isL c=true then upto (cs.drop (k+1))+1 else 0:=by
 ~⟨hk,rfl⟩:=w0m.mp hc;rw[w1p hk];unfold upto;rw[w3y];split<;>rfl
tm y6f{k:Nat}(h:cs.length<=k):upto (cs.drop k)=0:=by
 rw[w4q h];rfl
tm x61(n:Nat)(cs:List Nat)(hcs:cs.length<=100000)(p:Int):∀(m k fuel:Nat),upto (cs.drop k)=m->m<fuel ->
  whileD (q2r K a (run K a (n+1))) (q2s K a (run K a (n+1))) fuel [.fr (.str (tx cs)),.fr (.int p),.fr (.int k)]=.nx [.fr (.str (tx cs)),.fr (.int p),.fr (.int ((k+m:Nat):Int))]
 |m,k,0,_,hf=>by omega
 |m,k,fuel+1,hm,hf=>by
  rw[q99];unfold q2r;&;rw[lenB hcs];&
  by_cases hk:k<cs.length
  ·#hg:cs[k]?=some cs[k]:=w0a hk;#h1:(k:Int)<(cs.length:Int):=by omega
   simp only[h1];&;rw[ixB hcs hg];&;rw[x4h n];&;rw[y27 hg]at hm;cases q:isL cs[k]with
   |false=>
    rw[q,if_neg (by simp)]at hm;subst hm;&;simp only[Nat.add_zero]
   |true=>
    rw[q,if_pos rfl]at hm;obtain⟨m',rfl⟩:∃m',m=m'+1:=⟨upto (cs.drop (k+1)),hm.symm⟩;#ih:=x61 n cs hcs p m' (k+1) fuel oM oM;unfold q2s;&;unfold q2r q2s at ih;rw[show((k:Int)+1)=((k+1:Nat):Int) by omega];rw[show k+(m'+1)=k+1+m' by omega];!ih
  ·rw[y6f oM]at hm;subst hm;#h1:¬(k:Int)<(cs.length:Int):=by omega
   simp only[h1];&;simp only[Nat.add_zero]
tm z1l{k:Nat}:(if(k:Int)+1>((k+m:Nat):Int)then(k:Int)+1 else((k+m:Nat):Int))=((k+max 1 m:Nat):Int):=by
 split<;>omega
tm y6g{k:Nat}:(if((k+m:Nat):Int)<(k:Int)+1 then(k:Int)+1 else((k+m:Nat):Int))=((k+max 1 m:Nat):Int):=by
 split<;>omega
tm z1m(n:Nat)(cs:List Nat)(hcs:cs.length<=100000)(k:Nat):run K a (n+2) q2g [.str (tx cs),.int k]=.ok (.fr (.int ((k+stp (cs.drop k):Nat):Int))):=by
 rw[q4d];unfold q3t;&;#hu:=x8s (cs.drop k);rw[w1e]at hu;rw[x61 n cs hcs k (upto (cs.drop k)) k 1000000 rfl oM];&
 first|rw[z1l]|rw[y6g]|skip
 rfl
nD pcs:Nat->List Nat->Nat->List (Nat×List Nat)
 |0,_,_=>[]
 |f+1,cs,k=>if k<cs.length then(if cs[k]?=some 32 then[]else[(k,(cs.drop k).take (stp (cs.drop k)))])++pcs f cs (k+stp (cs.drop k))else[]
tm x8t:∀(f:Nat)(cs:List Nat)(k:Nat),(pcs f cs k).length<=f
 |0,_,_=>w0b _
 |f+1,cs,k=>by
  unfold pcs;split
  ·rw[w0q];#:=x8t f cs (k+stp (cs.drop k));split
   ·simp only[w4x];omega
   ·simp only[w0t,w4x];omega
  ·simp
nD encP(p:Nat×List Nat):W:=.tup [.int p.1,.str (tx p.2)]
tm x4i(c:Nat):(Str.mk #[c]=(" ":Str))=(c=32):=by
 #e:(" ":Str)=tx [32]:=by decide +kernel
 rw[e,eq_iff_iff];constructor
 ·intro z;#:=y24 (show tx [c]=tx [32]from z)
  simpa using this
 ·rintro rfl;rfl
tm y28(cs:List Nat)(k m:Nat)(hm:1<=m)(h:k+m<=cs.length):Txt.slice (tx cs) (some (k:Int)) (some ((k+m:Nat):Int))=tx ((cs.drop k).take m):=by
 unfold Txt.slice;rw[StrLaws.sliced_plain (tx cs) (show k<=k+m by omega) (by rw[q0u];!h),q1k];split
 ·rename_i q;rw[StrLaws.strSliceIndices_plain (show k<=k+m by omega) (by rw[q0u];!h),q0u]at q;simp at q;#:k=0:=by omega
  subst this;rw[w5b,w2f oM]
 ·rw[show k+m-k=m by omega];simp[tx]
tm z6o{k:Nat}(h:k<cs.length):1<=stp (cs.drop k)/\k+stp (cs.drop k)<=cs.length:=by
 #:=x8s (cs.drop k);rw[w1e]at this;unfold stp;omega
tm z1n{k:Nat}(h:cs.length<=k):pcs m cs k=[]:=by
 cases m with
 |zero=>rfl
 |succ m=>unfold pcs;rw[if_neg oM]
tm y29{k:Nat}(h:k<cs.length)(hc:cs[k]?=some 32):pcs (m+1) cs k=pcs m cs (k+stp (cs.drop k)):=by
 rw[pcs,if_pos h,if_pos hc,w2e]
tm y6h{k:Nat}(h:k<cs.length)(hc:cs[k]?≠some 32):pcs (m+1) cs k=(k,(cs.drop k).take (stp (cs.drop k)))::pcs m cs (k+stp (cs.drop k)):=by
 rw[pcs,if_pos h,if_neg hc,w3r]
tm q8h(n:Nat)(cs:List Nat)(hcs:cs.length<=100000):∀(m k fuel:Nat)(acc:List W)(s3:S),cs.length-k<=m->m<fuel->acc.length+m<=200000 ->
  ∃q s3',whileD (q2x K a (run K a (n+2))) (q2y K a (run K a (n+2))) fuel [.fr (.str (tx cs)),.own none acc,.fr (.int k),s3]=.nx [.fr (.str (tx cs)),.own none (acc++(pcs m cs k).map encP),.fr (.int q),s3']
 |m,k,0,acc,s3,_,hf,_=>by omega
 |m,k,fuel+1,acc,s3,hm,hf,ha=>by
  rw[q99];unfold q2x;&;rw[lenB hcs];&
  by_cases hk:k<cs.length
  ·obtain⟨m',rfl⟩:∃m',m=m'+1:=⟨m-1,by omega⟩;#hg:cs[k]?=some cs[k]:=w0a hk;#hs:=z6o hk;#h1:(k:Int)<(cs.length:Int):=by omega
   simp only[h1];unfold q2y;&;rw[z1m n cs hcs k];&;rw[ixB hcs hg];&
   by_cases hb:cs[k]=32
   ·#ih:=q8h n cs hcs m' (k+stp (cs.drop k)) fuel acc (.fr (.int ((k+stp (cs.drop k):Nat):Int))) oM oM oM;rw[y29 hk (by rw[hg,hb])];simp only[show(Str.mk #[cs[k]]=(" ":Str))=True by rw[x4i];simpa using hb];&;unfold q2x q2y at ih;!ih
   ·#ih:=q8h n cs hcs m' (k+stp (cs.drop k)) fuel (acc++[encP (k,(cs.drop k).take (stp (cs.drop k)))]) (.fr (.int ((k+stp (cs.drop k):Nat):Int))) oM oM (by simp;omega);rw[y6h hk (by rw[hg];simpa using hb)];simp only[show(Str.mk #[cs[k]]=(" ":Str))=False by rw[x4i];simpa using hb];&;rw[z82 (by rw[q0u];omega),y28 cs k _ hs.1 hs.2];&;rw[if_pos oM];&;unfold q2x q2y at ih;rw[w0k]at ih;!ih
  ·rw[z1n oM];#h1:¬(k:Int)<(cs.length:Int):=by omega
   simp only[h1];&;!⟨k,s3,by simp⟩
nD pieces(cs:List Nat):List (Nat×List Nat):=pcs cs.length cs 0
tm x2x(n:Nat)(cs:List Nat)(hcs:cs.length<=100000):run K a (n+3) q20 [.str (tx cs)]=.ok (.own none ((pieces cs).map encP)):=by
 rw[q55];unfold q5r;&;~⟨q,s3,h⟩:=q8h (K:=K) (a:=a) n cs hcs cs.length 0 1000000 [] .no oM oM (by simp;omega);rw[show(.fr (.int ((0:Nat):Int)):S)=.fr (.int 0)from rfl]at h;rw[h];&;rfl
nD jw:List Str:=["and", "odd", "or"]
nD flt0(xs:List Str):List (Nat×List Nat)->Bool->Nat->Nat ⊕ (Bool×Nat)
 |[],aw,br=>.inr (aw,br)
 |(k,p)::ps,true,br=>
  if tx p="(" /\ br<12 then flt0 xs ps true (br+1)
  else if tx p∈xs\/tx p="yes"\/tx p="no" then flt0 xs ps false br
  else if tx p="not" then flt0 xs ps true br else .inl k
 |(k,p)::ps,false,br=>
  if tx p=")" /\ 0<br then flt0 xs ps false (br-1)
  else if tx p∈jw then flt0 xs ps true br else .inl k
nD flt(xs:List Str)(L:Nat)(ps:List (Nat×List Nat)):Option Nat:=match flt0 xs ps true 0 with
 |.inl k=>some k
 |.inr (aw,br)=>if aw=true\/0<br then some L else none
nD encO:Option Nat->W
 |none=>.non
 |some k=>.int (k:Int)
tm q8i:inW (.str t) (.tup [.str "and", .str "odd", .str "or"])=some (.bl (decide (t∈jw))):=x2t jw
tm y3a(n:Nat)(t:Str)(br:Nat)(xs:List Str):run K a (n+1) q34 [.str t,.int br,.dic (.k (pN 0 xs))]=.ok (.fr (.bl (if t="(" then decide (br<12)else decide (t∈(["yes", "no", "not"]:List Str))||decide (t∈xs)))):=by
 rw[q56];unfold q5s;&
 by_cases h1:t="("
 ·simp only[eq_true h1];&;simp only[show((br:Int)<12)=(br<12)from propext oM]
 ·simp only[eq_false h1];&;#e:inW (.str t) (.tup [.str "yes", .str "no", .str "not"])=some (.bl (decide (t∈(["yes", "no", "not"]:List Str)))):=x2t ["yes", "no", "not"];rw[e];cases q:decide (t∈(["yes", "no", "not"]:List Str))with
  |true=>&;rfl
  |false=>
   &;rw[x5g,w2c,x0k];rfl
tm x98(n:Nat)(t:Str)(br:Nat):run K a (n+1) q3d [.str t,.int br]=.ok (.fr (.bl (if t=")" then decide (0<br)else decide (t∈jw)))):=by
 rw[q5i];unfold q42;&
 by_cases h1:t=")"
 ·simp only[eq_true h1];&;simp only[show((br:Int)>0)=(0<br)from propext oM]
 ·simp only[eq_false h1];&;rw[q8i];&
tm z1o(n:Nat)(w:W)(xs:List Str)(hx:∀x∈xs,okN x=true)(L:Int)(k:Nat)(p:List Nat)(br:Nat)(s7:S):∃t7,
  q1e K a (run K a (n+1)) [.fr w,.fr (.dic (.k (pN 0 xs))),.fr (.int L),.fr (.bl true),.fr (.int br),.fr (.int k),.fr (.str (tx p)),s7] =
   (if tx p="(" /\ br<12 then .nx [.fr w,.fr (.dic (.k (pN 0 xs))),.fr (.int L),.fr (.bl true),.fr (.int ((br+1:Nat):Int)),.fr (.int k),.fr (.str (tx p)),t7]
   else if tx p∈xs\/tx p="yes"\/tx p="no" then .nx [.fr w,.fr (.dic (.k (pN 0 xs))),.fr (.int L),.fr (.bl false),.fr (.int br),.fr (.int k),.fr (.str (tx p)),t7]
   else if tx p="not" then .nx [.fr w,.fr (.dic (.k (pN 0 xs))),.fr (.int L),.fr (.bl true),.fr (.int br),.fr (.int k),.fr (.str (tx p)),t7]else .rt (.fr (.int k)) [.fr w,.fr (.dic (.k (pN 0 xs))),.fr (.int L),.fr (.bl true),.fr (.int br),.fr (.int k),.fr (.str (tx p)),t7]):=by
 rF⟨.fr (.bl (if tx p="(" then decide (br<12)else decide (tx p∈(["yes", "no", "not"]:List Str))||decide (tx p∈xs))),?_⟩;unfold q1e;&;rw[y3a n];&
 by_cases h1:tx p="("
 ·#nx:tx p∉xs:=λz=>by
   #:=(q01 (hx _ z)).2.2.2;rw[h1]at this;!absurd (this 40 (by decide +kernel)) (by decide)
  #h2:¬tx p="yes":=by rw[h1];decide +kernel
  #h3:¬tx p="no":=by rw[h1];decide +kernel
  #h4:¬tx p="not":=by rw[h1];decide +kernel
  simp only[eq_true h1,eq_false nx,eq_false h2,eq_false h3,eq_false h4];&
  by_cases hb:br<12
  ·simp only[eq_true hb];&;rw[show(br:Int)+1=((br+1:Nat):Int) by omega]
  ·simp only[eq_false hb];&
 ·simp only[eq_false h1];&
  by_cases h5:tx p∈xs
  ·#ok:=q01 (hx _ h5);#h6:tx p∉(["yes", "no", "not", "and", "odd", "or"]:List Str):=of_decide_eq_false ok.1;simp only[w0d,w0h,or_false,not_or]at h6;~⟨q1,q2,q3,q4,q5,q6⟩:=h6
   #nc:¬tx p=")":=λz=>by
    #:=ok.2.2.2;rw[z]at this;!absurd (this 41 (by decide +kernel)) (by decide)
   #m3:¬(tx p∈(["yes", "no", "not"]:List Str)):=by simp[q1,q2,q3]
   #mj:¬(tx p∈jw):=by unfold jw;simp[q4,q5,q6]
   simp only[eq_true h5,eq_false m3,eq_false nc,eq_false q3,Bool.or_true];&;rw[q8i];simp only[eq_false mj];&;try rfl
  ·by_cases q1:tx p="yes"
   ·#m3:tx p∈(["yes", "no", "not"]:List Str):=by rw[q1];simp
    #nc:¬tx p=")":=by rw[q1];decide +kernel
    #q3:¬tx p="not":=by rw[q1];decide +kernel
    #mj:¬(tx p∈jw):=by rw[q1];decide +kernel
    simp only[eq_false h5,eq_true m3,eq_true q1,eq_false nc,eq_false q3,w5o];&;rw[q8i];simp only[eq_false mj];&;try rfl
   ·by_cases q2:tx p="no"
    ·#m3:tx p∈(["yes", "no", "not"]:List Str):=by rw[q2];simp
     #nc:¬tx p=")":=by rw[q2];decide +kernel
     #q3:¬tx p="not":=by rw[q2];decide +kernel
     #mj:¬(tx p∈jw):=by rw[q2];decide +kernel
     simp only[eq_false h5,eq_true m3,eq_false q1,eq_true q2,eq_false nc,eq_false q3,w5o];&;rw[q8i];simp only[eq_false mj];&;try rfl
    ·by_cases q3:tx p="not"
     ·#m3:tx p∈(["yes", "no", "not"]:List Str):=by rw[q3];simp
      #nc:¬tx p=")":=by rw[q3];decide +kernel
      simp only[eq_false h5,eq_true m3,eq_false q1,eq_false q2,eq_false nc,eq_true q3,w5o];&;try rfl
     ·#m3:¬(tx p∈(["yes", "no", "not"]:List Str)):=by simp[q1,q2,q3]
      simp only[eq_false h5,eq_false m3,eq_false q1,eq_false q2,eq_false q3,Bool.or_false];&;try rfl
tm y6i(n:Nat)(w:W)(xs:List Str)(L:Int)(k:Nat)(p:List Nat)(br:Nat)(s7:S):∃t7,
  q1e K a (run K a (n+1)) [.fr w,.fr (.dic (.k (pN 0 xs))),.fr (.int L),.fr (.bl false),.fr (.int br),.fr (.int k),.fr (.str (tx p)),s7] =
   (if tx p=")" /\ 0<br then .nx [.fr w,.fr (.dic (.k (pN 0 xs))),.fr (.int L),.fr (.bl false),.fr (.int ((br-1:Nat):Int)),.fr (.int k),.fr (.str (tx p)),t7]
   else if tx p∈jw then .nx [.fr w,.fr (.dic (.k (pN 0 xs))),.fr (.int L),.fr (.bl true),.fr (.int br),.fr (.int k),.fr (.str (tx p)),t7]else .rt (.fr (.int k)) [.fr w,.fr (.dic (.k (pN 0 xs))),.fr (.int L),.fr (.bl false),.fr (.int br),.fr (.int k),.fr (.str (tx p)),t7]):=by
 rF⟨.fr (.bl (if tx p=")" then decide (0<br)else decide (tx p∈jw))),?_⟩;unfold q1e;&;rw[x98 n];&
 by_cases h1:tx p=")"
 ·#mj:¬(tx p∈jw):=by rw[h1];decide +kernel
  #ho:¬tx p="(":=by rw[h1];decide +kernel
  simp only[eq_true h1,eq_false mj,eq_false ho];&
  by_cases hb:0<br
  ·simp only[eq_true hb];&;rw[show(br:Int)-1=((br-1:Nat):Int) by omega]
  ·simp only[eq_false hb];&
 ·simp only[eq_false h1];&
  by_cases hj:tx p∈jw
  ·#ho:¬tx p="(":=λz=>by rw[z]at hj;!absurd hj (by decide +kernel)
   simp only[eq_true hj,eq_false ho];&;rw[q8i];simp only[eq_true hj]
   by_cases hn:tx p="not"
   ·simp only[eq_true hn];&
   ·simp only[eq_false hn];&
  ·simp only[eq_false hj];&
nD pr2(p:Nat×List Nat):W×W:=(.int p.1,.str (tx p.2))
tm q9u:∀ps:List (Nat×List Nat),pairsW (ps.map encP)=some (ps.map pr2)
 |[]=>rfl
 |p::ps=>by
  rw[w0g,w0g];show((pairsW (ps.map encP)).map ((W.int p.1,W.str (tx p.2))::·))=_;rw[q9u ps];rfl
tm q6n(n:Nat)(w:W)(xs:List Str)(hx:∀x∈xs,okN x=true)(L:Int):∀(ps:List (Nat×List Nat))(aw:Bool)(br:Nat)(s5 s6 s7:S),
  match flt0 xs ps aw br with
  |.inl k=>∃e,forP 5 6 (q1e K a (run K a (n+1))) (ps.map pr2) [.fr w,.fr (.dic (.k (pN 0 xs))),.fr (.int L),.fr (.bl aw),.fr (.int br),s5,s6,s7]=.rt (.fr (.int k)) e
  |.inr (aw',br')=>∃t5 t6 t7,forP 5 6 (q1e K a (run K a (n+1))) (ps.map pr2) [.fr w,.fr (.dic (.k (pN 0 xs))),.fr (.int L),.fr (.bl aw),.fr (.int br),s5,s6,s7]=.nx [.fr w,.fr (.dic (.k (pN 0 xs))),.fr (.int L),.fr (.bl aw'),.fr (.int br'),t5,t6,t7]
 |[],aw,br,s5,s6,s7=>⟨s5,s6,s7,rfl⟩
 |(k,p)::ps,true,br,s5,s6,s7=>by
  rw[flt0,w0g,q2o];simp only[pr2,w1z,w1y];~⟨t7,e7⟩:=z1o (K:=K) (a:=a) n w xs hx L k p br s7;rw[e7]
  by_cases h1:tx p="(" /\ br<12
  ·rw[if_pos h1,if_pos h1];simp only[q07];!q6n n w xs hx L ps true (br+1) _ _ _
  ·rw[if_neg h1,if_neg h1]
   by_cases h2:tx p∈xs\/tx p="yes"\/tx p="no"
   ·rw[if_pos h2,if_pos h2];simp only[q07];!q6n n w xs hx L ps false br _ _ _
   ·rw[if_neg h2,if_neg h2]
    by_cases h3:tx p="not"
    ·rw[if_pos h3,if_pos h3];simp only[q07];!q6n n w xs hx L ps true br _ _ _
    ·rw[if_neg h3,if_neg h3];!⟨_,rfl⟩
 |(k,p)::ps,false,br,s5,s6,s7=>by
  rw[flt0,w0g,q2o];simp only[pr2,w1z,w1y];~⟨t7,e7⟩:=y6i (K:=K) (a:=a) n w xs L k p br s7;rw[e7]
  by_cases h1:tx p=")" /\ 0<br
  ·rw[if_pos h1,if_pos h1];simp only[q07];!q6n n w xs hx L ps false (br-1) _ _ _
  ·rw[if_neg h1,if_neg h1]
   by_cases h2:tx p∈jw
   ·rw[if_pos h2,if_pos h2];simp only[q07];!q6n n w xs hx L ps true br _ _ _
   ·rw[if_neg h2,if_neg h2];!⟨_,rfl⟩
tm y3b(n:Nat)(ps:List (Nat×List Nat))(L:Nat)(xs:List Str)(hx:∀x∈xs,okN x=true):run K a (n+2) q1y [.lst (ps.map encP),.dic (.k (pN 0 xs)),.int L]=.ok (.fr (encO (flt xs L ps))):=by
 rw[q49];unfold q38;&;rw[q9u];&;#h:=q6n (K:=K) (a:=a) n (.lst (ps.map encP)) xs hx L ps true 0 .no .no .no;unfold flt;cases q:flt0 xs ps true 0 with
 |inl k=>
  rw[q]at h;~⟨e,h⟩:=h;rw[show(W.int ((0:Nat):Int))=.int 0 from rfl]at h;rw[h];&;rfl
 |inr z=>
  ~⟨aw,br⟩:=z;rw[q]at h;~⟨t5,t6,t7,h⟩:=h;rw[show(W.int ((0:Nat):Int))=.int 0 from rfl]at h;rw[h];&;cases aw with
  |true=>
   &;rfl
  |false=>
   &
   by_cases hb:0<br
   ·#hb':(br:Int)>0:=by omega
    simp only[eq_true hb',eq_true hb];&;rfl
   ·#hb':¬(br:Int)>0:=by omega
    simp only[eq_false hb',eq_false hb];&;rfl
nD tgt(t:Str):Nat:=if t="(" then 0 else if t="or" then 1 else if t="odd" then 2 else if t="and" then 3 else 4
nD wrd5:List Str:=["(", "or", "odd", "and", "not"]
tm tab5(h:t∈wrd5):tabW q1c (.str t)=some (.int (tgt t)):=by
 unfold wrd5 at h;simp only[w0d,w0h,or_false]at h;rcases h with rfl|rfl|rfl|rfl|rfl<;>rfl
nD need:List Str->Nat
 |[]=>0
 |t::ts=>(if t="("\/t="not" then 0 else 1)+need ts
nD opn:List Str->Nat
 |[]=>0
 |t::ts=>(if t="(" then 1 else 0)+opn ts
nD settleF(l:Nat):List Str->List W->List Str×List W
 |[],fs=>([],fs)
 |t::ts,fs=>if l<=tgt t then
   (if t="not" then(match fs with
    |f::fs=>settleF l ts (.tup [.str "not", f]::fs)
    |[]=>(t::ts,[]))
   else(match fs with
    |g::f::fs=>settleF l ts (.tup [.str t,f,g]::fs)
    |_=>(t::ts,fs)))
  else(t::ts,fs)
tm x8u{w:W}:atI (ws++[w]) (-1)=some w:=by
 unfold atI
 #:ixN (ws++[w]).length (-1)=some ws.length:=by
  unfold ixN;simp;omega
 rw[this];simp
tm q7r(n:Nat)(l:Nat):∀(wt:List Str)(fs:List W)(fuel:Nat)(s3 s4:S),(∀t∈wt,t∈wrd5)->need wt<fs.length->(l=0->opn wt=0)->wt.length<fuel->wt.length<=200000->fs.length<=200000 ->
  ∃t3 t4,whileD (q3u K a (run K a n)) (q43 K a (run K a n)) fuel [.own (some 0) fs.reverse,.own (some 1) (wt.reverse.map .str),.fr (.int l),s3,s4]=.nx [.own (some 0) (settleF l wt fs).2.reverse,.own (some 1) ((settleF l wt fs).1.reverse.map .str),.fr (.int l),t3,t4]
 |wt,fs,0,s3,s4,_,_,_,hf,_,_=>by omega
 |[],fs,fuel+1,s3,s4,_,_,_,_,_,hl=>by
  rw[q99];unfold q3u;&;!⟨s3,s4,rfl⟩
 |t::ts,fs,fuel+1,s3,s4,hw,hn,ho,hf,hl,hl2=>by
  rw[q99];unfold q3u;#e1:((t::ts).reverse.map W.str)=ts.reverse.map W.str++[.str t]:=by simp
  rw[e1];&;#h0:((ts.reverse.map W.str++[W.str t]).length:Int)>0:=by simp
  simp only[eq_true h0];&;rw[x8u];&;rw[tab5 (hw t (by simp))];&;unfold settleF
  by_cases hg:l<=tgt t
  ·#hg':(tgt t:Int)>=(l:Int):=by omega
   simp only[eq_true hg',eq_true hg]
   #hp:t≠"(":=λz=>by
    subst z
    #hl0:l=0:=by
     #:tgt "("=0:=by decide +kernel
     omega
    #:=ho hl0;unfold opn at this;rw[if_pos rfl]at this;omega
   unfold q43;&;unfold need at hn
   by_cases hn1:t="not"
   ·subst hn1;rw[if_pos (.inr rfl)]at hn;cases fs with
    |nil=>simp at hn
    |cons f fs=>
     #ih:=q7r n l ts (.tup [.str "not", f]::fs) fuel (.fr (.str "not")) (.fr f) (λt ht=>hw t (by simp[ht])) (by simpa using hn) (λz=>by
      #:=ho z;unfold opn at this;omega) (by simp at hf;omega) (by simp at hl;omega) (by simpa using hl2)
     rw[w2y]at ih |-
     &;rw[if_pos (by simp at hl2 |-;omega)];&;unfold q3u q43 at ih;!ih
   ·rw[if_neg (not_or.mpr ⟨hp,hn1⟩)]at hn
    match fs,hn,hl2 with
    |[],hn,_=>simp at hn
    |[g],hn,_=>simp at hn
    |g::f::fs,hn,hl2=>
     #ih:=q7r n l ts (.tup [.str t,f,g]::fs) fuel (.fr (.str t)) (.fr g) (λt ht=>hw t (by simp[ht])) (by simp at hn |-;omega) (λz=>by
      #:=ho z;unfold opn at this;omega) (by simp at hf;omega) (by simp at hl;omega) (by simp at hl2 |-;omega)
     rw[w2y,w2y];rw[w2y]at ih;&;simp only[eq_false hn1];&;rw[if_pos (by simp at hl2 |-;omega)];&;unfold q3u q43 at ih;!ih
  ·#hg':¬(tgt t:Int)>=(l:Int):=by omega
   simp only[eq_false hg',eq_false hg];&;!⟨s3,s4,by simp⟩
tm q8j(n:Nat)(l:Nat)(wt:List Str)(fs:List W)(hw:∀t∈wt,t∈wrd5)(hn:need wt<fs.length)(hl0:l=0->opn wt=0)(hl:wt.length<=200000)(hl2:fs.length<=200000):
  run K a (n+1) q4b [.lst fs.reverse,.lst (wt.reverse.map .str),.int l]=.ok (.fr (.tup [.lst (settleF l wt fs).2.reverse,.lst ((settleF l wt fs).1.reverse.map .str)])):=by
 rw[q8f];unfold q8e;&;~⟨t3,t4,h⟩:=q7r (K:=K) (a:=a) n l wt fs 1000000 .no .no hw hn hl0 oM hl hl2;rw[h];&
tm x8v(h:t≠"("):1<=tgt t:=by
 unfold tgt;rw[if_neg h];split<;>(try split)<;>(try split)<;>omega
tm q6i(l:Nat)(h1:1<=l):∀(wt:List Str)(fs:List W),(∀t∈wt,t∈wrd5)->fs.length=need wt+1 ->
  (∀t∈(settleF l wt fs).1,t∈wrd5)/\opn (settleF l wt fs).1=opn wt/\(settleF l wt fs).2.length=need (settleF l wt fs).1+1/\(settleF l wt fs).1.length<=wt.length/\(settleF l wt fs).2.length<=fs.length/\(∀t ts,(settleF l wt fs).1=t::ts->tgt t<l)
 |[],fs,hw,hn=>⟨hw,rfl,hn,w0b _,w0b _,λt ts z=>by @z⟩
 |t::ts,fs,hw,hn=>by
  unfold settleF;unfold need at hn
  by_cases hg:l<=tgt t
  ·rw[if_pos hg]
   #hp:t≠"(":=λz=>by
    subst z;#:tgt "("=0:=by decide +kernel
    omega
   by_cases hn1:t="not"
   ·rw[if_pos hn1];rw[if_pos (.inr hn1)]at hn;cases fs with
    |nil=>simp at hn
    |cons f fs=>
     #ih:=q6i l h1 ts (.tup [.str "not", f]::fs) (λt ht=>hw t (by simp[ht])) (by simp at hn |-;omega)
     rF⟨ih.1,?_,ih.2.2.1,by simp;omega,ih.2.2.2.2.1,ih.2.2.2.2.2⟩;rw[ih.2.1];unfold opn;rw[if_neg hp];@ts<;>simp[opn]
   ·rw[if_neg hn1];rw[if_neg (not_or.mpr ⟨hp,hn1⟩)]at hn
    match fs,hn with
    |[],hn=>simp at hn
    |[g],hn=>simp at hn
    |g::f::fs,hn=>
     #ih:=q6i l h1 ts (.tup [.str t,f,g]::fs) (λt ht=>hw t (by simp[ht])) (by simp at hn |-;omega)
     rF⟨ih.1,?_,ih.2.2.1,by simp;omega,by #:=ih.2.2.2.2.1;simp at this |-;omega,ih.2.2.2.2.2⟩;rw[ih.2.1];unfold opn;rw[if_neg hp];@ts<;>simp[opn]
  ·rw[if_neg hg];rF⟨hw,rfl,by unfold need;!hn,w0b _,w0b _,λt' ts' z=>?_⟩
   @z;omega
tm q8k:∀(wt:List Str)(fs:List W),(∀t∈wt,t∈wrd5)->opn wt=0->fs.length=need wt+1->∃w,settleF 1 wt fs=([],[w])
 |[],fs,hw,ho,hn=>by
  unfold need at hn
  match fs,hn with
  |[w],_=>!⟨w,rfl⟩
  |[],hn=>simp at hn
  |_::_::_,hn=>simp at hn
 |t::ts,fs,hw,ho,hn=>by
  unfold settleF;unfold need at hn;unfold opn at ho;#hp:t≠"(":=λz=>by rw[if_pos z]at ho;omega
  rw[if_neg hp]at ho;rw[if_pos (x8v hp)]
  by_cases hn1:t="not"
  ·rw[if_pos hn1];rw[if_pos (.inr hn1)]at hn;cases fs with
   |nil=>simp at hn
   |cons f fs=>!q8k ts _ (λt ht=>hw t (by simp[ht])) oM (by simp at hn |-;omega)
  ·rw[if_neg hn1];rw[if_neg (not_or.mpr ⟨hp,hn1⟩)]at hn
   match fs,hn with
   |[],hn=>simp at hn
   |[g],hn=>simp at hn
   |g::f::fs,hn=>!q8k ts _ (λt ht=>hw t (by simp[ht])) oM (by simp at hn |-;omega)
nD plF(xs:List Str)(t:Str):W:=if t="yes" then .tup [.str "is", .bl true]else if t="no" then .tup [.str "is", .bl false]else .tup [.str "at", match idxS t xs with|some j=>.int (j:Int)|none=>.non]
tm y3c(n:Nat)(t:Str)(xs:List Str)(h:t="yes"\/t="no"\/t∈xs):run K a (n+1) q3e [.str t,.dic (.k (pN 0 xs))]=.ok (.fr (plF xs t)):=by
 rw[q5j];unfold q44 plF;&
 by_cases h1:t="yes"
 ·simp only[eq_true h1];&
 ·simp only[eq_false h1];&
  by_cases h2:t="no"
  ·simp only[eq_true h2];&
  ·simp only[eq_false h2];&;#h3:t∈xs:=(h.resolve_left h1).resolve_left h2;#h4:(idxS t xs).isSome=true:=by rw[x0k];!decide_eq_true h3
   ~⟨j,hj⟩:=w3f.mp h4;rw[x5g,hj];simp only[w4w,wSv,w4d];&
nD stepF(xs:List Str)(st:List Str×List W)(t:Str):List Str×List W:=
 if t="("\/t="not" then(t::st.1,st.2)
 else if t=")" then((settleF 1 st.1 st.2).1.tail,(settleF 1 st.1 st.2).2)
 else if t∈jw then(t::(settleF (tgt t) st.1 st.2).1,(settleF (tgt t) st.1 st.2).2)
 else(st.1,plF xs t::st.2)
nD Inv(wt:List Str)(fs:List W)(aw:Bool)(br:Nat):Prop:=(∀t∈wt,t∈wrd5)/\opn wt=br/\fs.length=need wt+(if aw=true then 0 else 1)
nD fst(K:PySem.W.Frag)(w:W)(xs:List Str)(st:List Str×List W)(s4 s5:S):List S:=[.fr w,.fr (.dic (.k (pN 0 xs))),.own none st.2.reverse,.own none (st.1.reverse.map .str),s4,s5]
tm z6p(h:t∈jw):t∈wrd5/\1<=tgt t/\t≠"(" /\ t≠"not" /\ t≠")" /\ t≠"yes" /\ t≠"no":=by
 unfold jw at h;simp only[w0d,w0h,or_false]at h;rcases h with rfl|rfl|rfl<;>decide +kernel
tm q9v(n:Nat)(w:W)(xs:List Str)(hx:∀x∈xs,okN x=true)(k:Nat)(p:List Nat)(wt:List Str)(fs:List W)(hb:wt.length+fs.length<=200000)(h:tx p="("\/tx p="not"\/(tx p∈xs\/tx p="yes"\/tx p="no")):
  q0x K a (run K a (n+1)) (fst K w xs (wt,fs) (.fr (.int k)) (.fr (.str (tx p))))=.nx (fst K w xs (stepF xs (wt,fs) (tx p)) (.fr (.int k)) (.fr (.str (tx p)))):=by
 unfold q0x fst stepF;&
 by_cases h1:tx p="("
 ·simp only[eq_true h1];&;rw[if_pos (by simp;omega)];simp
 ·by_cases h2:tx p="not"
  ·simp only[eq_false h1,eq_true h2];&;rw[if_pos (by simp;omega)];simp
  ·#h3:=(h.resolve_left h1).resolve_left h2
   #h4:¬tx p=")" /\ ¬(tx p∈jw):=by
    rcases h3 with h3|h3|h3
    ·#ok:=q01 (hx _ h3);#h6:tx p∉(["yes", "no", "not", "and", "odd", "or"]:List Str):=of_decide_eq_false ok.1;rF⟨λz=>?_,λz=>h6 ?_⟩
     ·#:=ok.2.2.2;rw[z]at this;!absurd (this 41 (by decide +kernel)) (by decide)
     ·unfold jw at z;simp only[w0d,w0h,or_false]at z |-
      rcases z with z|z|z<;>simp[z]
    ·rw[h3];decide +kernel
    ·rw[h3];decide +kernel
   simp only[eq_false h1,eq_false h2,eq_false h4.1,eq_false h4.2];&;rw[q8i];simp only[eq_false h4.2];&;rw[y3c n (tx p) xs (by rcases h3 with h3|h3|h3<;>simp[h3])];&;rw[if_pos (by simp;omega)];simp
tm set1:(W.int ((1:Nat):Int))=.int 1:=rfl
tm x99(n:Nat)(w:W)(xs:List Str)(k:Nat)(p:List Nat)(wt:List Str)(fs:List W)(hb:wt.length+fs.length<=200000)(br:Nat)(hI:Inv wt fs false br)(hbr:0<br)(h:tx p=")"):
  q0x K a (run K a (n+1)) (fst K w xs (wt,fs) (.fr (.int k)) (.fr (.str (tx p))))=.nx (fst K w xs (stepF xs (wt,fs) (tx p)) (.fr (.int k)) (.fr (.str (tx p))))/\Inv (stepF xs (wt,fs) (tx p)).1 (stepF xs (wt,fs) (tx p)).2 false (br-1)/\(stepF xs (wt,fs) (tx p)).1.length+(stepF xs (wt,fs) (tx p)).2.length<=wt.length+fs.length:=by
 ~⟨i1,i2,i3⟩:=hI;#i3:fs.length=need wt+1:=i3;#si:=q6i 1 (w0b _) wt fs i1 i3;#sr:=q8j (K:=K) (a:=a) n 1 wt fs i1 oM (λz=>by omega) oM oM
 rw[set1]at sr;#n1:¬tx p="(":=by rw[h];decide +kernel
 #n2:¬tx p="not":=by rw[h];decide +kernel
 #es:stepF xs (wt,fs) (tx p)=((settleF 1 wt fs).1.tail,(settleF 1 wt fs).2):=by
  unfold stepF;rw[if_neg (not_or.mpr ⟨n1,n2⟩),if_pos h]
 rw[es];generalize settleF 1 wt fs=z at si sr;~⟨wt',fs'⟩:=z;dsimp only at si sr |-
 cases wt' with
 |nil=>exfalso;#h0:0=opn wt:=si.2.1;omega
 |cons t ts=>
  #ht:t="(":=by
   by_cases z:t="("
   ·!z
   ·#:=x8v z;#:=si.2.2.2.2.2 t ts rfl;omega
  subst ht;#so:(if("(":Str)="(" then 1 else 0)+opn ts=opn wt:=si.2.1;#sn:fs'.length=((if("(":Str)="("\/("(":Str)="not" then 0 else 1)+need ts)+1:=si.2.2.1;#sl:=si.2.2.2.1;#sf:=si.2.2.2.2.1;rw[if_pos rfl]at so;rw[if_pos (.inl rfl)]at sn;rF⟨?_,⟨λt ht=>si.1 t (by simp at ht;simp[ht]),?_,?_⟩,?_⟩
  ·unfold q0x fst;&;simp only[eq_false n1,eq_false n2,eq_true h];&;rw[sr];&;rw[w2y,w0n,w0g,w1w];&;rfl
  ·show opn ts=br-1;omega
  ·show fs'.length=need ts+1;omega
  ·show ts.length+fs'.length<=_;simp at sl;omega
tm y3d(n:Nat)(w:W)(xs:List Str)(k:Nat)(p:List Nat)(wt:List Str)(fs:List W)(hb:wt.length+fs.length<=200000)(br:Nat)(hI:Inv wt fs false br)(h:tx p∈jw):
  q0x K a (run K a (n+1)) (fst K w xs (wt,fs) (.fr (.int k)) (.fr (.str (tx p))))=.nx (fst K w xs (stepF xs (wt,fs) (tx p)) (.fr (.int k)) (.fr (.str (tx p))))/\Inv (stepF xs (wt,fs) (tx p)).1 (stepF xs (wt,fs) (tx p)).2 true br/\(stepF xs (wt,fs) (tx p)).1.length+(stepF xs (wt,fs) (tx p)).2.length<=wt.length+fs.length+1:=by
 ~⟨i1,i2,i3⟩:=hI;#i3:fs.length=need wt+1:=i3;~⟨j1,j2,n1,n2,n3,_,_⟩:=z6p h;#si:=q6i (tgt (tx p)) j2 wt fs i1 i3;#sr:=q8j (K:=K) (a:=a) n (tgt (tx p)) wt fs i1 oM (λz=>by omega) oM oM
 #es:stepF xs (wt,fs) (tx p)=(tx p::(settleF (tgt (tx p)) wt fs).1,(settleF (tgt (tx p)) wt fs).2):=by
  unfold stepF;rw[if_neg (not_or.mpr ⟨n1,n2⟩),if_neg n3,if_pos h]
 rw[es];generalize settleF (tgt (tx p)) wt fs=z at si sr;~⟨wt',fs'⟩:=z;dsimp only at si sr |-
 rF⟨?_,⟨λt ht=>?_,?_,?_⟩,?_⟩
 ·unfold q0x fst;&;simp only[eq_false n1,eq_false n2,eq_false n3];&;rw[q8i];simp only[eq_true h];&;rw[tab5 j1];&;rw[sr];&;rw[if_pos (by simp;omega)];simp
 ·rcases w0d.mp ht with rfl|ht
  ·!j1
  ·!si.1 t ht
 ·unfold opn;rw[if_neg n1,si.2.1];omega
 ·show fs'.length=need (tx p::wt')+0;unfold need;rw[if_neg (not_or.mpr ⟨n1,n2⟩),si.2.2.1];omega
 ·show(tx p::wt').length+fs'.length<=_;simp;omega
tm q4r(n:Nat)(w:W)(xs:List Str)(hx:∀x∈xs,okN x=true):∀(ps:List (Nat×List Nat))(aw:Bool)(br:Nat)(st:List Str×List W)(s4 s5:S)(aw':Bool)(br':Nat),flt0 xs ps aw br=.inr (aw',br')->Inv st.1 st.2 aw br->st.1.length+st.2.length+ps.length<=200000 ->
  ∃t4 t5,forP 4 5 (q0x K a (run K a (n+1))) (ps.map pr2) (fst K w xs st s4 s5)=.nx (fst K w xs (ps.foldl (λst p=>stepF xs st (tx p.2)) st) t4 t5)/\Inv (ps.foldl (λst p=>stepF xs st (tx p.2)) st).1 (ps.foldl (λst p=>stepF xs st (tx p.2)) st).2 aw' br'/\(ps.foldl (λst p=>stepF xs st (tx p.2)) st).1.length+(ps.foldl (λst p=>stepF xs st (tx p.2)) st).2.length<=200000
 |[],aw,br,st,s4,s5,aw',br',hf,hI,hb=>by
  @hf;!⟨s4,s5,rfl,hI,hb⟩
 |(k,p)::ps,true,br,(wt,fs),s4,s5,aw',br',hf,hI,hb=>by
  rw[w0g,q2o,w1o];#hset:((fst K w xs (wt,fs) s4 s5).set 4 (.fr (pr2 (k,p)).1)).set 5 (.fr (pr2 (k,p)).2)=fst K w xs (wt,fs) (.fr (.int k)) (.fr (.str (tx p))):=rfl;rw[hset];rw[flt0]at hf;~⟨i1,i2,i3⟩:=hI;#i3:fs.length=need wt:=i3;simp only[w0t]at hb
  by_cases h1:tx p="(" /\ br<12
  ·rw[if_pos h1]at hf;rw[q9v n w xs hx k p wt fs oM (.inl h1.1),q07];#es:stepF xs (wt,fs) (tx p)=(tx p::wt,fs):=by unfold stepF;rw[if_pos (.inl h1.1)]
   rw[es];rF q4r n w xs hx ps true (br+1) (tx p::wt,fs) _ _ aw' br' hf ⟨λt ht=>?_,?_,?_⟩ (by simp;omega)
   ·rcases w0d.mp ht with rfl|ht
    ·rw[h1.1];decide +kernel
    ·!i1 t ht
   ·show opn (tx p::wt)=_;unfold opn;rw[if_pos h1.1,i2];omega
   ·show fs.length=need (tx p::wt)+0;unfold need;rw[if_pos (.inl h1.1)];omega
  ·rw[if_neg h1]at hf
   by_cases h2:tx p∈xs\/tx p="yes"\/tx p="no"
   ·rw[if_pos h2]at hf;rw[q9v n w xs hx k p wt fs oM (.inr (.inr h2)),q07]
    #h4:¬tx p="(" /\ ¬tx p="not" /\ ¬tx p=")" /\ ¬(tx p∈jw):=by
     rcases h2 with h3|h3|h3
     ·#ok:=q01 (hx _ h3);#h6:tx p∉(["yes", "no", "not", "and", "odd", "or"]:List Str):=of_decide_eq_false ok.1;rF⟨λz=>?_,λz=>h6 (by simp[z]),λz=>?_,λz=>h6 ?_⟩
      ·#:=ok.2.2.2;rw[z]at this;!absurd (this 40 (by decide +kernel)) (by decide)
      ·#:=ok.2.2.2;rw[z]at this;!absurd (this 41 (by decide +kernel)) (by decide)
      ·unfold jw at z;simp only[w0d,w0h,or_false]at z |-
       rcases z with z|z|z<;>simp[z]
     ·rw[h3];decide +kernel
     ·rw[h3];decide +kernel
    #es:stepF xs (wt,fs) (tx p)=(wt,plF xs (tx p)::fs):=by unfold stepF;rw[if_neg (not_or.mpr ⟨h4.1,h4.2.1⟩),if_neg h4.2.2.1,if_neg h4.2.2.2]
    rw[es];!q4r n w xs hx ps false br (wt,plF xs (tx p)::fs) _ _ aw' br' hf ⟨i1,i2,show(plF xs (tx p)::fs).length=need wt+1 by simp;omega⟩ (by simp;omega)
   ·rw[if_neg h2]at hf
    by_cases h3:tx p="not"
    ·rw[if_pos h3]at hf;rw[q9v n w xs hx k p wt fs oM (.inr (.inl h3)),q07];#es:stepF xs (wt,fs) (tx p)=(tx p::wt,fs):=by unfold stepF;rw[if_pos (.inr h3)]
     rw[es];rF q4r n w xs hx ps true br (tx p::wt,fs) _ _ aw' br' hf ⟨λt ht=>?_,?_,?_⟩ (by simp;omega)
     ·rcases w0d.mp ht with rfl|ht
      ·rw[h3];decide +kernel
      ·!i1 t ht
     ·show opn (tx p::wt)=_;unfold opn;rw[if_neg (by rw[h3];decide +kernel),i2];omega
     ·show fs.length=need (tx p::wt)+0;unfold need;rw[if_pos (.inr h3)];omega
    ·rw[if_neg h3]at hf;@hf
 |(k,p)::ps,false,br,(wt,fs),s4,s5,aw',br',hf,hI,hb=>by
  rw[w0g,q2o,w1o];#hset:((fst K w xs (wt,fs) s4 s5).set 4 (.fr (pr2 (k,p)).1)).set 5 (.fr (pr2 (k,p)).2)=fst K w xs (wt,fs) (.fr (.int k)) (.fr (.str (tx p))):=rfl;rw[hset];rw[flt0]at hf;simp only[w0t]at hb
  by_cases h1:tx p=")" /\ 0<br
  ·rw[if_pos h1]at hf;~⟨c1,c2,c3⟩:=x99 (K:=K) (a:=a) n w xs k p wt fs oM br hI h1.2 h1.1;rw[c1,q07];!q4r n w xs hx ps false (br-1) _ _ _ aw' br' hf c2 oM
  ·rw[if_neg h1]at hf
   by_cases h2:tx p∈jw
   ·rw[if_pos h2]at hf;~⟨c1,c2,c3⟩:=y3d (K:=K) (a:=a) n w xs k p wt fs oM br hI h2;rw[c1,q07];!q4r n w xs hx ps true br _ _ _ aw' br' hf c2 oM
   ·rw[if_neg h2]at hf;@hf
nD foldF(xs:List Str)(ps:List (Nat×List Nat)):List Str×List W:=ps.foldl (λst p=>stepF xs st (tx p.2)) ([],[])
tm z1p(n:Nat)(ps:List (Nat×List Nat))(xs:List Str)(hx:∀x∈xs,okN x=true)(hp:ps.length<=200000)(h:flt0 xs ps true 0=.inr (false,0)):∃w,settleF 1 (foldF xs ps).1 (foldF xs ps).2=([],[w])/\run K a (n+2) q1t [.lst (ps.map encP),.dic (.k (pN 0 xs))]=.ok (.fr w):=by
 ~⟨t4,t5,h1,h2,h3⟩:=q4r (K:=K) (a:=a) n (.lst (ps.map encP)) xs hx ps true 0 ([],[]) .no .no false 0 h ⟨by simp,rfl,rfl⟩ (by simpa using hp);~⟨i1,i2,i3⟩:=h2;#i3:(foldF xs ps).2.length=need (foldF xs ps).1+1:=i3;~⟨w,hw⟩:=q8k (foldF xs ps).1 (foldF xs ps).2 i1 i2 i3;rF⟨w,hw,?_⟩;#h3:(foldF xs ps).1.length+(foldF xs ps).2.length<=200000:=h3;#sr:=q8j (K:=K) (a:=a) n 1 (foldF xs ps).1 (foldF xs ps).2 i1 oM (λz=>by omega) oM oM
 rw[set1,hw]at sr;rw[q3j];unfold q2t;&;rw[q9u];&;#h1:forP 4 5 (q0x K a (run K a (n+1))) (ps.map pr2) [.fr (.lst (ps.map encP)),.fr (.dic (.k (pN 0 xs))),.own none [],.own none [],.no,.no]=.nx [.fr (.lst (ps.map encP)),.fr (.dic (.k (pN 0 xs))),.own none (foldF xs ps).2.reverse,.own none ((foldF xs ps).1.reverse.map .str),t4,t5]:=h1;rw[h1];&;rw[sr];&;rfl
tm y6j(x y:Str):(x++y).cps.toList=x.cps.toList++y.cps.toList:=by
 conv=>lhs;rw[<- q1l x,<- q1l y,q37,q1k]
tm reps(c:Nat)(x:Str)(hx:x=⟨#[c]⟩)(m:Nat)(h:m<=1000):mulS (.str x) (.int (m:Int))=some (.str (tx (List.replicate m c))):=by
 rw[hx,z6c ⟨by omega,by omega⟩,w2b];rfl
inductive Tk(ns:List Str):Nat->Fm->List Str->Nat->Prop
 |yn {l:Nat} (b:Bool):Tk ns l (.is b) [if b=true then("yes":Str)else("no":Str)] 0
 |plc {l p:Nat} (h:p<ns.length):Tk ns l (.at p) [ns.getD p ""] 0
 |not {l d:Nat} {f:Fm} {ts:List Str} (h:l<=3) (t:Tk ns 3 f ts d):Tk ns l (.not f) (("not":Str)::ts) d
 |and {l d e:Nat} {f g:Fm} {ts us:List Str} (h:l<=2) (t:Tk ns 2 f ts d) (u:Tk ns 3 g us e):Tk ns l (.and f g) (ts++("and":Str)::us) (max d e)
 |odd {l d e:Nat} {f g:Fm} {ts us:List Str} (h:l<=1) (t:Tk ns 1 f ts d) (u:Tk ns 2 g us e):Tk ns l (.odd f g) (ts++("odd":Str)::us) (max d e)
 |or {l d e:Nat} {f g:Fm} {ts us:List Str} (h:l<=0) (t:Tk ns 0 f ts d) (u:Tk ns 1 g us e):Tk ns l (.or f g) (ts++("or":Str)::us) (max d e)
 |par {l d:Nat} {f:Fm} {ts:List Str} (t:Tk ns 0 f ts d):Tk ns l f (("(":Str)::(ts++[(")":Str)])) (d+1)
nD topOk(wt:List Str)(l:Nat):Prop:=∀t ts,wt=t::ts->tgt t<=l
tm q5w{wt:List Str}{l t:Nat}(h:topOk wt l)(hl:l<t)(fs:List W):settleF t wt fs=(wt,fs):=by
 cases wt with
 |nil=>rfl
 |cons w ws=>
  #:=h w ws rfl;unfold settleF;rw[if_neg oM]
tm x4j:∀{ns:List Str}{p:Nat},ns.Nodup->(h:p<ns.length)->idxS ns[p] ns=some p
 |x::ns,0,_,h=>by
  simp[idxS]
 |x::ns,p+1,hd,h=>by
  #hp:p<ns.length:=by simpa using h
  #ih:=x4j (w1v.mp hd).2 hp;#hne:x≠ns[p]:=λz=>(w1v.mp hd).1 (by rw[z];!w1l hp)
  rw[List.getElem_cons_succ];unfold idxS;rw[if_neg (by first|!hne|!λz=>hne z.symm),ih]
  rfl
tm x1n(hx:∀x∈ns,okN x=true)(h:p<ns.length):ns.getD p ""∈ns/\¬ns.getD p ""="(" /\ ¬ns.getD p ""="not" /\ ¬ns.getD p ""=")" /\ ¬ns.getD p ""∈jw/\¬ns.getD p ""="yes" /\ ¬ns.getD p ""="no":=by
 #e:ns.getD p ""=ns[p]:=by rw[w0o,w0a h];rfl
 rw[e];#hm:=w1l h;#ok:=q01 (hx _ hm);#h6:ns[p]∉(["yes", "no", "not", "and", "odd", "or"]:List Str):=of_decide_eq_false ok.1;rF⟨hm,λz=>?_,λz=>h6 (by simp[z]),λz=>?_,λz=>h6 ?_,λz=>h6 (by simp[z]),λz=>h6 (by simp[z])⟩
 ·#:=ok.2.2.2;rw[z]at this;!absurd (this 40 (by decide +kernel)) (by decide)
 ·#:=ok.2.2.2;rw[z]at this;!absurd (this 41 (by decide +kernel)) (by decide)
 ·unfold jw at z;simp only[w0d,w0h,or_false]at z |-
  rcases z with z|z|z<;>simp[z]
tm z6q(hx:∀x∈ns,okN x=true)(hd:ns.Nodup)(h:p<ns.length):plF ns (ns.getD p "")=enc (.at p):=by
 ~⟨_,_,_,_,_,h1,h2⟩:=x1n hx h;unfold plF;rw[if_neg h1,if_neg h2];#e:ns.getD p ""=ns[p]:=by rw[w0o,w0a h];rfl
 rw[e,x4j hd h];rfl
tm y3e(xs:List Str)(st:List Str×List W):stepF xs st "("=(("(":Str)::st.1,st.2):=by
 unfold stepF;rw[if_pos (.inl rfl)]
tm y6k(xs:List Str)(st:List Str×List W):stepF xs st "not"=(("not":Str)::st.1,st.2):=by
 unfold stepF;rw[if_pos (.inr rfl)]
tm y0a(xs:List Str)(st:List Str×List W):stepF xs st ")"=((settleF 1 st.1 st.2).1.tail,(settleF 1 st.1 st.2).2):=by
 unfold stepF;rw[if_neg (by decide +kernel),if_pos rfl]
tm y6l(xs:List Str)(st:List Str×List W):stepF xs st "and"=(("and":Str)::(settleF 3 st.1 st.2).1,(settleF 3 st.1 st.2).2):=by
 unfold stepF;rw[if_neg (by decide +kernel),if_neg (by decide +kernel),if_pos (by decide +kernel),show tgt "and"=3 by decide +kernel]
tm y6m(xs:List Str)(st:List Str×List W):stepF xs st "odd"=(("odd":Str)::(settleF 2 st.1 st.2).1,(settleF 2 st.1 st.2).2):=by
 unfold stepF;rw[if_neg (by decide +kernel),if_neg (by decide +kernel),if_pos (by decide +kernel),show tgt "odd"=2 by decide +kernel]
tm z1q(xs:List Str)(st:List Str×List W):stepF xs st "or"=(("or":Str)::(settleF 1 st.1 st.2).1,(settleF 1 st.1 st.2).2):=by
 unfold stepF;rw[if_neg (by decide +kernel),if_neg (by decide +kernel),if_pos (by decide +kernel),show tgt "or"=1 by decide +kernel]
tm y0b{t:Nat}(h:t<=4)(wt:List Str)(f:W)(fs:List W):settleF t (("not":Str)::wt) (f::fs)=settleF t wt (.tup [.str "not", f]::fs):=by
 rw[settleF,if_pos (by rw[show tgt "not"=4 by decide +kernel];!h),if_pos rfl]
tm q8l{t k:Nat}{w:Str}(hk:tgt w=k)(hn:w≠"not")(h:t<=k)(wt:List Str)(f g:W)(fs:List W):settleF t (w::wt) (g::f::fs)=settleF t wt (.tup [.str w,f,g]::fs):=by
 rw[settleF,if_pos oM,if_neg hn]
tm q8m{w:Str}{wt:List Str}{l k:Nat}(hk:tgt w=k)(h:k<=l):topOk (w::wt) l:=λt ts z=>by
 @z;omega
tm Tk.parse(hx:∀x∈ns,okN x=true)(hd:ns.Nodup){l:Nat}(h:Tk ns l f ts d):l<=3->∀(wt:List Str)(fs:List W),(l<=2->topOk wt l)->∀t,t<=l+1 ->
  settleF t (ts.foldl (stepF ns) (wt,fs)).1 (ts.foldl (stepF ns) (wt,fs)).2=settleF t wt (enc f::fs):=by
 induction h with
 |yn b=>
  intro hl wt fs _ t _
  #:stepF ns (wt,fs) (if b=true then("yes":Str)else("no":Str))=(wt,enc (.is b)::fs):=by
   @b
   ·unfold stepF;rw[if_neg (by decide +kernel),if_neg (by decide +kernel),if_neg (by decide +kernel)];rfl
   ·unfold stepF;rw[if_neg (by decide +kernel),if_neg (by decide +kernel),if_neg (by decide +kernel)];rfl
  rw[w1o,w5c,this]
 | @plc l p h=>
  intro hl wt fs _ t _;~⟨_,h1,h2,h3,h4,_,_⟩:=x1n hx h
  #:stepF ns (wt,fs) (ns.getD p "")=(wt,enc (.at p)::fs):=by
   unfold stepF;rw[if_neg (not_or.mpr ⟨h1,h2⟩),if_neg h3,if_neg h4,z6q hx hd h]
  rw[w1o,w5c,this]
 |not h t ih=>
  intro hl wt fs _ s hs;rw[w1o,y6k,ih (w0b _) _ _ (λz=>by omega) s oM,y0b oM]
  rfl
 |and h t u ih1 ih2=>
  intro hl wt fs hw s hs;rw[w3m,w1o,y6l];rw[ih1 oM wt fs (λ_=>λa b z=>w0v (hw oM a b z) h) 3 oM,q5w (hw oM) oM]
  rw[ih2 oM _ _ (λz=>by omega) s oM,q8l (by decide +kernel) (by decide +kernel) (show s<=3 by omega)]
  rfl
 |odd h t u ih1 ih2=>
  intro hl wt fs hw s hs;rw[w3m,w1o,y6m];rw[ih1 oM wt fs (λ_=>λa b z=>w0v (hw oM a b z) h) 2 oM,q5w (hw oM) oM]
  rw[ih2 oM _ _ (λz=>q8m (k:=2) (by decide +kernel) oM) s oM,q8l (by decide +kernel) (by decide +kernel) (show s<=2 by omega)]
  rfl
 |or h t u ih1 ih2=>
  intro hl wt fs hw s hs;rw[w3m,w1o,z1q];rw[ih1 oM wt fs (λ_=>λa b z=>w0v (hw oM a b z) h) 1 oM,q5w (hw oM) oM]
  rw[ih2 oM _ _ (λz=>q8m (k:=1) (by decide +kernel) oM) s oM,q8l (by decide +kernel) (by decide +kernel) (show s<=1 by omega)]
  rfl
 |par t ih=>
  intro hl wt fs hw s hs;rw[w1o,y3e,w3m,w1o,w5c,y0a];#tp:topOk (("(":Str)::wt) 0:=q8m (k:=0) (by decide +kernel) (w0b _);rw[ih oM _ _ (λ_=>tp) 1 oM,q5w tp oM]
  rfl
tm Tk.whole(hx:∀x∈ns,okN x=true)(hd:ns.Nodup)(h:Tk ns 0 f ts d):settleF 1 (ts.foldl (stepF ns) ([],[])).1 (ts.foldl (stepF ns) ([],[])).2=([],[enc f]):=
 h.parse hx hd oM [] [] (λ_ a b z=>by @z) 1 oM
tm Tk.fine(hx:∀x∈ns,okN x=true){l:Nat}(h:Tk ns l f ts d):∀(ps rest:List (Nat×List Nat))(br:Nat),ps.map (λp=>tx p.2)=ts->br+d<=12->flt0 ns (ps++rest) true br=flt0 ns rest false br:=by
 induction h with
 |yn b=>
  intro ps rest br e hb;~⟨⟨k,p⟩,rfl,e'⟩:=w3b.mp e
  ·#e:tx p=if b=true then("yes":Str)else("no":Str):=e';show flt0 ns ((k,p)::rest) true br=_;rw[flt0,if_neg (λz=>by rw[e]at z;@b<;>!absurd z.1 (by decide +kernel)),if_pos (.inr (by @b;!.inr e;!.inl e))]
 | @plc l p h=>
  intro ps rest br e hb;~⟨⟨k,q⟩,rfl,e'⟩:=w3b.mp e
  ·#e:tx q=ns.getD p "":=e';~⟨h0,h1,_⟩:=x1n hx h;show flt0 ns ((k,q)::rest) true br=_;rw[flt0,if_neg (λz=>h1 (by rw[<- e];!z.1)),if_pos (.inl (by rw[e];!h0))]
 |not h t ih=>
  intro ps rest br e hb;~⟨⟨k,q⟩,ps,rfl,e1,e2⟩:=w2i.mp e
  ·#e1:tx q="not":=e1;rw[w1b,flt0,if_neg (λz=>by rw[e1]at z;!absurd z.1 (by decide +kernel))]
   by_cases hm:tx q∈ns\/tx q="yes"\/tx q="no"
   ·exfalso;rw[e1]at hm;rcases hm with hm|hm|hm
    ·!absurd (q01 (hx _ hm)).1 (by decide +kernel)
    ·!absurd hm (by decide +kernel)
    ·!absurd hm (by decide +kernel)
   ·rw[if_neg hm,if_pos e1];!ih ps rest br e2 hb
 | @and l d e f g ts us h t u ih1 ih2=>
  intro ps rest br eq hb;~⟨p1,p2,rfl,e1,e2⟩:=w2s.mp eq;~⟨⟨k,q⟩,p2,rfl,eq1,e2⟩:=w2i.mp e2
  ·#eq1:tx q="and":=eq1;rw[w0k,ih1 p1 _ br e1 oM,w1b,flt0,if_neg (λz=>by rw[eq1]at z;!absurd z.1 (by decide +kernel)),if_pos (by rw[eq1];decide +kernel)]
   !ih2 p2 rest br e2 oM
 | @odd l d e f g ts us h t u ih1 ih2=>
  intro ps rest br eq hb;~⟨p1,p2,rfl,e1,e2⟩:=w2s.mp eq;~⟨⟨k,q⟩,p2,rfl,eq1,e2⟩:=w2i.mp e2
  ·#eq1:tx q="odd":=eq1;rw[w0k,ih1 p1 _ br e1 oM,w1b,flt0,if_neg (λz=>by rw[eq1]at z;!absurd z.1 (by decide +kernel)),if_pos (by rw[eq1];decide +kernel)]
   !ih2 p2 rest br e2 oM
 | @or l d e f g ts us h t u ih1 ih2=>
  intro ps rest br eq hb;~⟨p1,p2,rfl,e1,e2⟩:=w2s.mp eq;~⟨⟨k,q⟩,p2,rfl,eq1,e2⟩:=w2i.mp e2
  ·#eq1:tx q="or":=eq1;rw[w0k,ih1 p1 _ br e1 oM,w1b,flt0,if_neg (λz=>by rw[eq1]at z;!absurd z.1 (by decide +kernel)),if_pos (by rw[eq1];decide +kernel)]
   !ih2 p2 rest br e2 oM
 |par t ih=>
  intro ps rest br eq hb;~⟨⟨k,q⟩,ps,rfl,eq1,eq2⟩:=w2i.mp eq
  ·~⟨p1,p2,rfl,e1,e2⟩:=w2s.mp eq2;~⟨⟨j,r⟩,rfl,e2'⟩:=w3b.mp e2
   ·#e2:tx r=")":=e2';rw[w1b,flt0,if_pos ⟨eq1,by omega⟩,w0k,ih p1 _ (br+1) e1 oM];show flt0 ns ((j,r)::rest) false (br+1)=_;rw[flt0,if_pos ⟨e2,by omega⟩];rfl
nD lexF:Nat->Nat->List Nat->List (Nat×List Nat)
 |0,_,_=>[]
 |_+1,_,[]=>[]
 |f+1,k,c::cs=>(if c=32 then[]else[(k,(c::cs).take (stp (c::cs)))])++lexF f (k+stp (c::cs)) ((c::cs).drop (stp (c::cs)))
tm x8w:∀(f:Nat)(cs:List Nat)(k:Nat),pcs f cs k=lexF f k (cs.drop k)
 |0,_,_=>rfl
 |f+1,cs,k=>by
  unfold pcs
  by_cases h:k<cs.length
  ·rw[if_pos h,w1p h,lexF,x8w f,<- w1p h,w5d];#e:(cs[k]?=some 32)=(cs[k]=32):=by rw[w0a h];simp
   simp only[e]
  ·rw[if_neg h,w4q oM];@f<;>rfl
tm z1r(cs:List Nat):1<=stp cs:=Nat.le_max_left _ _
tm x4k:∀(f g k:Nat)(cs:List Nat),cs.length<=f->cs.length<=g->lexF f k cs=lexF g k cs
 |0,g,k,cs,hf,_=>by
  obtain rfl:cs=[]:=w3t oM;@g<;>rfl
 |f+1,0,k,cs,_,hg=>by
  obtain rfl:cs=[]:=w3t oM;rfl
 |f+1,g+1,k,[],_,_=>rfl
 |f+1,g+1,k,c::cs,hf,hg=>by
  #:=z1r (c::cs);rw[lexF,lexF,x4k f g _ _ (by rw[w1e];omega) (by rw[w1e];omega)]
nD lex(k:Nat)(cs:List Nat):List (Nat×List Nat):=lexF cs.length k cs
tm y0c(cs:List Nat):pieces cs=lex 0 cs:=by
 unfold pieces lex;rw[x8w,w5b]
tm z1s(k:Nat):lex k []=[]:=rfl
tm x8x(h:isL c=false):stp (c::cs)=1:=by
 unfold stp upto;rw[w3y,h];rfl
tm q7k(k:Nat)(r:List Nat):lex k (32::r)=lex (k+1) r:=by
 unfold lex;rw[w0t,lexF,if_pos rfl,w2e,x8x (by decide)];rfl
tm x62(k:Nat)(r:List Nat)(h:isL c=false)(hb:c≠32):lex k (c::r)=(k,[c])::lex (k+1) r:=by
 unfold lex;rw[w0t,lexF,if_neg hb,x8x h];rfl
nD Bd(r:List Nat):Prop:=∀c cs,r=c::cs->isL c=false
tm y3f(hl:∀c∈w,isL c=true)(hr:Bd r):upto (w++r)=w.length:=by
 unfold upto;rw[List.takeWhile_append_of_pos hl,w0q];cases r with
 |nil=>rfl
 |cons c cs=>rw[w3y,hr c cs rfl];rfl
tm x1o(k:Nat)(hw:w≠[])(hl:∀c∈w,isL c=true)(hr:Bd r):lex k (w++r)=(k,w)::lex (k+w.length) r:=by
 cases w with
 |nil=>!absurd rfl hw
 |cons c w=>
  #hs:stp (c::w++r)=(c::w).length:=by
   unfold stp;rw[y3f hl hr];simp
  #hc:c≠32:=λz=>by
   #:=hl c (by simp);rw[z]at this;!absurd this (by decide)
  show lexF (c::w++r).length k (c::(w++r))=_;rw[w1b,w0t,lexF,if_neg hc];rw[<- w1b,hs,List.take_left' rfl,List.drop_left' rfl];rw[w3r];unfold lex;rw[x4k _ _ _ _ (by rw[w0q];omega) (w0b _)]
nD LexTo(cs:List Nat)(ts:List Str):Prop:=∀(k:Nat)(r:List Nat),Bd r->∃ps,ps.map (λp=>tx p.2)=ts/\lex k (cs++r)=ps++lex (k+cs.length) r
tm LexTo.word(hw:w≠[])(hl:∀c∈w,isL c=true):LexTo w [tx w]:=λk r hr=>⟨[(k,w)],rfl,x1o k hw hl hr⟩
tm x0l(h:isL c=false):Bd (c::r):=λd ds z=>by @z;!h
tm LexTo.mid{x y:List Nat}{us:List Str}(hx:LexTo x ts)(hy:LexTo y us)(hw:w≠[])(hl:∀c∈w,isL c=true):LexTo (x++(32::(w++(32::y)))) (ts++tx w::us):=λk r hr=>by
 ~⟨p1,a1,a2⟩:=hx k (32::(w++(32::(y++r)))) (x0l (by decide));~⟨p2,b1,b2⟩:=hy (k+x.length+1+w.length+1) r hr;rF⟨p1++(k+x.length+1,w)::p2,by rw[w0n,w0g,a1,b1],?_⟩;#e:x++(32::(w++(32::y)))++r=x++(32::(w++(32::(y++r)))):=by simp
 rw[e,a2,q7k,x1o _ hw hl (x0l (by decide)),q7k,b2];simp only[w0k,w1b,w0q,w0t];congr 4;omega
tm LexTo.not{x:List Nat}{w:List Nat}(hx:LexTo x ts)(hw:w≠[])(hl:∀c∈w,isL c=true):LexTo (w++(32::x)) (tx w::ts):=λk r hr=>by
 ~⟨p1,a1,a2⟩:=hx (k+w.length+1) r hr;rF⟨(k,w)::p1,by rw[w0g,a1],?_⟩;#e:w++(32::x)++r=w++(32::(x++r)):=by simp
 rw[e,x1o _ hw hl (x0l (by decide)),q7k,a2];simp only[w1b,w0q,w0t];congr 3;omega
tm LexTo.par{x:List Nat}(hx:LexTo x ts):LexTo (40::(x++[41])) (tx [40]::(ts++[tx [41]])):=λk r hr=>by
 ~⟨p1,a1,a2⟩:=hx (k+1) (41::r) (x0l (by decide));rF⟨(k,[40])::(p1++[(k+1+x.length,[41])]),by rw[w0g,w0n,a1];rfl,?_⟩;#e:40::(x++[41])++r=40::(x++(41::r)):=by simp
 rw[e,x62 _ _ (by decide) (by decide),a2,x62 _ _ (by decide) (by decide)];simp only[w1b,w0k,w2e,w0q,w0t,w4x];congr 4;omega
nD chs(x:Str):List Nat:=x.cps.toList
tm q23(x y:Str):chs (x++y)=chs x++chs y:=y6j x y
tm z1t(w x y:Str):chs (mid w x y)=chs x++(32::(chs w++(32::chs y))):=by
 unfold mid;rw[q23,q23,q23,q23,show chs (" ":Str)=[32] by decide +kernel];rfl
tm z1u(x:Str):chs (par true x)=40::(chs x++[41]):=by
 unfold par;rw[if_pos rfl,q23,q23,show chs ("(":Str)=[40] by decide +kernel,show chs (")":Str)=[41] by decide +kernel];rfl
nD brk(ns:List Str)(l:Nat)(f:Fm):Str:=par (decide (lvl f<l)) (txt ns f)
tm x4l(x y z:Str):x++y++z=x++(y++z):=by
 @x;@y;@z;!congrArg Str.mk w5g
tm z6r:Bd []:=λc cs z=>by @z
tm y6n(xs:List Str)(ps:List (Nat×List Nat)):foldF xs ps=(ps.map λp=>tx p.2).foldl (stepF xs) ([],[]):=by
 unfold foldF;rw[List.foldl_map]
tm q4s:∀(f:Fm),eqW (enc f) (enc f)=some true
 |.is b=>by simp[enc,eqW,eqWs]
 |.at p=>by simp[enc,eqW,eqWs]
 |.not f=>by simp[enc,eqW,eqWs,q4s f]
 |.and f g=>by simp[enc,eqW,eqWs,q4s f,q4s g]
 |.or f g=>by simp[enc,eqW,eqWs,q4s f,q4s g]
 |.odd f g=>by simp[enc,eqW,eqWs,q4s f,q4s g]
tm q3n:∀(f:Fm),depW (enc f)<=f.depth
 |.is b=>by simp[enc,depW,depWs,Fm.depth]
 |.at p=>by simp[enc,depW,depWs,Fm.depth]
 |.not f=>by #:=q3n f;simp[enc,depW,depWs,Fm.depth];omega
 |.and f g=>by #:=q3n f;#:=q3n g;simp[enc,depW,depWs,Fm.depth];omega
 |.or f g=>by #:=q3n f;#:=q3n g;simp[enc,depW,depWs,Fm.depth];omega
 |.odd f g=>by #:=q3n f;#:=q3n g;simp[enc,depW,depWs,Fm.depth];omega
nD atB(s sub:Str)(i:Nat):Bool:=decide (i+sub.length<=s.length)&&Builtin.Str.subAt s sub i
tm atB_iff{s sub:Str}:atB s sub i=true↔StrLaws.At s sub s.length i:=by simp[atB,StrLaws.At]
tm x3k{s sub:Str}{limit:Nat}:∀(l:List Nat)(st:Array Nat×Nat),l.Pairwise (·<·)->(∀i∈l,atB s sub i=true->st.2<=i)->(∀i∈l,∀j∈l,i<j->atB s sub i=true->atB s sub j=true->i+sub.length<=j)->st.1.size+l.length<=limit ->
  (forIn l st (StrLaws.occBody s sub s.length limit)).run.fst.toList=st.1.toList++l.filter (atB s sub)
 |[],st,_,_,_,_=>by simp
 |i::l,st,hp,hf,ho,hs=>by
  ~⟨p1,p2⟩:=List.pairwise_cons.mp hp;rw[w2j];unfold StrLaws.occBody;#ho':∀x∈l,∀y∈l,x<y->atB s sub x=true->atB s sub y=true->x+sub.length<=y:=λx hx y hy=>ho x (w0e _ hx) y (w0e _ hy)
  split
  ·rename_i hc;#hi:atB s sub i=true:=atB_iff.mpr ⟨hc.1.2,hc.2⟩;rF(x3k l (st.1.push i,i+sub.length) p2 (λj hj hb=>ho i w0i j (w0e _ hj) (p1 j hj) hi hb) ho' (by simp at hs |-;omega)).trans ?_
   rw[w3c,if_pos hi];simp
  ·rename_i hc
   #hi:¬atB s sub i=true:=λh=>by
    #h1:=hf i w0i h;~⟨h2,h3⟩:=atB_iff.mp h;!hc ⟨⟨⟨by simp at hs;omega,h1⟩,h2⟩,h3⟩
   rF(x3k l st p2 (λj hj hb=>hf j (w0e _ hj) hb) ho' (by simp at hs |-;omega)).trans ?_
   rw[w3c,if_neg hi]
tm y0d{x:Str}(ho:∀i j,i<j->atB x y i=true->atB x y j=true->i+y.length<=j):Builtin.Str.occurrences x y 0 x.length (x.length+1)=(List.range' 0 (x.length+1)).filter (atB x y):=by
 rw[StrLaws.occ_eq,x3k _ _ (List.pairwise_lt_range' ..) (λ_ _ _=>w1g _) (λi _ j _=>ho i j) (by simp)]
 simp
tm z6s(cs:List Nat)(c i:Nat):atB (tx cs) ⟨#[c]⟩ i=decide (cs[i]?=some c):=by
 rw[w2u,atB_iff,decide_eq_true_iff];#:=StrLaws.subAt_one (tx cs) c i;rw[q1k]at this;!this
nD cutC(c:Nat):List Nat->List (List Nat)
 |[]=>[[]]
 |d::r=>if d=c then[]::cutC c r else match cutC c r with
  |p::ps=>(d::p)::ps
  |[]=>[[d]]
tm q7l(c d:Nat)(r:List Nat):cutC c (d::r)=if d=c then[]::cutC c r else match cutC c r with|p::ps=>(d::p)::ps|[]=>[[d]]:=rfl
tm x3l(c:Nat):∀cs,∃p ps,cutC c cs=p::ps
 |[]=>⟨[],[],rfl⟩
 |d::r=>by
  ~⟨p,ps,e⟩:=x3l c r;unfold cutC;rw[e];split
  ·!⟨_,_,rfl⟩
  ·!⟨_,_,rfl⟩
tm x2y(cs:List Nat)(i j:Nat):Builtin.Str.strSub (tx cs) i j=tx ((cs.drop i).take (j-i)):=by
 #:=StrLaws.strSub_toList (tx cs) i j;rw[<- q1l (Builtin.Str.strSub (tx cs) i j),this,q1k]
tm q9w(c:Nat)(cs:List Nat):∀(m i b:Nat),cs.length-i=m->b<=i->i<=cs.length->∃p ps,cutC c (cs.drop i)=p::ps /\
  StrLaws.partsFrom (tx cs) 1 b ((List.range' i (m+1)).filter λi=>decide (cs[i]?=some c))=tx ((cs.drop b).take (i-b)++p)::ps.map tx
 |0,i,b,hm,hb,hi=>by
  #ei:i=cs.length:=by omega
  subst ei;rF⟨[],[],by rw[w3s];rfl,?_⟩;simp[StrLaws.partsFrom,x2y,q0u]
 |m+1,i,b,hm,hb,hi=>by
  #hlt:i<cs.length:=by omega
  rw[w1p hlt,List.range'_succ,w3c,w0a hlt];unfold cutC
  by_cases hc:cs[i]=c
  ·~⟨p,ps,e1,e2⟩:=q9w c cs m (i+1) (i+1) oM (w0b _) hlt;rw[if_pos hc,if_pos (by simp[hc]),e1];rF⟨[],p::ps,rfl,?_⟩;show Builtin.Str.strSub (tx cs) b i::StrLaws.partsFrom (tx cs) 1 (i+1) _=_;rw[e2,x2y];simp
  ·~⟨p,ps,e1,e2⟩:=q9w c cs m (i+1) b oM oM hlt;rw[if_neg hc,if_neg (by simp[hc]),e1];rF⟨cs[i]::p,ps,rfl,?_⟩;rw[e2]
   #:(cs.drop b).take (i+1-b)=(cs.drop b).take (i-b)++[cs[i]]:=by
    rw[show i+1-b=(i-b)+1 by omega,w2x,List.getElem?_drop,show b+(i-b)=i by omega,w0a hlt];rfl
   rw[this];simp
tm x08(c:Nat)(cs:List Nat):Builtin.Str.partsBetween (tx cs) (Builtin.Str.occurrences (tx cs) ⟨#[c]⟩ 0 (tx cs).length ((tx cs).length+1)) 1=(cutC c cs).map tx:=by
 rw[y0d (x:=tx cs) (y:=⟨#[c]⟩) (λi j h _ _=>h),StrLaws.partsBetween_eq,q0u]
 ~⟨p,ps,e1,e2⟩:=q9w c cs cs.length 0 0 rfl (w0b _) (w1g _);rw[w5b]at e1;rw[show(atB (tx cs) ⟨#[c]⟩)=λi=>decide (cs[i]?=some c)from funext (z6s cs c),e2,e1]
 simp
tm z1v(h:(Builtin.Str.occurrences (tx cs) ⟨#[c]⟩ 0 (tx cs).length ((tx cs).length+1)).isEmpty=true):[tx cs]=(cutC c cs).map tx:=by
 rw[<- x08,List.isEmpty_iff.mp h,StrLaws.partsBetween_eq];!congrArg (·::[]) (StrLaws.sub_whole _).symm
tm y6o(hc:c<256)(x:Str):Builtin.Str.strKind ⟨#[c]⟩<=Builtin.Str.strKind x:=by
 #h1:Builtin.Str.strKind ⟨#[c]⟩=1:=by simp[Builtin.Str.strKind,hc]
 rw[h1];unfold Builtin.Str.strKind;split
 ·omega
 ·split<;>omega
tm x4m(hc:c<256)(cs:List Nat):Txt.split (tx cs) ⟨#[c]⟩=(cutC c cs).map tx:=by
 unfold Txt.split;split
 ·rename_i h;rw[w4r]at h;rcases h with h|h
  ·#h0:cs=[]:=by
    #:(tx cs).length<1:=of_decide_eq_true h;rw[q0u]at this;!w4l.mp oM
   subst h0;rfl
  ·!absurd (of_decide_eq_true h) (w4j.mpr (y6o hc _))
 ·split
  ·rename_i h;!z1v h
  ·!x08 c cs
nD joinC(z:List Nat):List (List Nat)->List Nat
 |[]=>[]
 |[p]=>p
 |p::q::r=>p++(z++joinC z (q::r))
tm x63(z:List Nat):∀l:List (List Nat),Str.join (tx z) (l.map tx)=tx (joinC z l)
 |[]=>rfl
 |[p]=>rfl
 |p::q::r=>by
  show tx p++tx z++Str.join (tx z) ((q::r).map tx)=_;rw[x63 z (q::r),q37,q37,w0k];rfl
tm x4n:∀{l:List Nat},c∉l->cutC c l=[l]
 |[],_=>rfl
 |d::r,h=>by
  unfold cutC;rw[if_neg (λz=>h (by rw[z];!w0i)),x4n (λz=>h (w0e _ z))]
tm q8n:∀{l:List Nat}(r:List Nat),c∉l->cutC c (l++c::r)=l::cutC c r
 |[],r,_=>by rw[w2e,q7l,if_pos rfl]
 |d::l,r,h=>by
  rw[w1b,q7l,if_neg (λz=>h (by rw[z];!w0i)),q8n r (λz=>h (w0e _ z))]
tm at_tx{y:List Nat}:atB (tx cs) (tx y) i=true↔∃l r,cs=l++(y++r)/\l.length=i:=by
 rw[atB_iff];unfold StrLaws.At;rw[StrLaws.subAt_eq,q0u,q0u,q1k,q1k,beq_iff_eq];constructor
 ·rintro⟨h1,h2⟩;rF⟨cs.take i,cs.drop (i+y.length),?_,by simp;omega⟩;#:cs=cs.take i++((cs.drop i).take y.length++(cs.drop i).drop y.length):=by rw[w1x,w1x]
  rw[h2,w5d]at this;!this
 ·rintro⟨l,r,rfl,rfl⟩;!⟨by simp,by simp⟩
tm y6p{l y:List Nat}(hy:y≠[])(hu:∀l' r',l++(y++r)=l'++(y++r')->l'.length=l.length)(n:Nat):Builtin.Str.occurrences (tx (l++(y++r))) (tx y) 0 (tx (l++(y++r))).length (n+1)=[l.length]:=by
 #hat:∀i,StrLaws.At (tx (l++(y++r))) (tx y) (tx (l++(y++r))).length i->i=l.length:=λi h=>by
  ~⟨l',r',e,hi⟩:=at_tx.mp (atB_iff.mpr h);rw[<- hi];!hu l' r' e
 rcases StrLaws.occ_head (tx (l++(y++r))) (tx y) (n+1) oM with⟨_,h2⟩|⟨i,q,h1,h2,_⟩
 ·!absurd (atB_iff.mp (at_tx.mpr ⟨l,r,rfl,rfl⟩)) (h2 _)
 ·#:=hat i h2;subst this;~⟨f,hc⟩:=StrLaws.occ_chain (tx (l++(y++r))) (tx y) (n+1);rw[h1]at hc |-
  cases q with
  |nil=>rfl
  |cons j q=>
   ~⟨_,_,h3,h4,_⟩:=hc;#:=hat j h4;rw[this,q0u]at h3;cases y with
   |nil=>!absurd rfl hy
   |cons _ _=>simp at h3;omega
tm y6q(hl:c∉l)(hr:c∉r)(l' r':List Nat)(e:l++c::r=l'++c::r'):l'.length=l.length:=by
 #h:(l++c::r)[l'.length]?=some c:=by rw[e];simp
 rcases Nat.lt_trichotomy l'.length l.length with hlt|heq|hgt
 ·rw[w1u hlt]at h;!absurd (w1m h) hl
 ·!heq
 ·rw[w1d oM,show l'.length-l.length=(l'.length-l.length-1)+1 by omega,w1r]at h;!absurd (w1m h) hr
tm x64(hl:c∉l)(hr:c∉r):partT (tx (l++c::r)) (tx [c])=[tx l,tx [c],tx r]:=by
 #:=y6p (l:=l) (y:=[c]) (r:=r) (by simp) (λl' r' e=>y6q hl hr l' r' e) 0
 rw[w3r]at this;unfold partT;rw[this];show[Builtin.Str.strSub _ 0 l.length,_,Builtin.Str.strSub _ (l.length+(tx [c]).length) _]=_;rw[x2y,x2y,q0u,q0u];simp;congr 1;!w2f oM
tm y3g(hl:c∉l):partT (tx l) (tx [c])=[tx l, "", ""]:=by
 unfold partT;rcases StrLaws.occ_head (tx l) (tx [c]) 1 (w0b _)with⟨h,_⟩|⟨i,q,_,h2,_⟩
 ·rw[h];rfl
 ·~⟨l',r',e,_⟩:=at_tx.mp (atB_iff.mpr h2);!absurd (by rw[e];simp) hl
tm y3h:∀l:List (List Nat),strsW (l.map λw=>.str (tx w))=some (l.map tx)
 |[]=>rfl
 |w::l=>by
  #:=y3h l;rw[w0g,w0g];show(strsW (l.map λw=>W.str (tx w))).map (tx w::·)=_
  rw[this];rfl
tm x65{z:List Nat}{l:List (List Nat)}(h:(l.map List.length).sum+l.length*(z.length+1)<=1000000):joinW (.str (tx z)) [.lst (l.map λw=>.str (tx w))]=some (.str (tx (joinC z l))):=by
 show(match strsW (l.map λw=>W.str (tx w))with
   |some ys=>if joinOk (tx z) ys=true then some (W.str (Txt.join (tx z) ys))else none
   |none=>none)=_
 rw[y3h];show(if joinOk (tx z) (l.map tx)=true then some (W.str (Txt.join (tx z) (l.map tx)))else none)=_;rw[show Txt.join (tx z) (l.map tx)=tx (joinC z l)from(StrLaws.glued_eq_join _ _).trans (x63 z l),if_pos];unfold joinOk;rw[w0y,show(λx:Str=>x.length) ∘ tx=List.length from funext q0u,w0j,q0u]
 rF w4t (w0v (Nat.add_le_add_left (Nat.mul_le_mul_left _ (w5q _)) _) (w0v h (by decide)))
nD neB(w:List Nat):Bool:=decide (w≠[])
nD wds(cs:List Nat):List (List Nat):=(cutC 32 cs).filter neB
nD InR(cs:List Nat)(ws:List (List Nat)):Prop:=61∉cs/\10∉cs/\wds cs=ws
tm y3i(n:Nat)(xs:List Str)(hx:∀x∈xs,okN x=true)(hn:xs.Nodup)(hd:xs.length<1000):run K a (n+3) q0y [.tup (xs.map .str)]=.ok (.dic (.k (pN 0 xs))):=
 (x8r n xs (λx h=>q4p (hx x h)) hd).1 ((q4o [] xs w3a).mpr ⟨hx,hn⟩)
tm x8y(n:Nat)(cs:List Nat)(hcs:cs.length<=100000)(xs:List Str)(hx:∀x∈xs,okN x=true)(hd:xs.Nodup)(hl:xs.length<1000)(h:Tk xs 0 f ts d)(ht:(pieces cs).map (λp=>tx p.2)=ts)(hd2:d<=12):
  run K a (n+4) q7y [.str (tx cs),.tup (xs.map .str)]=.ok (.fr .non)/\run K a (n+4) q9g [.str (tx cs),.tup (xs.map .str)]=.ok (.fr (enc f)):=by
 #hp:=x8t cs.length cs 0;#hf:=h.fine hx (pieces cs) [] 0 ht oM;rw[w1a]at hf;#hf0:flt0 xs (pieces cs) true 0=.inr (false,0):=hf;#hn:flt xs cs.length (pieces cs)=none:=by unfold flt;rw[hf0];rfl
 ~⟨w,h1,h2⟩:=z1p (K:=K) (a:=a) (n+1) (pieces cs) xs hx (by show(pcs cs.length cs 0).length<=_;omega) hf0;rw[y6n,ht,h.whole hx hd]at h1;@h1;rF⟨?_,?_⟩
 ·rw[q9q];unfold x0h;&;rw[y3i n xs hx hd hl];&;rw[x2x n cs hcs];&;rw[lenB hcs];&;rw[y3b (n+1) (pieces cs) cs.length xs hx,hn];unfold encO;&
 ·rw[x1k];unfold x2m;&;rw[y3i n xs hx hd hl];&;rw[x2x n cs hcs];&;rw[lenB hcs];&;rw[y3b (n+1) (pieces cs) cs.length xs hx,hn];unfold encO;&;rw[h2];&
tm q5n{cc:Den Bool}{d:Den W}{pe:List S}(en g:α->W)(t:α->Bool):∀l:List α,(∀x∈l,∃e',cc (.fr (en x)::pe)=.ok (t x) e'/\(t x=true->∃e2,d e'=.ok (g x) e2))->compD cc d pe (l.map en)=some ((l.filter t).map g)
 |[],_=>rfl
 |x::l,h=>by
  ~⟨e',h1,h2⟩:=h x w0i;rw[w0g,q88,h1,w3c,q5n en g t l λy hy=>h y (w0e _ hy)]
  cases q:t x with
  |false=>rfl
  |true=>
   ~⟨e2,h3⟩:=h2 q;simp only[h3];rfl
tm q8o(c:Nat):∀cs:List Nat,(cutC c cs).length<=cs.length+1
 |[]=>by simp[cutC]
 |d::r=>by
  #:=q8o c r;~⟨p,ps,e⟩:=x3l c r;rw[q7l];split
  ·simp;omega
  ·rw[e]at this |-;simp at this |-;omega
nD wT(w:List Nat):W:=.str (tx w)
tm sp_w(hc:c<256)(h:cs.length<=100000):splitW (.str (tx cs)) [.str ⟨#[c]⟩]=some (.lst ((cutC c cs).map wT)):=by
 #:=q8o c cs;show(if okSplit (tx cs) ⟨#[c]⟩=true then some (W.lst ((Txt.split (tx cs) ⟨#[c]⟩).map .str))else none)=_;rw[x4m hc,if_pos,w0y]
 ·rfl
 ·unfold okSplit;rw[x4m hc,q0u,w0j];simp only[w0l,decide_eq_true_eq];!⟨⟨rfl,by omega⟩,by omega⟩
tm z6t(w:List Nat):ne2 (wT w) (.str "")=some (.bl (neB w)):=by
 show ne2 (.str (tx w)) (.str "")=_;rw[y7i];#:(tx w=("":Str))↔w=[]:=⟨λh=>y24 (y:=[]) h,λh=>by rw[h];rfl⟩
 simp[neB,this]
tm q9x(n:Nat)(cs:List Nat)(h:cs.length<=100000):run K a (n+1) q3s [.str (tx cs)]=.ok (.own none ((wds cs).map wT)):=by
 rw[q66];unfold q6e;&;rw[show(" ":Str)=⟨#[32]⟩from rfl,sp_w oM h];#hl:=q8o 32 cs;&;rw[if_pos (by rw[w0j];omega),q5n wT wT neB]
 ·&;rfl
 ·intro w _;unfold q9o q9n;&;rw[z6t];&;!⟨_,rfl,λ_=>⟨_,rfl⟩⟩
structure Pt where
 row:Nat
 word:Str
 names:List Str
 first:W
 form:Str
 fm:Fm
nD pk:List Kx:=[.str "row", .str "word", .str "names", .str "first", .str "form"]
nD pw(p:Pt):List W:=[.int p.row,.str p.word,.tup (p.names.map .str),p.first,.str p.form]
nD encPt(p:Pt):W:=.dw false .str pk (pw p)
tm q6o(p:Pt):ixS (encPt p) (.str "word")=some (.str p.word):=by simp[ixS,encPt,pk,pw,lkW,q4x]
tm x1p(p:Pt):ixS (encPt p) (.str "names")=some (.tup (p.names.map .str)):=by simp[ixS,encPt,pk,pw,lkW,q4x]
tm y6r(p:Pt):ixS (encPt p) (.str "first")=some p.first:=by simp[ixS,encPt,pk,pw,lkW,q4x]
tm x8z(p:Pt):ixS (encPt p) (.str "form")=some (.str p.form):=by simp[ixS,encPt,pk,pw,lkW,q4x]
tm z6u(h:l.length<=100000):partW (.str (tx l)) [.str "="]=some (.tup ((partT (tx l) (tx [61])).map .str)):=by
 rF if_pos ?_;unfold okPart;rw[q0u];simp only[w0l,decide_eq_true_eq];!⟨rfl,by omega⟩
nD pt0(k:Nat)(f:Str):List W:=[.int k,.str "", .tup [],.non,.str f]
tm x1q(n k:Nat){s1 s2:Str}(hc:cs.length<=100000)(hl:l.length<=100000)(h:partT (tx cs) (tx [61])=[tx l,s1,s2]):run K a (n+2) q0z [.str (tx cs),.int k]=(ptT K a (run K a (n+1)) [.fr (.str (tx cs)),.fr (.int k),.fr (.tup [.str (tx l),.str s1,.str s2]),.fr (.lst ((wds l).map wT)),.dw .str pk (pt0 k s2)]).fn:=by
 rw[q5a];unfold q39;&;rw[z6u hc,h];&;rw[q9x n l hl];&;rfl
tm x0m(x y:Str):eq2 (.lst [.str x]) (.lst [.str y])=some (.bl (decide (x=y))):=by
 #h:(eqW (.lst [.str x]) (.lst [.str y]))=some (x==y):=by
  cases q:(x==y)<;>simp[eqW,eqWs,q]
 #d:depW (.lst [.str x])<=150:=by simp[depW,depWs]
 unfold eq2;rw[if_pos d,h];show some (W.bl (x==y))=_;congr 2
tm x0n(w:W)(l:List W):cutW (w::l) none (some 1)=[w]:=x2w (k:=1) (l:=w::l) (by simp)
tm z9c(w:W)(l:List W):cutW (w::l) (some 1) none=l:=q7c (k:=1) (l:=w::l) (by simp)
tm y3j{g:Fm}{k:Nat}{f:Str}{w0 w1 w2 w3:W}:updC 4 ["word", "names"] [.str x,.tup (xs.map .str)] [.fr w0,.fr w1,.fr w2,.fr w3,.dw .str pk (pt0 k f)] (some (.dw .str pk (pt0 k f)))=.nx [.fr w0,.fr w1,.fr w2,.fr w3,.dw .str pk (pw ⟨k,x,xs,.non,f,g⟩)]:=by
 rw[y2u ⟨rfl,by simp[pk],by simp[pk,q4x],rfl⟩];simp[updW,setW,pk,pt0,pw,q4x]
tm y6s{g:Fm}{k:Nat}{f:Str}{w0 w1 w2 w3:W}:updC 4 ["word", "names", "first"] [.str x,.tup (xs.map .str),.str y] [.fr w0,.fr w1,.fr w2,.fr w3,.dw .str pk (pt0 k f)] (some (.dw .str pk (pt0 k f)))=.nx [.fr w0,.fr w1,.fr w2,.fr w3,.dw .str pk (pw ⟨k,x,xs,.str y,f,g⟩)]:=by
 rw[y2u ⟨rfl,by simp[pk],by simp[pk,q4x],rfl⟩];simp[updW,setW,pk,pt0,pw,q4x]
tm z6v(l:List (List Nat)):l.map wT=(l.map tx).map .str:=by rw[w0y];rfl
tm z6w(n k:Nat){ns:List (List Nat)}(hc:cs.length<=100000)(h:InR cs ([105,110]::ns)):run K a (n+2) q0z [.str (tx cs),.int k]=.ok (.dw .str pk (pw ⟨k, "in", ns.map tx,.non, "", g⟩)):=by
 ~⟨h1,h2,h3⟩:=h;rw[x1q n k hc hc (y3g h1),h3];unfold ptT;&;rw[x0n,show wT [105,110]=.str "in" from rfl,x0m];&;rw[z9c,z6v,y3j (g:=g)];&
nD heldC:List Nat:=[104,101,108,100]
nD outC:List Nat:=[111,117,116]
nD ynC(b:Bool):List Nat:=if b=true then[121,101,115]else[110,111]
tm y6t(n k:Nat){nm:List Nat}(hc:(l++61::r).length<=100000)(h1:61∉l)(h2:61∉r)(h:wds l=[heldC,nm,ynC b]):run K a (n+2) q0z [.str (tx (l++61::r)),.int k]=.ok (.dw .str pk (pw ⟨k, "held", [tx nm],wT (ynC b),tx r,g⟩)):=by
 rw[x1q n k hc (by simp at hc;omega) (show partT (tx (l++61::r)) (tx [61])=[tx l, "=", tx r]from x64 h1 h2),h];unfold ptT;&;rw[x0n,show wT heldC=.str "held" from rfl,x0m];&;rw[x0n,x0m];&;rw[show inW (wT (ynC b)) (.tup [.str "yes", .str "no"])=some (.bl true) by @b<;>rfl];&;rw[show([wT nm]:List W)=[tx nm].map .str from rfl,show wT (ynC b)=.str (tx (ynC b))from rfl,y6s (g:=g)];&;!(if_pos rfl).trans rfl
tm z1w(n k:Nat){nm:List Nat}(hc:(l++61::r).length<=100000)(h1:61∉l)(h2:61∉r)(h:wds l=[outC,nm]):run K a (n+2) q0z [.str (tx (l++61::r)),.int k]=.ok (.dw .str pk (pw ⟨k, "out", [tx nm],.non,tx r,g⟩)):=by
 rw[x1q n k hc (by simp at hc;omega) (show partT (tx (l++61::r)) (tx [61])=[tx l, "=", tx r]from x64 h1 h2),h];unfold ptT;&;rw[x0n,show wT outC=.str "out" from rfl,x0m];&;rw[x0n,x0m];&;rw[x0n,x0m];&;rw[show([wT nm]:List W)=[tx nm].map .str from rfl,y3j (g:=g)];&;!if_pos rfl
nD namesOf(ps:List Pt)(x:Str):List Str:=(ps.filter λp=>decide (p.word=x)).flatMap Pt.names
tm q3o(p:Pt)(ps:List Pt)(x:Str):namesOf (p::ps) x=(if p.word=x then p.names else[])++namesOf ps x:=by
 unfold namesOf;rw[w3c]
 by_cases h:p.word=x<;>simp[h]
tm x2z(r:Nat->List W->FR)(w0:W)(x:Str):∀(ps:List Pt)(acc:List Str)(z:S),(acc++namesOf ps x).length<=1000->∃z',forD 3 (q3h K a r) (ps.map encPt) [.fr w0,.fr (.str x),.fr (.tup (acc.map .str)),z]=.nx [.fr w0,.fr (.str x),.fr (.tup ((acc++namesOf ps x).map .str)),z']
 |[],acc,z,_=>⟨z,by simp[namesOf];rfl⟩
 |p::ps,acc,z,h=>by
  rw[q3o,<- w0k]at h |-
  ~⟨z',ih⟩:=x2z r w0 x ps (acc++if p.word=x then p.names else[]) (.fr (encPt p)) h;rF⟨z',?_⟩;rw[<- ih,w0g];show(q3h K a r [.fr w0,.fr (.str x),.fr (.tup (acc.map .str)),.fr (encPt p)]).turnT (forD 3 (q3h K a r) (ps.map encPt))=_;unfold q3h;&;rw[q6o];&
  by_cases e:p.word=x
  ·simp only[e,if_true]at h |-
   rw[x1p];&;rw[if_pos (by simp at h |-;omega),<- w0n];&
  ·simp only[e,if_false,w1a];&
tm q5z(n:Nat)(ps:List Pt)(x:Str)(h:(namesOf ps x).length<=1000):run K a (n+1) q1q [.lst (ps.map encPt),.str x]=.ok (.fr (.tup ((namesOf ps x).map .str))):=by
 rw[q67];unfold q6f;&;~⟨z',e⟩:=x2z (K:=K) (a:=a) (run K a n) (.lst (ps.map encPt)) x ps [] .no (by simpa using h);rw[w1w,w2e]at e;rw[e];&
nD rowW:List Str:=["in", "held", "out"]
nD behind(x:Str):List Str:=if x="in" then[""]else if x="held" then["in", "held"]else["in", "held", "out"]
nD mostN(x:Str):Nat:=if x="in" then 3 else if x="held" then 4 else 6
tm y7p(ys:List Str):ninW (.str x) (.tup (ys.map .str))=some (.bl (!decide (x∈ys))):=by
 rF(if_pos ⟨rfl,q7j ys⟩).trans ?_;rw[q8g]
tm z9d(h:x∈rowW):tabCW q9f (.str x)=some (.tup ((behind x).map .str))/\tabW q52 (.str x)=some (.int (mostN x)):=by
 simp only[rowW,w0d,w0h,or_false]at h;rcases h with rfl|rfl|rfl
 ·!⟨rfl,rfl⟩
 ·!⟨rfl,rfl⟩
 ·!⟨rfl,rfl⟩
nD lastW(ps:List Pt):Str:=match ps.getLast? with
 |some p=>p.word
 |none=>""
nD taken(ps:List Pt):List Str:=namesOf ps "in"++(namesOf ps "held"++namesOf ps "out")
structure Stand(ps:List Pt)(p:Pt):Prop where
 word:p.word∈rowW
 last:lastW ps∈behind p.word
 most:(namesOf ps p.word++p.names).length<=mostN p.word
 ok:∀x∈p.names,okN x=true/\x∉rowW
 nd:(taken ps++p.names).Nodup
 len:(taken ps).length<=900
tm y0e(n:Nat)(w0 w1 w2 w3:W)(x:Str)(tk:List Str)(z5:S)(h1:okN x=true)(h2:x∉rowW)(hi:x∉tk)(hl:tk.length<=1000):q10 K a (run K a (n+2)) [.fr w0,.fr w1,.fr w2,.fr w3,.own none (tk.map .str),z5,.fr (.str x)]=.nx [.fr w0,.fr w1,.fr w2,.fr w3,.own none ((tk++[x]).map .str),z5,.fr (.str x)]:=by
 unfold q10;&;rw[z9a];simp only[hi,decide_false];&;rw[show inW (.str x) (.tup [.str "in", .str "held", .str "out"])=some (.bl false)from(x2t rowW).trans (by simp[h2])];&;rw[x2u n x (q4p h1).1,h1];&;rw[if_pos (by simp;omega)];simp
tm x20(n:Nat)(w0 w1 w2 w3:W):∀(xs tk:List Str)(z5 z6:S),(∀x∈xs,okN x=true/\x∉rowW)->(tk++xs).Nodup->(tk++xs).length<=1000->∃e,forD 6 (q10 K a (run K a (n+2))) (xs.map .str) [.fr w0,.fr w1,.fr w2,.fr w3,.own none (tk.map .str),z5,z6]=.nx e
 |[],tk,z5,z6,_,_,_=>⟨_,rfl⟩
 |x::xs,tk,z5,z6,hx,hn,hl=>by
  ~⟨h1,h2⟩:=hx x w0i;#hi:x∉tk:=λh=>(w2d.mp hn).2.2 x h x w0i rfl
  ~⟨e,ih⟩:=x20 n w0 w1 w2 w3 xs (tk++[x]) z5 (.fr (.str x)) (λy hy=>hx y (w0e _ hy)) (by simpa using hn) (by simpa using hl)
  rF⟨e,?_⟩;rw[<- ih,w0g];show(q10 K a (run K a (n+2)) [.fr w0,.fr w1,.fr w2,.fr w3,.own none (tk.map .str),z5,.fr (.str x)]).turnT (forD 6 (q10 K a (run K a (n+2))) (xs.map .str))=_;rw[y0e n w0 w1 w2 w3 x tk z5 h1 h2 hi (by simp at hl;omega)];rfl
tm x1r(n:Nat)(w0 w2 w3:W)(ps:List Pt)(x:Str)(tk:List Str)(z6:S)(h:tk.length+(namesOf ps x).length<=1000):q02 K a (run K a (n+1)) [.fr w0,.fr (.lst (ps.map encPt)),.fr w2,.fr w3,.own none (tk.map .str),.fr (.str x),z6]=.nx [.fr w0,.fr (.lst (ps.map encPt)),.fr w2,.fr w3,.own none ((tk++namesOf ps x).map .str),.fr (.str x),z6]:=by
 unfold q02;&;rw[q5z n ps x oM];&;rw[if_pos (by simp;omega)];simp
tm z1x{ps:List Pt}(h:ps≠[]):∃p,ps.getLast?=some p/\atI (ps.map encPt) (-1)=some (encPt p):=by
 obtain⟨q,e⟩:∃q,ps=ps.dropLast++[q]:=⟨ps.getLast h,(List.dropLast_concat_getLast h).symm⟩;rF⟨q,by rw[e];simp,?_⟩;rw[e,w0n];!x8u
tm z1y(n:Nat)(w0 w2 w3:W)(ps:List Pt)(z5 z6:S)(h:(taken ps).length<=900):forD 5 (q02 K a (run K a (n+1))) [.str "in", .str "held", .str "out"] [.fr w0,.fr (.lst (ps.map encPt)),.fr w2,.fr w3,.own none [],z5,z6]=.nx [.fr w0,.fr (.lst (ps.map encPt)),.fr w2,.fr w3,.own none ((taken ps).map .str),.fr (.str "out"),z6]:=by
 simp only[taken,w0q]at h;show(q02 K a (run K a (n+1)) [.fr w0,.fr (.lst (ps.map encPt)),.fr w2,.fr w3,.own none (([]:List Str).map .str),.fr (.str "in"),z6]).turnT (forD 5 (q02 K a (run K a (n+1))) [.str "held", .str "out"])=_;rw[x1r n w0 w2 w3 ps "in" [] z6 (by simp;omega)];show(q02 K a (run K a (n+1)) [.fr w0,.fr (.lst (ps.map encPt)),.fr w2,.fr w3,.own none (([]++namesOf ps "in").map .str),.fr (.str "held"),z6]).turnT (forD 5 (q02 K a (run K a (n+1))) [.str "out"])=_;rw[x1r n w0 w2 w3 ps "held" _ z6 (by simp;omega)];show(q02 K a (run K a (n+1)) [.fr w0,.fr (.lst (ps.map encPt)),.fr w2,.fr w3,.own none (([]++namesOf ps "in"++namesOf ps "held").map .str),.fr (.str "out"),z6]).turnT (forD 5 (q02 K a (run K a (n+1))) [])=_;rw[x1r n w0 w2 w3 ps "out" _ z6 (by simp;omega),w2e,w0k];rfl
nD lastD:Den W:=dIf (dTest (dOp gtW (dFn len1 (dCons (dVar 1) dNil)) (dC (.int 0)))) (dOp ixS (dOp ixW (dVar 1) (dUn negW (dC (.int 1)))) (dC (.str "word"))) (dC (.str ""))
tm y6u(w0 w2:W)(z3 z4 z5 z6:S)(ps:List Pt)(hl:ps.length<=1000):lastD [.fr w0,.fr (.lst (ps.map encPt)),.fr w2,z3,z4,z5,z6]=.ok (.str (lastW ps)) [.fr w0,.fr (.lst (ps.map encPt)),.fr w2,z3,z4,z5,z6]:=by
 unfold lastD;&
 by_cases h:ps=[]
 ·subst h;rfl
 ·~⟨p,h1,h2⟩:=z1x h;#hp:0<ps.length:=w3e.mpr h;unfold lastW;rw[w0j,if_pos oM,h1,h2];&;rw[q6o];&
tm z1z(n:Nat)(ps:List Pt)(p:Pt)(hl:ps.length<=1000)(h:Stand ps p):run K a (n+3) q36 [encPt p,.lst (ps.map encPt)]=.ok (.fr (.bl true)):=by
 #hm:=h.most;#hlen:=h.len;#hm6:mostN p.word<=6:=by unfold mostN;split<;>(try split)<;>omega
 #hlt:(taken ps).length=(namesOf ps "in").length+((namesOf ps "held").length+(namesOf ps "out").length):=by simp[taken]
 rw[w0q]at hm;~⟨b1,b2⟩:=z9d h.word;rw[q58];unfold q5u;rw[show dIf (dTest (dOp gtW (dFn len1 (dCons (dVar 1) dNil)) (dC (.int 0)))) (dOp ixS (dOp ixW (dVar 1) (dUn negW (dC (.int 1)))) (dC (.str "word"))) (dC (.str ""))=lastD from rfl];&;rw[q6o];&;rw[y6u _ _ _ _ _ _ ps hl];&;rw[show ninW (.str p.word) (.tup [.str "in", .str "held", .str "out"])=some (.bl false)from(y7p rowW).trans (by simp[h.word])];&;rw[b1];&;rw[y7p];simp only[h.last,decide_true];&;rw[q5z (n+1) ps p.word oM];&;rw[x1p];&;rw[if_pos (by simp;omega)];&;rw[b2];&;rw[if_neg (by simp;omega)];rw[z1y (n+1) _ _ _ ps _ _ hlen];&;rw[x1p];&;~⟨e,he⟩:=x20 (K:=K) (a:=a) n (encPt p) (.lst (ps.map encPt)) (.str p.word) (.str (lastW ps)) p.names (taken ps) (.fr (.str "out")) .no h.ok h.nd (by simp;omega);rw[he];&
inductive Rows(K:PySem.W.Frag)(a:Adr):Nat->List Pt->List (List Nat)->List Pt->Prop
 |nil {k:Nat} {ah:List Pt}:Rows K a k ah [] []
 |blank {k:Nat} {ah ps:List Pt} {cs:List Nat} {rs:List (List Nat)} (hw:wds cs=[]) (hc:cs.length<=100000) (h:Rows K a (k+1) ah rs ps):Rows K a k ah (cs::rs) ps
 |part {k:Nat} {ah ps:List Pt} {p:Pt} {cs:List Nat} {rs:List (List Nat)} (hw:wds cs≠[]) (hc:cs.length<=100000) (hp:∀n,run K a (n+2) q0z [.str (tx cs),.int k]=.ok (.dw .str pk (pw p))) (hs:Stand ah p) (h:Rows K a (k+1) (ah++[p]) rs ps):Rows K a k ah (cs::rs) (p::ps)
tm y0f(n k:Nat)(w0:W)(ah:List Pt)(z4:S)(hw:wds cs=[])(hc:cs.length<=100000):q1a K a (run K a (n+3)) [.fr w0,.own none (ah.map encPt),.fr (.int k),.fr (wT cs),z4]=.nx [.fr w0,.own none (ah.map encPt),.fr (.int k),.fr (wT cs),z4]:=by
 unfold q1a;&;rw[show wT cs=.str (tx cs)from rfl,q9x (n+2) cs hc,hw];&
tm y0g(n k:Nat)(w0:W)(ah:List Pt){p:Pt}(z4:S)(hw:wds cs≠[])(hc:cs.length<=100000)(hl:ah.length<=900)(hp:∀n,run K a (n+2) q0z [.str (tx cs),.int k]=.ok (.dw .str pk (pw p)))(hs:Stand ah p):q1a K a (run K a (n+3)) [.fr w0,.own none (ah.map encPt),.fr (.int k),.fr (wT cs),z4]=.nx [.fr w0,.own none ((ah++[p]).map encPt),.fr (.int k),.fr (wT cs),.fr (encPt p)]:=by
 #hwl:0<(wds cs).length:=w3e.mpr hw;#hw2:(wds cs).length<=100001:=w0v (w4y _ _) (w0v (q8o 32 cs) oM);unfold q1a;&;rw[show wT cs=.str (tx cs)from rfl,q9x (n+2) cs hc];&;rw[if_pos (by rw[w0j];omega),hp (n+1)];&;rw[show W.dw false .str pk (pw p)=encPt p from rfl,z1z n ah p oM hs];&;rw[if_pos (by simp;omega)];simp
tm y3k(n:Nat)(w0:W){k:Nat}{ah ps:List Pt}{rs:List (List Nat)}(h:Rows K a k ah rs ps):ah.length+ps.length<=900->∀z2 z3 z4:S,∃y2 y3 y4,forP 2 3 (q1a K a (run K a (n+3))) (enumL k (rs.map wT)) [.fr w0,.own none (ah.map encPt),z2,z3,z4]=.nx [.fr w0,.own none ((ah++ps).map encPt),y2,y3,y4]:=by
 induction h with
 |nil=>!λ_ z2 z3 z4=>⟨z2,z3,z4,by rw[w1a];rfl⟩
 | @blank k ah ps cs rs hw hc h ih=>
  intro hl z2 z3 z4;~⟨y2,y3,y4,e⟩:=ih hl (.fr (.int k)) (.fr (wT cs)) z4;rF⟨y2,y3,y4,?_⟩;rw[w0g,enumL,q2o];simp only[w1y,w1z];rw[y0f n k w0 ah z4 hw hc,q07];!e
 | @part k ah ps p cs rs hw hc hp hs h ih=>
  intro hl z2 z3 z4;~⟨y2,y3,y4,e⟩:=ih (by simp at hl |-;omega) (.fr (.int k)) (.fr (wT cs)) (.fr (encPt p));rF⟨y2,y3,y4,?_⟩;rw[w0g,enumL,q2o];simp only[w1y,w1z];rw[y0g n k w0 ah z4 hw hc oM hp hs,q07,e,w0k];rfl
tm x21(n:Nat){rs:List (List Nat)}{ps:List Pt}(h:Rows K a 0 [] rs ps)(hp:ps≠[])(hl:ps.length<=900):run K a (n+4) q1i [.lst (rs.map wT)]=.ok (.fr (.tup [.lst (ps.map encPt),.non])):=by
 #h0:0<ps.length:=w3e.mpr hp;rw[q3k];unfold q2u;&;~⟨y2,y3,y4,e⟩:=y3k n (.lst (rs.map wT)) h (by simpa using hl) .no .no .no;rw[show([]:List Pt).map encPt=[]from rfl,w2e]at e;rw[e];&;rw[if_neg (by simp;omega)];&
nD FormOk(ns:List Str)(p:Pt):Prop:=∃cs ts d,p.form=tx cs/\cs.length<=100000/\Tk ns 0 p.fm ts d/\(pieces cs).map (λp=>tx p.2)=ts/\d<=12
structure Sheet(ns:List Str)(ps:List Pt):Prop where
 ne:ps≠[]
 len:ps.length<=900
 ok:∀x∈ns,okN x=true
 nd:ns.Nodup
 nl:ns.length<1000
 few:∀x,(namesOf ps x).length<=1000
 names:namesOf ps "in"++namesOf ps "held"=ns
 fm:∀p∈ps,p.word≠"in"->FormOk ns p
tm y0h(n:Nat)(w0 w1:W)(ns:List Str)(p:Pt)(ok:∀x∈ns,okN x=true)(nd:ns.Nodup)(nl:ns.length<1000)(h:p.word≠"in"->FormOk ns p):q1z K a (run K a (n+4)) [.fr w0,.fr w1,.fr (.tup (ns.map .str)),.fr (encPt p)]=.nx [.fr w0,.fr w1,.fr (.tup (ns.map .str)),.fr (encPt p)]:=by
 unfold q1z;&;rw[q6o];&
 by_cases e:p.word="in"
 ·rw[e];&
 ·~⟨cs,ts,d,h1,h2,h3,h4,h5⟩:=h e;simp only[e,decide_false];&;rw[x8z,h1];&;rw[(x8y n cs h2 ns ok nd nl h3 h4 h5).1];&
tm x22(n:Nat)(w0 w1:W)(ns:List Str)(ok:∀x∈ns,okN x=true)(nd:ns.Nodup)(nl:ns.length<1000):∀(ps:List Pt)(z:S),(∀p∈ps,p.word≠"in"->FormOk ns p)->∃e,forD 3 (q1z K a (run K a (n+4))) (ps.map encPt) [.fr w0,.fr w1,.fr (.tup (ns.map .str)),z]=.nx e
 |[],z,_=>⟨_,rfl⟩
 |p::ps,z,h=>by
  ~⟨e,ih⟩:=x22 n w0 w1 ns ok nd nl ps (.fr (encPt p)) λq hq=>h q (w0e _ hq)
  rF⟨e,?_⟩;rw[<- ih,w0g];show(q1z K a (run K a (n+4)) [.fr w0,.fr w1,.fr (.tup (ns.map .str)),.fr (encPt p)]).turnT (forD 3 (q1z K a (run K a (n+4))) (ps.map encPt))=_;rw[y0h n w0 w1 ns p ok nd nl (h p w0i)];rfl
tm y6v(n:Nat){ps:List Pt}(hc:cs.length<=100000)(h:Rows K a 0 [] (cutC 10 cs) ps)(s:Sheet ns ps):run K a (n+5) q35 [.str (tx cs)]=.ok (.fr .non):=by
 rw[q57];unfold q5t;&;rw[show("\n":Str)=⟨#[10]⟩from rfl,sp_w oM hc];&;rw[x21 n h s.ne s.len];&;rw[q5z (n+3) ps "in" (s.few _)];&;rw[q5z (n+3) ps "held" (s.few _)];&;rw[if_pos (by #:=s.few "in";#:=s.few "held";simp;omega),<- w0n,s.names];&;~⟨e,he⟩:=x22 (K:=K) (a:=a) n (.str (tx cs)) (.tup [.lst (ps.map encPt),.non]) ns s.ok s.nd s.nl ps .no s.fm;rw[he];&
nD inB(p:Pt):Bool:=!decide (p.word="in")
nD heldB(p:Pt):Bool:=decide (p.word="held")
nD yesB:W->Bool
 |.str x=>decide (x="yes")
 |_=>false
nD formsW(ps:List Pt):List W:=(ps.filter inB).map λp=>enc p.fm
nD firstsW(ps:List Pt):List W:=(ps.filter heldB).map λp=>.bl (yesB p.first)
nD namesT(ps:List Pt):W:=.tup (rowW.map λx=>.tup ((namesOf ps x).map .str))
nD sheetW(ps:List Pt):W:=.tup [namesT ps,.tup [.int (namesOf ps "in").length,.tup (pairW (firstsW ps) ((formsW ps).take (firstsW ps).length)),.tup ((formsW ps).drop (firstsW ps).length)]]
tm z13(n:Nat)(ps:List Pt)(ns:List Str)(s:Sheet ns ps)(p:Pt)(hp:p∈ps):∃e',q5h K a (run K a (n+4)) [.fr (encPt p),.fr (namesT ps)]=.ok (inB p) e'/\(inB p=true->∃e2,q5g K a (run K a (n+4)) e'=.ok (enc p.fm) e2):=by
 unfold q5h q5g;&;rw[q6o];&;rF⟨_,rfl,λe=>?_⟩
 ~⟨cs,ts,d,h1,h2,h3,h4,h5⟩:=s.fm p hp (by simpa [inB]using e);&;rw[x8z,h1];unfold namesT rowW;&;rw[if_pos (by #:=s.few "in";#:=s.few "held";simp;omega),<- w0n,s.names];&;rw[(x8y n cs h2 ns s.ok s.nd s.nl h3 h4 h5).2];&;!⟨_,rfl⟩
tm y6w(r:Nat->List W->FR)(p:Pt)(hf:p.word="held"->∃b,p.first=wT (ynC b)):∃e',q5f K a r [.fr (encPt p)]=.ok (heldB p) e'/\(heldB p=true->∃e2,q5e K a r e'=.ok (.bl (yesB p.first)) e2):=by
 unfold q5f q5e;&;rw[q6o];&;rF⟨_,rfl,λe=>?_⟩
 ~⟨b,hb⟩:=hf (by simpa [heldB]using e);&;rw[y6r,hb];&;@b
 ·!⟨_,rfl⟩
 ·!⟨_,rfl⟩
tm y6x(n:Nat){ps:List Pt}(hc:cs.length<=100000)(h:Rows K a 0 [] (cutC 10 cs) ps)(s:Sheet ns ps)(hf:∀p∈ps,p.word="held"->∃b,p.first=wT (ynC b)):run K a (n+6) q2h [.str (tx cs)]=.ok (.fr (sheetW ps)):=by
 #hl:=s.len
 #hk:(firstsW ps).length<=(formsW ps).length:=by
  unfold firstsW formsW;rw[w0j,w0j,<- w3u,<- w3u];rF List.countP_mono_left λp _ h=>?_
  simp only[heldB,inB,decide_eq_true_eq]at h |-
  rw[h];decide
 #hk2:(firstsW ps).length<=900:=by
  unfold firstsW;rw[w0j];!w0v (w4y _ _) hl
 rw[q5k];unfold q45;&;rw[y6v n hc h s];&;rw[show("\n":Str)=⟨#[10]⟩from rfl,sp_w oM hc];&;rw[x21 (n+1) h s.ne s.len];&;simp only[frz1,pj1,w1r,w2a];rw[show([.str "in", .str "held", .str "out"]:List W)=rowW.map .str from rfl,q5n W.str (λx=>.tup ((namesOf ps x).map .str)) (λ_=>true)]
 ·rw[show(rowW.filter λ_=>true)=rowW from rfl]
  &;rw[show W.tup (rowW.map λx=>.tup ((namesOf ps x).map .str))=namesT ps from rfl,if_pos (by simp;omega)]
  simp only[frz1,pj1,w1r,w2a];rw[q5n encPt (λp=>enc p.fm) inB ps (z13 (n+1) ps ns s)]
  &;rw[if_pos (by simp;omega),q5n encPt (λp=>.bl (yesB p.first)) heldB ps λp hp=>y6w _ p (hf p hp)]
  &;rw[show ixW (namesT ps) (.int 0)=some (.tup ((namesOf ps "in").map .str))from rfl];&;rw[show(ps.filter heldB).map (λp=>W.bl (yesB p.first))=firstsW ps from rfl,show(ps.filter inB).map (λp=>enc p.fm)=formsW ps from rfl,x2w hk]
  &;rw[show zip1 [.lst (firstsW ps),.lst ((formsW ps).take (firstsW ps).length)]=some (.tup (pairW (firstsW ps) ((formsW ps).take (firstsW ps).length)))from if_pos (by rw[w2v];omega)];&;rw[q7c hk,w0j];rfl
 ·intro x _;unfold q74;rF⟨_,rfl,λ_=>?_⟩
  &;rw[q5z (n+4) ps x (s.few x)];&;!⟨_,rfl⟩
nD abcC:List Nat:=[97,98,99,100,101,102,103,104,105,106,107,108,109,110,111,112,113,114,115,116,117,118,119,120,121,122]
nD ltr(j:Int):Nat:=97+(j%26).toNat
tm y0i(j:Int):isL (ltr j)=true:=by
 #h1:=w1h j (show(26:Int)≠0 by decide);#h2:=w1f j (show(0:Int)<26 by decide);unfold isL ltr;rw[w0l,decide_eq_true_iff,decide_eq_true_iff];omega
tm y3l(j:Int):ixW (.str "abcdefghijklmnopqrstuvwxyz") (.int (j%26))=some (.str (tx [ltr j])):=by
 #h1:=w1h j (show(26:Int)≠0 by decide);#h2:=w1f j (show(0:Int)<26 by decide);obtain⟨k,hk⟩:∃k:Nat,j%26=(k:Int):=⟨(j%26).toNat,by omega⟩;unfold ltr;rw[hk,w2b];rF(ixB (cs:=abcC) (by decide) ?_);#hk2:k<26:=by omega
 rw[show abcC=(List.range 26).map (97+·)from rfl,w1t,w3z hk2];rfl
tm z14(j:Int):∃s:Nat,s<=7/\atI [W.int 0,.int 1,.int 2,.int 0,.int 5,.int 7,.int 3,.int 0] (j%8)=some (.int (s:Int)):=by
 #h1:=w1h j (show(8:Int)≠0 by decide);#h2:=w1f j (show(0:Int)<8 by decide);generalize j%8=k at h1 h2;obtain rfl|rfl|rfl|rfl|rfl|rfl|rfl|rfl:k=0\/k=1\/k=2\/k=3\/k=4\/k=5\/k=6\/k=7:=by omega
 ·!⟨0,by omega,rfl⟩
 ·!⟨1,by omega,rfl⟩
 ·!⟨2,by omega,rfl⟩
 ·!⟨0,by omega,rfl⟩
 ·!⟨5,by omega,rfl⟩
 ·!⟨7,by omega,rfl⟩
 ·!⟨3,by omega,rfl⟩
 ·!⟨0,by omega,rfl⟩
tm x80{d:Den W}{pe:List S}:∀ws:List W,(∀w∈ws,∃j e',d (.fr w::pe)=.ok (.str (tx [ltr j])) e')->∃cs:List Nat,cs.length=ws.length/\(∀c∈cs,isL c=true)/\compD dYes d pe ws=some (cs.map λc=>.str (tx [c]))
 |[],_=>⟨[],rfl,(λ_ h=>nomatch h),rfl⟩
 |w::ws,h=>by
  ~⟨j,e',h1⟩:=h w w0i;~⟨cs,h2,h3,h4⟩:=x80 ws λx hx=>h x (w0e _ hx)
  rF⟨ltr j::cs,by simp[h2],λc hc=>?_,?_⟩
  ·rcases w0d.mp hc with rfl|hc
   ·!y0i j
   ·!h3 c hc
  ·rw[q88,h4];simp only[y1o,h1];rfl
tm z15(n:Nat)(c k:Int)(w:W)(hw:∃j:Int,w=.int j):∃j e',q2a K a (run K a (n+1)) [.fr w,.fr (.int c),.fr (.str "abcdefghijklmnopqrstuvwxyz"),.fr (.int k)]=.ok (.str (tx [ltr j])) e':=by
 ~⟨j,rfl⟩:=hw;unfold q2a;&;~⟨v,hv⟩:=q7b (K:=K) (a:=a) n c (9*k+j);rw[hv];&;rw[y3l v];&;!⟨v,_,rfl⟩
nD nineW:List Str:=["yes", "no", "not", "and", "odd", "or", "in", "held", "out"]
nD Nm(c:Int)(k:Nat)(x:Str):Prop:=okN x=true/\x∉rowW/\(if c%3=2 then ∃t,chs x=ltr (c / 3+7*(k:Int))::t else ∃i j,chs x=List.replicate i 113++ltr (c / 3+7*(k:Int))::List.replicate j 113)
tm y3m(h1:1<=cs.length)(h2:cs.length<=8)(h3:∀c∈cs,isL c=true)(h4:tx cs∉nineW):okN (tx cs)=true/\tx cs∉rowW:=by
 #hs:six (tx cs)=false:=by
  unfold six;!decide_eq_false λh=>h4 ((by decide:∀y∈(["yes", "no", "not", "and", "odd", "or"]:List Str),y∈nineW) _ h)
 rF⟨?_,λh=>h4 ((by decide:∀y∈rowW,y∈nineW) _ h)⟩
 unfold okN;rw[hs,q0u,q1k];simp[h1,h2];!h3
tm z6x(h:y∈nineW):y++"x"∉nineW/\(y++"x").length<=8/\∀c∈chs (y++"x"),isL c=true:=by
 simp only[nineW,w0d,w0h,or_false]at h;rcases h with rfl|rfl|rfl|rfl|rfl|rfl|rfl|rfl|rfl<;>decide
tm z6y(h:tx cs∈nineW):113∉cs/\2<=cs.length:=by
 #:∀y∈nineW,113∉chs y/\2<=(chs y).length:=by decide
 #:=this _ h
 rwa [show chs (tx cs)=cs from q1k cs]at this
tm x81(r:Nat->List W->FR)(c:Int)(w1 w2:W)(acc:List W)(k:Nat)(ha:acc.length<=100)(z5 z6 z7 z9:S)(h1:1<=cs.length)(h2:cs.length<=8)(h3:∀c∈cs,isL c=true)(h4:if c%3=2 then ∃t,cs=ltr (c / 3+7*(k:Int))::t else ∃i j,cs=List.replicate i 113++ltr (c / 3+7*(k:Int))::List.replicate j 113):∃x t8,Nm c k x/\nmE K a r [.fr (.int c),.fr w1,.fr w2,.own none acc,.fr (.int k),z5,z6,z7,.fr (.str (tx cs)),z9]=.nx [.fr (.int c),.fr w1,.fr w2,.own none (acc++[.str x]),.fr (.int k),z5,z6,z7,t8,z9]:=by
 unfold nmE;&;rw[show inW (.str (tx cs)) (.tup [.str "yes", .str "no", .str "not", .str "and", .str "odd", .str "or", .str "in", .str "held", .str "out"])=some (.bl (decide (tx cs∈nineW)))from x2t nineW];&
 by_cases h:tx cs∈nineW
 ·~⟨g1,g2,g3⟩:=z6x h;~⟨q1,q2⟩:=z6y h;#hx:("x":Str).length=1:=rfl;rw[if_pos h,q0u,if_pos oM];&;rw[if_pos oM];#e:tx cs++"x"=tx (cs++[120]):=q37 cs [120];rw[e]at g1 g2 g3 |-
  rw[show chs (tx (cs++[120]))=cs++[120]from q1k _]at g3;rw[q0u]at g2;~⟨o1,o2⟩:=y3m (by simp) g2 g3 g1;rF⟨_,_,⟨o1,o2,?_⟩,rfl⟩;rw[show chs (tx (cs++[120]))=cs++[120]from q1k _];split at h4
  ·rename_i hc;rw[if_pos hc];~⟨t,rfl⟩:=h4;!⟨t++[120],rfl⟩
  ·~⟨i,j,rfl⟩:=h4;exfalso;cases i with
   |succ i=>!q1 (by simp[w1n])
   |zero=>cases j with
    |succ j=>!q1 (by simp[w1n])
    |zero=>simp at q2
 ·rw[if_neg h];&;rw[if_pos oM];~⟨o1,o2⟩:=y3m h1 h2 h3 h;rF⟨_,_,⟨o1,o2,?_⟩,rfl⟩;rw[show chs (tx cs)=cs from q1k _];!h4
tm x66:∀cs:List Nat,joinC [] (cs.map λc=>[c])=cs
 |[]=>rfl
 |[c]=>rfl
 |c::d::cs=>by
  show[c]++([]++joinC [] ((d::cs).map λc=>[c]))=_
  rw[x66 (d::cs)];rfl
tm joinE(cs:List Nat)(h:cs.length<=1000):joinW (.str "") [.lst (cs.map λc=>.str (tx [c]))]=some (.str (tx cs)):=by
 #e:=x65 (z:=[]) (l:=cs.map λc=>[c]) (by
  rw[w0y,show List.length ∘ (λc:Nat=>[c])=λ_=>1 from rfl,List.map_const']
  simp;omega)
 rw[x66,w0y]at e;!e
tm x82(n:Nat)(c:Int)(w1:W)(acc:List W)(k s:Nat)(hs:s<=7)(ha:acc.length<=100)(z7 z8 z9:S):∃x t7 t8 t9,Nm c k x/\nmS K a (run K a (n+1)) [.fr (.int c),.fr w1,.fr (.str "abcdefghijklmnopqrstuvwxyz"),.own none acc,.fr (.int k),.fr (.str (tx [ltr (c / 3+7*(k:Int))])),.fr (.int s),z7,z8,z9]=.nx [.fr (.int c),.fr w1,.fr (.str "abcdefghijklmnopqrstuvwxyz"),.own none (acc++[.str x]),.fr (.int k),.fr (.str (tx [ltr (c / 3+7*(k:Int))])),.fr (.int s),t7,t8,t9]:=by
 unfold nmS;&;#t1:=w1h (c / 624) (show((s:Int)+1)≠0 by omega);#t2:=w1f (c / 624) (show(0:Int)<(s:Int)+1 by omega);rw[if_pos oM];generalize c / 624%((s:Int)+1)=t at t1 t2;obtain⟨t,rfl⟩:∃m:Nat,t=(m:Int):=⟨t.toNat,by omega⟩;rw[reps 113 "q" rfl t oM];&;rw[q0u,q0u,q37,if_pos (by simp;omega)];&;rw[show((s:Int)-(t:Int))=((s-t:Nat):Int) by omega,reps 113 "q" rfl (s-t) oM];&;rw[q0u,q0u,q37,if_pos (by simp;omega)];&
 by_cases hc:c%3=2
 ·simp only[hc];&;rw[if_pos (q32 oM oM)];&;rw[if_pos (by rw[q4l];omega)];simp only[frz1,pj1,w1r,w2a]
  ~⟨cs,g1,g2,g3⟩:=x80 (d:=q2a K a (run K a (n+1))) (pe:=[.fr (.int c),.fr (.str "abcdefghijklmnopqrstuvwxyz"),.fr (.int k)]) (rangeW 0 s) λw hw=>z15 n c k w (by
   ~⟨j,_,rfl⟩:=w0u.mp hw;!⟨_,rfl⟩)
  rw[q4l]at g1;rw[g3];&;rw[joinE cs oM];&;rw[q0u,q0u,q37,if_pos (by simp;omega)];&
  ~⟨x,t8,q1,q2⟩:=x81 (K:=K) (a:=a) (run K a (n+1)) c w1 (.str "abcdefghijklmnopqrstuvwxyz") acc k ha (.fr (.str (tx [ltr (c / 3+7*(k:Int))]))) (.fr (.int s)) (.fr (.int t)) (.fr (.lst (cs.map λc=>.str (tx [c])))) (cs:=[ltr (c / 3+7*(k:Int))]++cs) (by simp) (by simp;omega) (λc hc=>by
   rcases w0d.mp hc with rfl|hc
   ·!y0i _
   ·!g2 c hc) (by rw[if_pos hc];!⟨cs,rfl⟩)
  !⟨x,_,t8,_,q1,q2⟩
 ·simp only[hc];&
  ~⟨x,t8,q1,q2⟩:=x81 (K:=K) (a:=a) (run K a (n+1)) c w1 (.str "abcdefghijklmnopqrstuvwxyz") acc k ha (.fr (.str (tx [ltr (c / 3+7*(k:Int))]))) (.fr (.int s)) (.fr (.int t)) z9 (cs:=List.replicate t 113++[ltr (c / 3+7*(k:Int))]++List.replicate (s-t) 113) (by simp;omega) (by simp;omega) (λc hc=>by
   simp only[w1c,w5j,w1k]at hc;rcases hc with(⟨_,rfl⟩|rfl)|⟨_,rfl⟩
   ·rfl
   ·!y0i _
   ·rfl) (by rw[if_neg hc];!⟨t,s-t,by simp⟩)
  !⟨x,_,t8,_,q1,q2⟩
tm y3n(n:Nat)(c:Int)(w1:W)(acc:List W)(k:Nat)(ha:acc.length<=100)(z5 z6 z7 z8 z9:S):∃x t5 t6 t7 t8 t9,Nm c k x/\q2b K a (run K a (n+1)) [.fr (.int c),.fr w1,.fr (.str "abcdefghijklmnopqrstuvwxyz"),.own none acc,.fr (.int k),z5,z6,z7,z8,z9]=.nx [.fr (.int c),.fr w1,.fr (.str "abcdefghijklmnopqrstuvwxyz"),.own none (acc++[.str x]),.fr (.int k),t5,t6,t7,t8,t9]:=by
 ~⟨s,hs,e6⟩:=z14 (c / 78);~⟨v,hv⟩:=q7b (K:=K) (a:=a) n c k;unfold q2b;&;rw[y3l];&;rw[e6];&
 by_cases hc:c%3=0
 ·#t1:=w1h v (show(8:Int)≠0 by omega);#t2:=w1f v (show(0:Int)<8 by omega);simp only[hc];&;rw[hv];&;generalize v%8=m at t1 t2;obtain⟨m,rfl⟩:∃j:Nat,m=(j:Int):=⟨m.toNat,by omega⟩;~⟨x,t7,t8,t9,q1,q2⟩:=x82 (K:=K) (a:=a) n c w1 acc k m oM ha z7 z8 z9;!⟨x,_,_,t7,t8,t9,q1,q2⟩
 ·simp only[hc];&;~⟨x,t7,t8,t9,q1,q2⟩:=x82 (K:=K) (a:=a) n c w1 acc k s hs ha z7 z8 z9;!⟨x,_,_,t7,t8,t9,q1,q2⟩
tm z6z{q:Int}{j:Nat}(h:i<j)(hj:j<26):ltr (q+7*(i:Int))≠ltr (q+7*(j:Int)):=by
 unfold ltr;omega
tm Nm.ne{c:Int}{j:Nat}(hx:Nm c i x)(hy:Nm c j y)(h:i<j)(hj:j<26):x≠y:=λe=>by
 subst e;#hl:=z6z (q:=c / 3) h hj;~⟨_,_,h1⟩:=hx;~⟨_,_,h2⟩:=hy;split at h1
 ·rename_i hc;rw[if_pos hc]at h2;~⟨t,e1⟩:=h1;~⟨u,e2⟩:=h2;rw[e1]at e2;!hl (List.cons.inj e2).1
 ·rename_i hc;rw[if_neg hc]at h2;~⟨p,q,e1⟩:=h1;~⟨r,s,e2⟩:=h2;rw[e1]at e2;#m1:ltr (c / 3+7*(i:Int))∈List.replicate r 113++ltr (c / 3+7*(j:Int))::List.replicate s 113:=by rw[<- e2];simp
  #m2:ltr (c / 3+7*(j:Int))∈List.replicate p 113++ltr (c / 3+7*(i:Int))::List.replicate q 113:=by rw[e2];simp
  simp only[w1c,w0d,w5j]at m1 m2
  grind
tm y6y(n:Nat)(c:Int)(m:Nat)(hm:m<=20):∃xs:List Str,xs.length=m/\xs.Nodup/\(∀x∈xs,okN x=true/\x∉rowW)/\run K a (n+2) q14 [.int c,.int m]=.ok (.own none (xs.map .str)):=by
 rw[q3z];unfold q29;&;rw[if_pos (q32 oM oM)];&
 ~⟨e',h1,xs,z4,z5,z6,z7,z8,z9,rfl,hl,hx⟩:=q4y (lo:=0) (hi:=(m:Int)) (b:=q2b K a (run K a (n+1))) (i:=4) m oM (λk e=>∃(xs:List Str)(z4 z5 z6 z7 z8 z9:S),e=[.fr (.int c),.fr (.int m),.fr (.str "abcdefghijklmnopqrstuvwxyz"),.own none (xs.map .str),z4,z5,z6,z7,z8,z9]/\xs.length=k/\∀(i:Nat)(x:Str),xs[i]?=some x->Nm c i x) [.fr (.int c),.fr (.int m),.fr (.str "abcdefghijklmnopqrstuvwxyz"),.own none [],.no,.no,.no,.no,.no,.no] ⟨[],_,_,_,_,_,_,rfl,rfl,λ_ _ h=>nomatch h⟩ (λj e hj h=>by
  ~⟨xs,z4,z5,z6,z7,z8,z9,rfl,hl,hx⟩:=h;~⟨x,t5,t6,t7,t8,t9,q1,q2⟩:=y3n (K:=K) (a:=a) n c (.int m) (xs.map .str) j (by simp;omega) z5 z6 z7 z8 z9;rF⟨_,by rw[w4e];!q2,xs++[x],_,t5,t6,t7,t8,t9,by rw[w0n];rfl,by simp[hl],λi y hy=>?_⟩
  rcases w4z i xs.length with h|h
  ·rw[w1u h]at hy;!hx i y hy
  ·rw[w1d h]at hy;cases hk:i-xs.length with
   |zero=>rw[hk]at hy;@hy;rw[show i=j by omega];!q1
   |succ _=>rw[hk]at hy;simp at hy)
 rw[h1];&;rF⟨xs,hl,?_,λx h=>?_,rfl⟩
 ·rw[List.nodup_iff_pairwise_ne,List.pairwise_iff_getElem];intro i j hi hj hij;!Nm.ne (hx i _ (w0a hi)) (hx j _ (w0a hj)) hij oM
 ·~⟨i,hi,rfl⟩:=w3x h;#:=hx i _ (w0a hi);!⟨this.1,this.2.1⟩
tm y6z(n:Nat)(k:Nat)(s:Int)(m:Nat)(hm:m<=5):∃cs:List Int,cs.length=m/\compD dYes (q1v K a (run K a (n+1))) [.fr (.int k),.fr (.int s)] (rangeW 0 m)=some (cs.map .int):=by
 #:∀ws:List W,(∀w∈ws,∃j:Int,w=.int j)->∃cs:List Int,cs.length=ws.length/\compD dYes (q1v K a (run K a (n+1))) [.fr (.int k),.fr (.int s)] ws=some (cs.map .int):=by
  intro ws
  induction ws with
  |nil=>!λ_=>⟨[],rfl,rfl⟩
  |cons w ws ih=>
   intro h;~⟨j,rfl⟩:=h w w0i;~⟨cs,h1,h2⟩:=ih λx hx=>h x (w0e _ hx)
   ~⟨v,hv⟩:=q7b (K:=K) (a:=a) n s (11*k+j);rF⟨v::cs,by simp[h1],?_⟩;rw[q88,h2];unfold q1v;&;rw[hv];&
 ~⟨cs,h1,h2⟩:=this (rangeW 0 m) λw hw=>by ~⟨j,_,rfl⟩:=w0u.mp hw;!⟨_,rfl⟩
 !⟨cs,by rw[h1,q4l];omega,h2⟩
nD Fine(m:Nat)(f:Fm):Prop:=f.inb m/\f.depth<=6/\f.size<=12
tm z16(n:Nat)(ns:List Int)(cell:Int)(m c o k:Nat)(fs:List Fm)(hl:fs.length<=100)(z8 z9 z10 z11 z12:S):∃f t8 t9 t10,Fine (m+c) f/\q1w K a (run K a (n+2)) [.fr (.lst (ns.map .int)),.fr (.int 5),.fr (.int cell),.fr (.int m),.fr (.int c),.fr (.int o),.own none (fs.map enc),.fr (.int k),z8,z9,z10,z11,z12]=.nx [.fr (.lst (ns.map .int)),.fr (.int 5),.fr (.int cell),.fr (.int m),.fr (.int c),.fr (.int o),.own none ((fs++[f]).map enc),.fr (.int k),t8,t9,t10,z11,z12]:=by
 unfold q1w;&;rw[q7a (n+1) ns (k:=2+(k:Int)) oM];&;generalize ns.getD (2+(k:Int)).toNat 0=sd;~⟨v,hv⟩:=q7b (K:=K) (a:=a) (n+1) sd k;rw[hv];&;#t1:=w1h v (show(5:Int)≠0 by omega);#t2:=w1f v (show(0:Int)<5 by omega);generalize v%5=q at t1 t2;obtain⟨q,rfl⟩:∃j:Nat,q=(j:Int):=⟨q.toNat,by omega⟩;rw[show(1+(q:Int))=((q+1:Nat):Int) by omega,if_pos (q32 oM oM)];&;rw[if_pos (by rw[q4l];omega)];simp only[frz1,pj1,w1r,w2a];~⟨cs,g1,g2⟩:=y6z (K:=K) (a:=a) (n+1) k sd (q+1) oM;rw[g2];&;rw[show((m:Int)+(c:Int))=((m+c:Nat):Int) by omega];~⟨f,f1,f2,f3,f4⟩:=y20 (K:=K) (a:=a) n cs (m+c) oM;rw[f1];&;rw[if_pos (by simp;omega)];!⟨f,_,_,_,⟨f2,by omega,by omega⟩,by rw[w0n];rfl⟩
tm y60(n:Nat):rangeW 0 (n:Int)=(List.range n).map fun(i:Nat)=>W.int (i:Int):=by
 unfold rangeW;rw[show((n:Int)-0).toNat=n by omega];rF w1s λi _=>?_
 rw[w4e]
tm z17(r:Nat->List W->FR)(fs:List Fm)(q:Int)(k:Nat)(hk:k<fs.length)(h100:k<100):q24 K a r [.fr (.int (k:Int)),.fr (.lst (fs.map enc)),.fr (.int q)]=.ok (.tup [.bl (decide (q / (k+1:Int)%2=1)),enc fs[k]]) [.fr (.int (k:Int)),.fr (.lst (fs.map enc)),.fr (.int q)]:=by
 unfold q24;&;rw[if_pos ⟨by omega,by omega⟩];&;rw[show atI (fs.map enc) (k:Int)=some (enc fs[k])from q4j (by rw[w1t,w0a hk];rfl)];&
nD encC(m:Nat)(bs:List Bool)(fs:List Fm):W:=.tup [.int m,.tup (pairW (bs.map .bl) ((fs.take bs.length).map enc)),.tup ((fs.drop bs.length).map enc)]
tm z60(n:Nat)(ns:List Int)(cell:Int)(m c o:Nat)(hc:c<=4)(ho:o<=6):∃(bs:List Bool)(fs:List Fm),bs.length=c/\fs.length=c+o/\(∀f∈fs,Fine (m+c) f)/\(ciT K a (run K a (n+2)) [.fr (.lst (ns.map .int)),.fr (.int 5),.fr (.int cell),.fr (.int m),.fr (.int c),.fr (.int o),.no,.no,.no,.no,.no,.no,.no]).fn=.ok (.fr (encC m bs fs)):=by
 unfold ciT;&;rw[show((c:Int)+(o:Int))=((c+o:Nat):Int) by omega,if_pos (q32 oM oM)];&
 ~⟨e',h1,fs,z7,z8,z9,z10,rfl,hl,hx⟩:=q4y (lo:=0) (hi:=((c+o:Nat):Int)) (b:=q1w K a (run K a (n+2))) (i:=7) (c+o) oM (λk e=>∃(fs:List Fm)(z7 z8 z9 z10:S),e=[.fr (.lst (ns.map .int)),.fr (.int 5),.fr (.int cell),.fr (.int m),.fr (.int c),.fr (.int o),.own none (fs.map enc),z7,z8,z9,z10,.no,.no]/\fs.length=k/\∀f∈fs,Fine (m+c) f) [.fr (.lst (ns.map .int)),.fr (.int 5),.fr (.int cell),.fr (.int m),.fr (.int c),.fr (.int o),.own none [],.no,.no,.no,.no,.no,.no] ⟨[],_,_,_,_,rfl,rfl,λ_ h=>nomatch h⟩ (λj e hj h=>by
  ~⟨fs,z7,z8,z9,z10,rfl,hl,hx⟩:=h;~⟨f,t8,t9,t10,q1,q2⟩:=z16 (K:=K) (a:=a) n ns cell m c o j fs oM z8 z9 z10 .no .no;rF⟨_,by rw[w4e];!q2,fs++[f],_,t8,t9,t10,rfl,by simp[hl],λg hg=>?_⟩
  rcases w1c.mp hg with hg|hg
  ·!hx g hg
  ·rw[w1k.mp hg];!q1)
 rw[h1];&;rw[q7a (n+1) ns (k:=1) oM];&;generalize ns.getD 1 0=q;rw[if_pos (q32 oM oM)];&;rw[if_pos (by rw[q4l];omega),y60];simp only[frz1,pj1,w1r,w2a];rw[q5n (fun(i:Nat)=>W.int (i:Int)) (λk=>.tup [.bl (decide (q / (k+1:Int)%2=1)),enc (fs.getD k (.is false))]) (λ_=>true)]
 ·rw[w2r.mpr (λ_ _=>rfl)]
  &;rw[q7c (by rw[w0j];omega)];rF⟨(List.range c).map fun(k:Nat)=>decide (q / (k+1:Int)%2=1),fs,by simp,hl,hx,?_⟩
  unfold encC
  #e:(List.range c).map (fun(k:Nat)=>W.tup [.bl (decide (q / (k+1:Int)%2=1)),enc (fs.getD k (.is false))])=pairW (((List.range c).map fun(k:Nat)=>decide (q / (k+1:Int)%2=1)).map .bl) ((fs.take c).map enc):=by
   unfold pairW;apply w3d
   ·simp[hl]
   ·intro i h1 h2;#hi:i<c:=by simpa using h1
    #hi2:i<fs.length:=by omega
    simp[List.getElem_zip,List.getD,hi2]
  rw[e,w4m];simp
 ·intro k hk;#hk:=w1i.mp hk;#hk2:k<fs.length:=by omega
  #:=z17 (K:=K) (a:=a) (run K a (n+2)) fs q k hk2 oM;rw[show fs[k]=fs.getD k (.is false) by rw[w0o,w0a hk2];rfl]at this;!⟨_,rfl,λ_=>⟨_,this⟩⟩
tm z18(j:Int):∃o:Nat,o<=3/\atI [W.int 1,.int 2,.int 3,.int 0] (j%4)=some (.int (o:Int)):=by
 #h1:=w1h j (show(4:Int)≠0 by decide);#h2:=w1f j (show(0:Int)<4 by decide);generalize j%4=k at h1 h2;obtain rfl|rfl|rfl|rfl:k=0\/k=1\/k=2\/k=3:=by omega
 ·!⟨1,by omega,rfl⟩
 ·!⟨2,by omega,rfl⟩
 ·!⟨3,by omega,rfl⟩
 ·!⟨0,by omega,rfl⟩
nD Circ(K:PySem.W.Frag)(a:Adr)(r:FR):Prop:=∃(m:Nat)(bs:List Bool)(fs:List Fm),m<=3/\m+bs.length<=5/\bs.length<=4/\bs.length<=fs.length/\fs.length<=bs.length+6/\(∀f∈fs,Fine (m+bs.length) f)/\r=.ok (.fr (encC m bs fs))
tm x0o(n:Nat)(ns:List Int)(cell:Int)(m c:Nat)(hm:m<=3)(hc:c<=4)(h:m+c<=5):Circ K a (ciO K a (run K a (n+2)) [.fr (.lst (ns.map .int)),.fr (.int 5),.fr (.int cell),.fr (.int m),.fr (.int c),.no,.no,.no,.no,.no,.no,.no,.no]).fn:=by
 ~⟨o,ho,e⟩:=z18 (cell / 12)
 #key:∀o:Nat,o<=6->Circ K a (ciT K a (run K a (n+2)) [.fr (.lst (ns.map .int)),.fr (.int 5),.fr (.int cell),.fr (.int m),.fr (.int c),.fr (.int o),.no,.no,.no,.no,.no,.no,.no]).fn:=λo ho=>by
  ~⟨bs,fs,h1,h2,h3,h4⟩:=z60 (K:=K) (a:=a) n ns cell m c o hc ho;subst h1;!⟨m,bs,fs,hm,h,hc,by omega,by omega,h3,h4⟩
 unfold ciO;&;rw[e];&
 by_cases h3:cell / 48%8=3
 ·simp only[h3];&;!key 6 oM
 ·simp only[h3];&;!key o oM
tm x7y(n:Nat)(ns:List Int):Circ K a (run K a (n+3) q1p [.lst (ns.map .int),.int 5]):=by
 rw[q26];unfold q2c;&;rw[q7a (n+1) ns (k:=0) oM];generalize ns.getD (0:Int).toNat 0=x;#a1:=w1h x (show(3:Int)≠0 by omega);#a2:=w1f x (show(0:Int)<3 by omega);#b1:=w1h (x / 3) (show(4:Int)≠0 by omega);#b2:=w1f (x / 3) (show(0:Int)<4 by omega);obtain⟨m,hm⟩:∃m:Nat,x%3=(m:Int):=⟨(x%3).toNat,by omega⟩;obtain⟨c,hc⟩:∃m:Nat,x / 3%4=(m:Int):=⟨(x / 3%4).toNat,by omega⟩;&;rw[hm,hc]
 by_cases h1:x / 48%8=1
 ·rw[if_pos h1]
  by_cases h2:(m:Int)<2
  ·rw[if_pos h2,if_neg oM];!x0o n ns x m 4 oM oM oM
  ·rw[if_neg h2,if_neg oM];!x0o n ns x m c oM oM oM
 ·rw[if_neg h1]
  by_cases h2:x / 48%8=2
  ·rw[if_pos h2,show((c:Int)%3)=((c%3:Nat):Int) by omega];!x0o n ns x 3 (c%3) oM oM oM
  ·rw[if_neg h2];!x0o n ns x m c oM oM oM
nD Told(ns:List Str)(l:Nat)(f:Fm)(x:Str)(B:Nat):Prop:=∃ts d,Tk ns l f ts d/\LexTo (chs x) ts/\d<=B
tm q4i(h:∀l,l<=min (lvl f) 3->Told ns l f (txt ns f) (f.depth-1)){l:Nat}(hl:l<=3):Told ns l f (brk ns l f) f.depth:=by
 unfold brk
 by_cases g:lvl f<l
 ·rw[decide_eq_true g];~⟨ts,d,h1,h2,h3⟩:=h 0 oM;rF⟨_,_,.par h1,?_,by #:=f.depth_pos;omega⟩;rw[z1u];!h2.par
 ·rw[decide_eq_false g];~⟨ts,d,h1,h2,h3⟩:=h l oM;!⟨ts,d,h1,h2,by omega⟩
tm q9y{x:Str}{l B:Nat}(h:Tk ns l f [x] 0)(hx:chs x≠[])(hl:∀c∈chs x,isL c=true):Told ns l f x B:=by
 rF⟨_,_,h,?_,w1g _⟩;#:=LexTo.word hx hl;rw[show tx (chs x)=x from q1l x]at this;!this
tm x1s{l j A B:Nat}{h:Fm}{w:Str}(hw:chs w≠[])(hl:∀c∈chs w,isL c=true)(hf:Told ns i f x A)(hg:Told ns j g y B)(hh:∀{ts us:List Str}{d e:Nat},Tk ns i f ts d->Tk ns j g us e->Tk ns l h (ts++w::us) (max d e)):Told ns l h (mid w x y) (max A B):=by
 ~⟨ts,d,h1,h2,h3⟩:=hf;~⟨us,e,g1,g2,g3⟩:=hg;rF⟨_,_,hh h1 g1,?_,by omega⟩;rw[z1t];#:=h2.mid g2 hw hl;rw[show tx (chs w)=w from q1l w]at this;!this
tm q8p(h:okN x=true)(hc:c∈chs x):97<=c/\c<=122:=by
 #:=(q01 h).2.2.2 c hc
 simpa [isL]using this
tm x5h(h:okN x=true):chs x≠[]/\(chs x).length<=8:=by
 ~⟨_,h1,h2,_⟩:=q01 h;#e:(chs x).length=x.length:=w2o;!⟨λz=>by rw[z]at e;simp at e;omega,by omega⟩
tm q1n{l:List Str}{k:Nat}(h:k<l.length):l.getD k ""∈l:=by
 rw[w0o,w0a h];!w1l h
tm q3p(hx:∀x∈ns,okN x=true):∀(f:Fm),f.inb ns.length->∀l,l<=min (lvl f) 3->Told ns l f (txt ns f) (f.depth-1)
 |.is true,_,l,_=>q9y (x:="yes") (.yn true) (by decide +kernel) (by decide +kernel)
 |.is false,_,l,_=>q9y (x:="no") (.yn false) (by decide +kernel) (by decide +kernel)
 |.at p,h,l,_=>by
  #ok:=hx _ (q1n h);!q9y (x:=ns.getD p "") (.plc h) (x5h ok).1 (q01 ok).2.2.2
 |.not f,h,l,hl=>by
  ~⟨ts,d,h1,h2,h3⟩:=q4i (q3p hx f h) (l:=3) (w0b _);rF⟨_,_,.not oM h1,?_,h3⟩;show LexTo (chs ("not "++brk ns 3 f)) _;rw[q23,show chs ("not ":Str)=[110,111,116]++[32] by decide +kernel,w0k];!h2.not (w:=[110,111,116]) (by decide) (by decide)
 |.and f g,h,l,hl=>x1s (by decide +kernel) (by decide +kernel) (q4i (q3p hx f h.1) (l:=2) oM) (q4i (q3p hx g h.2) (l:=3) oM) λa b=>.and (by #:lvl (.and f g)=2:=rfl;omega) a b
 |.odd f g,h,l,hl=>x1s (by decide +kernel) (by decide +kernel) (q4i (q3p hx f h.1) (l:=1) oM) (q4i (q3p hx g h.2) (l:=2) oM) λa b=>.odd (by #:lvl (.odd f g)=1:=rfl;omega) a b
 |.or f g,h,l,hl=>x1s (by decide +kernel) (by decide +kernel) (q4i (q3p hx f h.1) (l:=0) oM) (q4i (q3p hx g h.2) (l:=1) oM) λa b=>.or (by #:lvl (.or f g)=0:=rfl;omega) a b
nD Cl(x:Str):Bool:=(chs x).all λc=>c != 61&&c != 10
tm q1u(x y:Str):Cl (x++y)=(Cl x&&Cl y):=by unfold Cl;rw[q23,List.all_append]
tm q7d(b:Bool)(h:Cl x=true):Cl (par b x)=true:=by
 unfold par;split
 ·rw[q1u,q1u,h];rfl
 ·!h
tm q50(hn:∀x∈ns,okN x=true):∀f:Fm,Cl (txt ns f)=true
 |.is true=>(by decide:Cl "yes"=true)
 |.is false=>(by decide:Cl "no"=true)
 |.at p=>by
  show Cl (ns.getD p "")=true;rcases w4z p ns.length with h|h
  ·rF w0z.mpr λc hc=>?_
   #:=q8p (hn _ (q1n h)) hc;simp;omega
  ·rw[w0o,w3q h];decide
 |.not f=>by
  show Cl ("not "++par _ _)=true;rw[q1u,q7d _ (q50 hn f)];decide
 |.and f g=>by
  show Cl (mid _ _ _)=true;unfold mid;rw[q1u,q1u,q1u,q1u,q7d _ (q50 hn f),q7d _ (q50 hn g)];decide
 |.or f g=>by
  show Cl (mid _ _ _)=true;unfold mid;rw[q1u,q1u,q1u,q1u,q7d _ (q50 hn f),q7d _ (q50 hn g)];decide
 |.odd f g=>by
  show Cl (mid _ _ _)=true;unfold mid;rw[q1u,q1u,q1u,q1u,q7d _ (q50 hn f),q7d _ (q50 hn g)];decide
tm z9e(h:Cl x=true):61∉chs x/\10∉chs x:=by
 #:=w0z.mp h;!⟨λhc=>absurd (this _ hc) (by decide),λhc=>absurd (this _ hc) (by decide)⟩
nD ynS(b:Bool):Str:=if b=true then "yes" else "no"
nD lineI(xs:List Str):Str:=tx (105::110::xs.flatMap λx=>32::chs x)
nD lineH(x:Str)(b:Bool)(t:Str):Str:="held "++(x++(" "++(ynS b++(" = "++t))))
nD lineO(x t:Str):Str:="out "++(x++(" = "++t))
nD shB(kn:List Str)(f:Fm):Bool:=okAll [] kn&&inF kn.length f
nD shX(a:Adr)(kn:List Str):Addr:=if okAll [] kn=true then a.NoPlace else a.NoName
tm x67{ns:List Str}(q:okAll [] ns=true)(x:Str)(hx:x∈ns):x.length<=8:=(q01 (((q4o [] ns w3a).mp q).1 x hx)).2.2.1
tm q7m(n:Nat)(hl:∀x∈ns,limS x)(hd:ns.length<1000)(f:Fm)(h:2*f.depth<=n+2)(hs:f.size<=800):
  run K a (n+4) q4m [enc f,.tup (ns.map .str)]=if shB ns f=true then .ok (.fr (.str (txt ns f)))else .ex (.ref (shX a ns)):=by
 rw[q9p];unfold x0g;&;#p:=x8r (K:=K) (a:=a) n ns hl hd;unfold shB shX;cases q:okAll [] ns with
 |true=>
  rw[p.1 q];&;rw[q3m (x67 q) f (n+2) h hs];unfold textR;rw[w5k];split<;>rfl
 |false=>
  rw[p.2 q];rfl
tm x1t{b:List S->SR}{j:Nat}{g:α->W×W}{ln:α->Str}{ok:α->Bool}{x:Addr}{P:α->Prop}{E:List Str->List S->Prop}
  (hs:∀acc u e,acc.length<=100->P u->E acc e->if ok u=true then ∃e',b ((e.set i (.fr (g u).1)).set j (.fr (g u).2))=.nx e'/\E (acc++[ln u]) e' else ∃e',b ((e.set i (.fr (g u).1)).set j (.fr (g u).2))=.ex (.ref x) e'):
  ∀(l:List α)(acc:List Str)(e:List S),(∀u∈l,P u)->acc.length+l.length<=100->E acc e->if l.all ok=true then ∃e',forP i j b (l.map g) e=.nx e'/\E (acc++l.map ln) e' else ∃e',forP i j b (l.map g) e=.ex (.ref x) e'
 |[],acc,e,_,_,h=>⟨e,rfl,by rw[w1w,w1a];!h⟩
 |u::l,acc,e,hp,hl,h=>by
  rw[w0t]at hl;#t:=hs acc u e oM (hp u w0i) h;rw[w0g,q2o,w2p];cases q:ok u with
  |false=>
   rw[q]at t;~⟨e',t⟩:=t;rw[t];!⟨e',rfl⟩
  |true=>
   rw[q]at t;~⟨e',t,t2⟩:=t;rw[t,q07];#ih:=x1t hs l (acc++[ln u]) e' (λv hv=>hp v (w0e _ hv)) (by simp;omega) t2
   rw[w0k]at ih;!ih
nD env9(N C:W)(kn acc:List Str)(e:List S):Prop:=∃z4 z5 z6 z7 z8:S,e=[.fr N,.fr C,.fr (.tup (kn.map .str)),.own none (acc.map .str),z4,z5,z6,z7,z8]
nD Sm(x:Str)(f:Fm):Prop:=x.length<=1000/\f.depth<=6/\f.size<=12
tm q77(h:shB kn f=true)(hs:f.size<=12):(txt kn f).length<=120:=by
 #:=q1b (x67 (ns:=kn) (by unfold shB at h;simp at h;!h.1)) f;omega
tm z19(n:Nat)(N C:W)(hl:∀x∈kn,limS x)(hd:kn.length<1000)(acc:List Str)(u:Str×Bool×Fm)(e:List S)(ha:acc.length<=100)(hu:Sm u.1 u.2.2)(he:env9 N C kn acc e):
  if shB kn u.2.2=true then ∃e',q28 K a (run K a (n+14)) ((e.set 4 (.fr (.str u.1))).set 5 (.fr (.tup [.bl u.2.1,enc u.2.2])))=.nx e'/\env9 N C kn (acc++[lineH u.1 u.2.1 (txt kn u.2.2)]) e' else ∃e',q28 K a (run K a (n+14)) ((e.set 4 (.fr (.str u.1))).set 5 (.fr (.tup [.bl u.2.1,enc u.2.2])))=.ex (.ref (shX a kn)) e':=by
 ~⟨z4,z5,z6,z7,z8,rfl⟩:=he;~⟨x,b,f⟩:=u;~⟨h1,h2,h3⟩:=hu;#h1:x.length<=1000:=h1;unfold q28;#sr:=q7m (K:=K) (a:=a) (n+10) hl hd f (by #:f.depth<=6:=h2;omega) (by #:f.size<=12:=h3;omega)
 #e7:(dIf (dTru (dOp ixW (dVar 5) (dC (.int 0)))) (dC (.str "yes")) (dC (.str "no"))) [.fr N,.fr C,.fr (.tup (kn.map .str)),.own none (acc.map .str),.fr (.str x),.fr (.tup [.bl b,enc f]),z6,z7,z8]=.ok (.str (ynS b)) [.fr N,.fr C,.fr (.tup (kn.map .str)),.own none (acc.map .str),.fr (.str x),.fr (.tup [.bl b,enc f]),z6,z7,z8]:=by
  @b<;>&<;>rfl
 cases q:shB kn f with
 |true=>
  #ht:=q77 q h3;rw[q]at sr;rw[if_pos rfl]at sr |-
  simp only[w1y,w1z,x55,x56,e7];&;rw[sr];&;rw[q2l oM];&;rw[q2l (by @b<;>decide)];&;rw[q2l oM];&;rw[if_pos (by simp;omega),q6m];!⟨_,rfl,_,_,_,_,_,by rw[w0n];rfl⟩
 |false=>
  rw[q]at sr;rw[if_neg (by decide)]at sr |-
  simp only[w1y,w1z,x55,x56,e7];&;rw[sr];!⟨_,rfl⟩
tm z61(n:Nat)(N C:W)(hl:∀x∈kn,limS x)(hd:kn.length<1000)(acc:List Str)(u:Str×Fm)(e:List S)(ha:acc.length<=100)(hu:Sm u.1 u.2)(he:env9 N C kn acc e):
  if shB kn u.2=true then ∃e',q27 K a (run K a (n+14)) ((e.set 4 (.fr (.str u.1))).set 8 (.fr (enc u.2)))=.nx e'/\env9 N C kn (acc++[lineO u.1 (txt kn u.2)]) e' else ∃e',q27 K a (run K a (n+14)) ((e.set 4 (.fr (.str u.1))).set 8 (.fr (enc u.2)))=.ex (.ref (shX a kn)) e':=by
 ~⟨z4,z5,z6,z7,z8,rfl⟩:=he;~⟨x,f⟩:=u;~⟨h1,h2,h3⟩:=hu;#h1:x.length<=1000:=h1;unfold q27;#sr:=q7m (K:=K) (a:=a) (n+10) hl hd f (by #:f.depth<=6:=h2;omega) (by #:f.size<=12:=h3;omega);cases q:shB kn f with
 |true=>
  #ht:=q77 q h3;rw[q]at sr;rw[if_pos rfl]at sr |-
  &;rw[sr];&;rw[q2l oM];&;rw[q2l oM];&;rw[if_pos (by simp;omega),q6m];!⟨_,rfl,_,_,_,_,_,by rw[w0n];rfl⟩
 |false=>
  rw[q]at sr;rw[if_neg (by decide)]at sr |-
  &;rw[sr];!⟨_,rfl⟩
nD nmT(ins hn on:List Str):W:=.tup [.tup (ins.map .str),.tup (hn.map .str),.tup (on.map .str)]
nD catT(ls:List Str):Str:=tx (ls.flatMap λl=>chs l++[10])
tm x68(l:Str):catT [l]=l++"\n":=by
 unfold catT;rw[w3n,List.flatMap_nil,w1a,<- q37,show tx (chs l)=l from q1l l];rfl
tm x4o(ls:List Str)(l:Str):catT (ls++[l])=catT ls++(l++"\n"):=by
 rw[<- x68];unfold catT;rw[w5e,<- q37]
tm q9z{g:α->Nat}{b:Nat}:∀l:List α,(∀x∈l,g x<=b)->(l.map g).sum<=l.length*b
 |[],_=>by simp
 |x::l,h=>by
  #h1:=h x w0i;#:=q9z l λy hy=>h y (w0e _ hy)
  simp only[w0g,w5i,w0t,Nat.succ_mul];omega
tm q2n(x:Str):(chs x).length=x.length:=w2o
tm x69{ls:List Str}{b:Nat}(h:∀l∈ls,l.length<=b):(catT ls).length<=ls.length*(b+1):=by
 unfold catT;rw[q0u,w5f];!q9z ls λx hx=>by rw[w0q,q2n];!Nat.succ_le_succ (h x hx)
tm q8q(z:List Nat):∀(l:List (List Nat))(p:List Nat),joinC z (p::l)=p++l.flatMap λq=>z++q
 |[],p=>by simp[joinC]
 |q::l,p=>by
  show p++(z++joinC z (q::l))=_;rw[q8q z l q];simp
tm x83(xs:List Str)(h:∀x∈xs,x.length<=1000)(hl:xs.length<=100):joinW (.str " ") [.lst (.str "in"::xs.map .str)]=some (.str (lineI xs)):=by
 #s:=q9z (g:=List.length) (b:=1000) (xs.map chs) λl hm=>by ~⟨x,hx,rfl⟩:=w0u.mp hm;rw[q2n];!h x hx
 #:=x65 (z:=[32]) (l:=[105,110]::xs.map chs) (by
  rw[w0j]at s;show 2+((xs.map chs).map List.length).sum+((xs.map chs).length+1)*2<=_;rw[w0j];omega)
 rw[w0g,w0y,w1s (f:=(λw=>W.str (tx w)) ∘ chs) (g:=.str) λx _=>congrArg W.str (q1l x),q8q,List.flatMap_map]at this
 !this
tm q6p{d:α}:∀{l:List α}{k:Nat},k<=l.length->(List.range k).map (λi=>l.getD i d)=l.take k:=by
 intro l k h;rF w3d (by simp;omega) λi h1 h2=>?_
 simp at h1 h2 |-
 rw[w0a oM];rfl
nD u1(hn:List Str)(bs:List Bool)(fs:List Fm)(k:Nat):Str×Bool×Fm:=(hn.getD k "", bs.getD k false,fs.getD k (.is false))
nD u2(on:List Str)(gs:List Fm)(k:Nat):Str×Fm:=(on.getD k "", gs.getD k (.is false))
nD ln1(kn hn:List Str)(bs:List Bool)(fs:List Fm)(k:Nat):Str:=lineH (hn.getD k "") (bs.getD k false) (txt kn (fs.getD k (.is false)))
nD ln2(kn on:List Str)(gs:List Fm)(k:Nat):Str:=lineO (on.getD k "") (txt kn (gs.getD k (.is false)))
nD linesL(ins hn on:List Str)(bs:List Bool)(fs:List Fm):List Str:=(lineI ins::(List.range bs.length).map (ln1 (ins++hn) hn bs fs))++(List.range (fs.drop bs.length).length).map (ln2 (ins++hn) on (fs.drop bs.length))
tm z2a{hn:List Str}{bs:List Bool}{fs:List Fm}(hb:hn.length=bs.length)(hf:bs.length<=fs.length):(hn.map W.str).zip (pairW (bs.map .bl) ((fs.take bs.length).map enc))=((List.range bs.length).map (u1 hn bs fs)).map λu=>(.str u.1,.tup [.bl u.2.1,enc u.2.2]):=by
 rF w3d (by simp[pairW];omega) λk h h'=>?_
 #h1:k<bs.length:=by simpa using h'
 #h2:k<hn.length:=by omega
 #h3:k<fs.length:=by omega
 simp[pairW,u1,h1,h2,h3]
tm z2b(ho:on.length=gs.length):(on.map W.str).zip (gs.map enc)=((List.range gs.length).map (u2 on gs)).map λu=>(.str u.1,enc u.2):=by
 rF w3d (by simp;omega) λk h h'=>?_
 #h1:k<gs.length:=by simpa using h'
 #h2:k<on.length:=by omega
 simp[u2,h1,h2]
tm x4p(h:∀x∈xs,x.length<=1000)(hl:xs.length<=5):(lineI xs).length<=6000:=by
 #s:=q9z (g:=λx=>(32::chs x).length) (b:=1001) xs λx hx=>by
  #:=h x hx;rw[w0t,q2n];omega
 unfold lineI;rw[q0u,w0t,w0t,w5f];omega
tm y3o(b:Bool)(h:x.length<=1000)(ht:t.length<=120):(lineH x b t).length<=6000:=by
 #:(ynS b).length<=3:=by @b<;>decide
 unfold lineH;simp only[q2m];rw[show(Str.ofString "held ").length=5 from rfl,show(Str.ofString " ").length=1 from rfl,show(Str.ofString " = ").length=3 from rfl];omega
tm y3p(h:x.length<=1000)(ht:t.length<=120):(lineO x t).length<=6000:=by
 unfold lineO;simp only[q2m];rw[show(Str.ofString "out ").length=4 from rfl,show(Str.ofString " = ").length=3 from rfl];omega
tm y3q(r:Nat->List W->FR){ls:List Str}(h:∀l∈ls,l.length<=6000)(hl:ls.length<=100):∃ws,compD dYes (q46 K a r) [] (ls.map .str)=some ws/\joinW (.str "") [.lst ws]=some (.str (catT ls)):=by
 rF⟨_,q5n .str (λl=>.str (tx (chs l++[10]))) (λ_=>true) ls λl hm=>⟨_,rfl,λ_=>?_⟩,?_⟩
 ·unfold q46;&;rw[q2l (by #:=h l hm;omega)];&;rw[q6m,<- q37,show tx (chs l)=l from q1l l];!⟨_,rfl⟩
 ·rw[w2r.mpr λ_ _=>rfl]
  #s:=q9z (g:=List.length) (b:=6001) (ls.map λl=>chs l++[10]) λl hm=>by ~⟨x,hx,rfl⟩:=w0u.mp hm;rw[w0q,q2n];!Nat.succ_le_succ (h x hx)
  rw[w0j]at s;#:=x65 (z:=[]) (l:=ls.map λl=>chs l++[10]) (by rw[w0j];show _+_*1<=_;omega)
  rw[w0y]at this;rF this.trans ?_;unfold catT;cases ls with
  |nil=>rfl
  |cons x xs=>rw[w0g,q8q,List.flatMap_map,w3n];rfl
tm y3r{P:Fm->Bool}{g:α->Fm}{l:List α}{fs:List Fm}(h:l.map g=fs):(l.all λu=>P (g u))=fs.all P:=by rw[<- h,w4u];rfl
tm q90(n m:Nat){hn:List Str}{bs:List Bool}{fs:List Fm}(hb:hn.length=bs.length)(hf:bs.length<=fs.length)(ho:on.length=fs.length-bs.length)(h5:ins.length<=5)(h6:fs.length<=20)(lim:∀x∈ins++(hn++on),limS x)(sm:∀f∈fs,f.depth<=6/\f.size<=12):
  run K a (n+15) q1g [nmT ins hn on,encC m bs fs]=if fs.all (shB (ins++hn))=true then .ok (.fr (.str (catT (linesL ins hn on bs fs))))else .ex (.ref (shX a (ins++hn))):=by
 #ho2:on.length=(fs.drop bs.length).length:=by rw[w1e];omega
 #hl:∀x∈ins++hn,limS x:=λx h=>lim x (by rw[<- w0k];!w0r _ h)
 #li:∀x∈ins,x.length<=1000:=λx h=>(lim x (w0r _ h)).1
 #g1:∀k,k<bs.length->Sm (hn.getD k "") (fs.getD k (.is false)):=λk hk=>⟨(lim _ (w0c _ (w0r _ (q1n oM)))).1,by rw[w0o,w0a oM];!sm _ (w1l _)⟩
 #g2:∀k,k<(fs.drop bs.length).length->Sm (on.getD k "") ((fs.drop bs.length).getD k (.is false)):=λk hk=>⟨(lim _ (w0c _ (w0c _ (q1n oM)))).1,by rw[w0o,w0a hk];!sm _ (w2z (w1l _))⟩
 #a1:=y3r (P:=shB (ins++hn)) (g:=λu:Str×Bool×Fm=>u.2.2) (l:=(List.range bs.length).map (u1 hn bs fs)) (fs:=fs.take bs.length) (by rw[w0y];!q6p hf)
 #a2:=y3r (P:=shB (ins++hn)) (g:=λu:Str×Fm=>u.2) (l:=(List.range (fs.drop bs.length).length).map (u2 on (fs.drop bs.length))) (fs:=fs.drop bs.length) (by rw[w0y];!(q6p (w0b _)).trans (w2g))
 rw[show fs.all (shB (ins++hn))=((fs.take bs.length).all (shB (ins++hn))&&(fs.drop bs.length).all (shB (ins++hn))) by rw[<- List.all_append,w1x],<- a1,<- a2];#t1:=λN C e=>x1t (P:=λu:Str×Bool×Fm=>Sm u.1 u.2.2) (E:=env9 N C (ins++hn)) (g:=λu=>(.str u.1,.tup [.bl u.2.1,enc u.2.2])) (ln:=λu=>lineH u.1 u.2.1 (txt (ins++hn) u.2.2)) (ok:=λu=>shB (ins++hn) u.2.2) (z19 (K:=K) (a:=a) n N C hl (by simp;omega)) ((List.range bs.length).map (u1 hn bs fs)) [lineI ins] e (λu h=>by ~⟨k,hk,rfl⟩:=w0u.mp h;!g1 k (w1i.mp hk)) (by simp;omega)
 #t2:=λN C acc e=>x1t (P:=λu:Str×Fm=>Sm u.1 u.2) (E:=env9 N C (ins++hn)) (g:=λu=>(.str u.1,enc u.2)) (ln:=λu=>lineO u.1 (txt (ins++hn) u.2)) (ok:=λu=>shB (ins++hn) u.2) (z61 (K:=K) (a:=a) n N C hl (by simp;omega)) ((List.range (fs.drop bs.length).length).map (u2 on (fs.drop bs.length))) acc e (λu h=>by ~⟨k,hk,rfl⟩:=w0u.mp h;!g2 k (w1i.mp hk))
 rw[q5b];unfold q4a nmT encC;&;rw[if_pos (by simp;omega),if_pos (by simp;omega)];&;rw[show joinW (.str " ") [.tup (.str "in"::ins.map .str)]=_ from x83 ins li oM,<- w0n];&;rw[z2a hb hf];#t1:=t1 (nmT ins hn on) (encC m bs fs) _ ⟨.no,.no,.no,.no,.no,rfl⟩;unfold nmT encC at t1;split at t1<;>rename_i q1
 ·~⟨e',t1,z4,z5,z6,z7,z8,rfl⟩:=t1;rw[w0g,w1w]at t1;rw[t1,q1,w5k];generalize hA:[lineI ins]++((List.range bs.length).map (u1 hn bs fs)).map (λu=>lineH u.1 u.2.1 (txt (ins++hn) u.2.2))=A
  &;rw[z2b ho2];#t2:=t2 (nmT ins hn on) (encC m bs fs) A _ (by rw[<- hA];simp;omega) ⟨z4,z5,z6,z7,z8,rfl⟩;unfold nmT encC at t2;split at t2<;>rename_i q2
  ·~⟨e',t2,z4,z5,z6,z7,z8,rfl⟩:=t2
   rw[t2,show(A++((List.range (fs.drop bs.length).length).map (u2 on (fs.drop bs.length))).map λu=>lineO u.1 (txt (ins++hn) u.2))=linesL ins hn on bs fs by
    rw[<- hA];unfold linesL;rw[w0y,w0y];rfl]
   &
   ~⟨ws,r1,r2⟩:=y3q (K:=K) (a:=a) (run K a (n+14)) (ls:=linesL ins hn on bs fs) (λl h=>by
    rw[w4u]at q1 q2;unfold linesL at h;rcases w1c.mp h with h|h
    ·rcases w0d.mp h with rfl|h
     ·!x4p li h5
     ·~⟨k,hk,rfl⟩:=w0u.mp h;#z:=g1 k (w1i.mp hk);!y3o _ z.1 (q77 (w0z.mp q1 k hk) z.2.2)
    ·~⟨k,hk,rfl⟩:=w0u.mp h;#z:=g2 k (w1i.mp hk);!y3p z.1 (q77 (w0z.mp q2 k hk) z.2.2)) (by unfold linesL;simp;omega)
   rw[r1];&;rw[r2];&;rw[if_pos q2,if_pos (by simp[linesL];omega)]
  ·~⟨e',t2⟩:=t2;rw[t2,if_neg q2];rfl
 ·~⟨e',t1⟩:=t1;rw[w0g,w1w]at t1;rw[t1,w3k.mpr q1];rfl
nD kq(p:Pt):Pt:=⟨0,p.word,p.names,p.first, "", p.fm⟩
tm q5o(ps:List Pt)(x:Str):namesOf (ps.map kq) x=namesOf ps x:=by
 induction ps with
 |nil=>rfl
 |cons p ps ih=>rw[w0g,q3o,q3o,ih];rfl
tm x7a(ps:List Pt):taken (ps.map kq)=taken ps:=by unfold taken;rw[q5o,q5o,q5o]
tm z2c(ps:List Pt):lastW (ps.map kq)=lastW ps:=by
 unfold lastW;rw[List.getLast?_map];cases ps.getLast?<;>rfl
tm Stand.of_kq{ps:List Pt}{p:Pt}(h:Stand (ps.map kq) (kq p)):Stand ps p:=
 ⟨h.word,by rw[<- z2c];!h.last,by rw[<- q5o];!h.most,h.ok,by rw[<- x7a];!h.nd,by rw[<- x7a];!h.len⟩
tm y61(ps:List Pt):sheetW (ps.map kq)=sheetW ps:=by
 #e1:formsW (ps.map kq)=formsW ps:=by unfold formsW;rw[List.filter_map,w0y];rfl
 #e2:firstsW (ps.map kq)=firstsW ps:=by unfold firstsW;rw[List.filter_map,w0y];rfl
 unfold sheetW namesT;simp only[e1,e2,q5o]
nD LineOk(K:PySem.W.Frag)(a:Adr)(kn:List Str)(l:Str)(q:Pt):Prop:=wds (chs l)≠[]/\10∉chs l/\l.length<=6000/\∀k:Nat,∃p,(∀n,run K a (n+2) q0z [.str l,.int k]=.ok (.dw .str pk (pw p)))/\kq p=q/\(p.word≠"in"->FormOk kn p)
tm x84{qs:List Pt}(hs:∀b q c,qs=b++q::c->Stand b q):∀(rem:List (Str×Pt))(ah:List Pt)(k:Nat),qs=ah.map kq++rem.map (·.2)->(∀pr∈rem,LineOk K a kn pr.1 pr.2)->∃ps,Rows K a k ah ((rem.map (·.1)).map chs++[[]]) ps/\ps.map kq=rem.map (·.2)/\∀p∈ps,p.word≠"in"->FormOk kn p
 |[],ah,k,_,_=>⟨[],.blank rfl (by decide) .nil,rfl,λ_ h=>nomatch h⟩
 |(l,q)::rem,ah,k,e,ok=>by
  ~⟨h2,h3,h4,h⟩:=ok (l,q) w0i;~⟨p,h5,h6,h7⟩:=h k;#h6:kq p=q:=h6;#h4:l.length<=6000:=h4;~⟨ps,g1,g2,g3⟩:=x84 hs rem (ah++[p]) (k+1) (by rw[e,w0n,w0k,w0g];show _=_++(kq p::_);rw[h6];rfl) λpr hp=>ok pr (w0e _ hp)
  rF⟨p::ps,.part h2 (by rw[q2n];!w0v h4 (by decide)) (λn=>by rw[show tx (chs l)=l from q1l l];!h5 n) (Stand.of_kq ?_) g1,?_,λx hx=>?_⟩
  ·rw[h6];!hs _ _ _ e
  ·rw[w0g,g2,h6];rfl
  ·rcases w0d.mp hx with rfl|hx
   ·!h7
   ·!g3 x hx
tm x85:∀{ls:List Str},(∀l∈ls,10∉chs l)->cutC 10 (ls.flatMap λl=>chs l++[10])=ls.map chs++[[]]
 |[],_=>rfl
 |l::ls,h=>by
  rw[w3n,w0k,show[10]++ls.flatMap (λl=>chs l++[10])=10::ls.flatMap λl=>chs l++[10]from rfl,q8n _ (h l w0i),x85 λx hx=>h x (w0e _ hx)]
  rfl
tm x7b:∀(xs:List Str){p:List Nat},32∉p->(∀x∈xs,okN x=true)->cutC 32 (p++xs.flatMap λx=>32::chs x)=p::xs.map chs
 |[],p,hp,_=>by rw[List.flatMap_nil,w1a,x4n hp];rfl
 |x::xs,p,hp,h=>by
  rw[w3n,w1b,q8n _ hp,x7b xs (λhc=>by #:=q8p (h x w0i) hc;omega) λy hy=>h y (w0e _ hy)]
  rfl
tm q91{p:List Nat}(h:32∉p)(hp:p≠[]):wds (p++32::r)=p::wds r:=by
 unfold wds;rw[q8n _ h,List.filter_cons_of_pos (p:=neB) (decide_eq_true hp)]
tm z2d(h:∀x∈ins,okN x=true)(hl:ins.length<=5):LineOk K a kn (lineI ins) ⟨0, "in", ins,.non, "", g⟩:=by
 #ec:chs (lineI ins)=105::110::(ins.flatMap λx=>32::chs x):=q1k _
 #no:∀c,c≠32->c<97->c∉chs (lineI ins):=λc h1 h2 hc=>by
  rw[ec]at hc;rcases w0d.mp hc with rfl|hc
  ·omega
  ·rcases w0d.mp hc with rfl|hc
   ·omega
   ·~⟨x,hx,hc⟩:=List.mem_flatMap.mp hc;rcases w0d.mp hc with rfl|hc
    ·omega
    ·#:=q8p (h x hx) hc;omega
 #wd:wds (chs (lineI ins))=[105,110]::ins.map chs:=by
  rw[ec];unfold wds;rw[show(105::110::(ins.flatMap λx=>32::chs x))=[105,110]++(ins.flatMap λx=>32::chs x)from rfl,x7b ins (by decide) h]
  rF w2r.mpr λy hy=>?_
  rcases w0d.mp hy with rfl|hy
  ·rfl
  ·~⟨x,hx,rfl⟩:=w0u.mp hy;!decide_eq_true (x5h (h x hx)).1
 #ln:=x4p (λx hx=>by #:=(q01 (h x hx)).2.2.1;omega) hl
 rF⟨by rw[wd];simp,no 10 oM oM,ln,λk=>⟨⟨k, "in", (ins.map chs).map tx,.non, "", g⟩,λn=>?_,?_,λz=>absurd rfl z⟩⟩
 ·#:=z6w (K:=K) (a:=a) (g:=g) n k (cs:=chs (lineI ins)) (by rw[q2n];omega) ⟨no 61 oM oM,no 10 oM oM,wd⟩;rw[show tx (chs (lineI ins))=lineI ins from q1l _]at this;!this
 ·show Pt.mk 0 "in" ((ins.map chs).map tx) .non "" g=_;rw[w0y,w1s (f:=tx ∘ chs) (g:=id) λx _=>q1l x,List.map_id]
tm x86(hn:∀x∈kn,okN x=true)(hf:Fine kn.length f)(k:Nat)(w:Str)(ns:List Str)(v:W):FormOk kn ⟨k,w,ns,v,tx (32::chs (txt kn f)),f⟩:=by
 ~⟨ts,d,t1,t2,t3⟩:=q3p hn f hf.1 0 (w1g _);#h6:=hf.2.1;#h12:=hf.2.2;#hl:=q1b (λx hx=>(q01 (hn x hx)).2.2.1) f
 rF⟨_,ts,d,rfl,by rw[w0t,q2n];omega,t1,?_,by omega⟩;~⟨ps,h1,h2⟩:=t2 1 [] z6r;rw[w1a]at h2;rw[y0c,q7k,h2,z1s,w1a];!h1
tm y3s:∀{cs:List Nat},wds cs=[]->∀c∈cs,c=32
 |[],_,_,h=>nomatch h
 |d::r,h,c,hc=>by
  ~⟨p,ps,e⟩:=x3l 32 r;unfold wds at h;rw[q7l,e]at h
  by_cases hd:d=32
  ·rw[if_pos hd,<- e]at h;rcases w0d.mp hc with rfl|hc
   ·!hd
   ·!y3s (cs:=r) (by unfold wds;simpa [neB]using h) c hc
  ·rw[if_neg hd]at h;simp[neB]at h
tm x87(hn:∀x∈kn,okN x=true)(hf:Fine kn.length f){w:Str}(hw:chs w=l++61::32::chs (txt kn f))(hl:∀c∈l,c=32\/97<=c)(hx:l.length<=50):wds (chs w)≠[]/\10∉chs w/\w.length<=6000/\61∉l/\61∉32::chs (txt kn f):=by
 ~⟨c1,c2⟩:=z9e (q50 hn f);#h12:=hf.2.2;#ln:=q1b (λx hx=>(q01 (hn x hx)).2.2.1) f
 #no:∀c,c≠32->c<97->c∉l:=λc h1 h2 hc=>by #:=hl c hc;omega
 rF⟨λz=>?_,?_,?_,no 61 oM oM,by simp[c1]⟩
 ·#:=y3s z 61 (by rw[hw];simp);omega
 ·rw[hw];simp[no 10 oM oM,c2]
 ·rw[<- q2n,hw,w0q,w0t,w0t,q2n];omega
tm y3t(hn:∀x∈kn,okN x=true)(hf:Fine kn.length f)(hx:okN x=true)(b:Bool):LineOk K a kn (lineH x b (txt kn f)) ⟨0, "held", [x],wT (ynC b), "", f⟩:=by
 #h32:32∉chs x:=λhc=>by #:=q8p hx hc;omega
 #yl:∀c∈ynC b,97<=c:=by @b<;>decide
 #y32:32∉ynC b:=by @b<;>decide
 #yn:ynC b≠[]/\(ynC b).length<=3:=by @b<;>decide
 ~⟨n1,n2⟩:=x5h hx
 #ec:chs (lineH x b (txt kn f))=(heldC++32::(chs x++32::(ynC b++[32])))++61::32::chs (txt kn f):=by
  unfold lineH;simp only[q23];rw[show chs (ynS b)=ynC b by @b<;>rfl,show chs ("held ":Str)=heldC++[32]from rfl,show chs (" ":Str)=[32]from rfl,show chs (" = ":Str)=[32,61,32]from rfl];simp
 #wd:wds (heldC++32::(chs x++32::(ynC b++[32])))=[heldC,chs x,ynC b]:=by rw[q91 (by decide) (by decide),q91 h32 n1,q91 y32 yn.1];rfl
 ~⟨e1,e2,e3,e4,e5⟩:=x87 hn hf ec (λc hc=>by
  simp only[w1c,w0d,w0h,or_false]at hc;rcases hc with hc|rfl|hc|rfl|hc|rfl
  ·!.inr ((by decide:∀c∈heldC,97<=c) c hc)
  ·!.inl rfl
  ·!.inr (q8p hx hc).1
  ·!.inl rfl
  ·!.inr (yl c hc)
  ·!.inl rfl) (by simp[heldC];omega)
 rF⟨e1,e2,e3,λk=>⟨⟨k, "held", [tx (chs x)],wT (ynC b),tx (32::chs (txt kn f)),f⟩,λn=>?_,?_,λ_=>x86 hn hf _ _ _ _⟩⟩
 ·#:=y6t (K:=K) (a:=a) (g:=f) n k (by rw[<- ec,q2n];omega) e4 e5 wd;rw[<- ec,show tx (chs (lineH x b (txt kn f)))=lineH x b (txt kn f)from q1l _]at this;!this
 ·show Pt.mk 0 "held" [tx (chs x)] (wT (ynC b)) "" f=_;rw[show tx (chs x)=x from q1l x]
tm y62(hn:∀x∈kn,okN x=true)(hf:Fine kn.length f)(hx:okN x=true):LineOk K a kn (lineO x (txt kn f)) ⟨0, "out", [x],.non, "", f⟩:=by
 #h32:32∉chs x:=λhc=>by #:=q8p hx hc;omega
 ~⟨n1,n2⟩:=x5h hx
 #ec:chs (lineO x (txt kn f))=(outC++32::(chs x++[32]))++61::32::chs (txt kn f):=by
  unfold lineO;simp only[q23];rw[show chs ("out ":Str)=outC++[32]from rfl,show chs (" = ":Str)=[32,61,32]from rfl];simp
 #wd:wds (outC++32::(chs x++[32]))=[outC,chs x]:=by rw[q91 (by decide) (by decide),q91 h32 n1];rfl
 ~⟨e1,e2,e3,e4,e5⟩:=x87 hn hf ec (λc hc=>by
  simp only[w1c,w0d,w0h,or_false]at hc;rcases hc with hc|rfl|hc|rfl
  ·!.inr ((by decide:∀c∈outC,97<=c) c hc)
  ·!.inl rfl
  ·!.inr (q8p hx hc).1
  ·!.inl rfl) (by simp[outC];omega)
 rF⟨e1,e2,e3,λk=>⟨⟨k, "out", [tx (chs x)],.non,tx (32::chs (txt kn f)),f⟩,λn=>?_,?_,λ_=>x86 hn hf _ _ _ _⟩⟩
 ·#:=z1w (K:=K) (a:=a) (g:=f) n k (by rw[<- ec,q2n];omega) e4 e5 wd;rw[<- ec,show tx (chs (lineO x (txt kn f)))=lineO x (txt kn f)from q1l _]at this;!this
 ·show Pt.mk 0 "out" [tx (chs x)] .non "" f=_;rw[show tx (chs x)=x from q1l x]
nD qI(ins:List Str):Pt:=⟨0, "in", ins,.non, "", .is false⟩
nD qH(hn:List Str)(bs:List Bool)(fs:List Fm)(k:Nat):Pt:=⟨0, "held", [hn.getD k ""],wT (ynC (bs.getD k false)), "", fs.getD k (.is false)⟩
nD qO(on:List Str)(gs:List Fm)(k:Nat):Pt:=⟨0, "out", [on.getD k ""],.non, "", gs.getD k (.is false)⟩
nD qL(ins hn on:List Str)(bs:List Bool)(fs gs:List Fm)(i j:Nat):List Pt:=qI ins::((List.range i).map (qH hn bs fs)++(List.range j).map (qO on gs))
tm x7z(ps qs:List Pt)(x:Str):namesOf (ps++qs) x=namesOf ps x++namesOf qs x:=by unfold namesOf;rw[w5l,w5e]
tm x4q{f:Nat->Pt}{g:Nat->Str}{v:Str}(hf:∀k,(f k).word=v/\(f k).names=[g k])(x:Str)(l:List Nat):namesOf (l.map f) x=if v=x then l.map g else[]:=by
 induction l with
 |nil=>simp[namesOf]
 |cons k l ih=>
  rw[w0g,q3o,(hf k).1,(hf k).2,ih];split<;>rfl
tm q8r{hn:List Str}{bs:List Bool}{fs:List Fm}{j:Nat}(hi:i<=hn.length)(hj:j<=on.length)(x:Str):namesOf (qL ins hn on bs fs gs i j) x=(if "in"=x then ins else[])++((if "held"=x then hn.take i else[])++(if "out"=x then on.take j else[])):=by
 unfold qL;rw[q3o,x7z,x4q (f:=qH hn bs fs) (g:=λk=>hn.getD k "") (v:="held") (λk=>⟨rfl,rfl⟩) x,x4q (f:=qO on gs) (g:=λk=>on.getD k "") (v:="out") (λk=>⟨rfl,rfl⟩) x,q6p hi,q6p hj]
 rfl
tm y0j{hn:List Str}{bs:List Bool}{fs:List Fm}{j:Nat}(hi:i<=hn.length)(hj:j<=on.length):namesOf (qL ins hn on bs fs gs i j) "in"=ins:=by rw[q8r hi hj,if_pos rfl,if_neg (by decide),if_neg (by decide),w1a,w1a]
tm x0p{hn:List Str}{bs:List Bool}{fs:List Fm}{j:Nat}(hi:i<=hn.length)(hj:j<=on.length):namesOf (qL ins hn on bs fs gs i j) "held"=hn.take i:=by rw[q8r hi hj,if_neg (by decide),if_pos rfl,if_neg (by decide),w1a];rfl
tm x7c{hn:List Str}{bs:List Bool}{fs:List Fm}{j:Nat}(hi:i<=hn.length)(hj:j<=on.length):namesOf (qL ins hn on bs fs gs i j) "out"=on.take j:=by rw[q8r hi hj,if_neg (by decide),if_neg (by decide),if_pos rfl];rfl
tm x5i{hn:List Str}{bs:List Bool}{fs:List Fm}{j:Nat}(hi:i<=hn.length)(hj:j<=on.length):taken (qL ins hn on bs fs gs i j)=ins++(hn.take i++on.take j):=by unfold taken;rw[y0j hi hj,x0p hi hj,x7c hi hj]
tm x4r(ps:List Pt)(p:Pt):lastW (ps++[p])=p.word:=by unfold lastW;rw[List.getLast?_append];rfl
tm x88{hn:List Str}{bs:List Bool}{fs:List Fm}:lastW (qL ins hn on bs fs gs i 0)∈behind "held":=by
 cases i with
 |zero=>!w0i
 |succ i=>
  unfold qL;rw[w4a,w0n,List.range_zero,w1w,w1a,<- w1b];show lastW (_++[_])∈_;rw[x4r];!w0e _ w0i
tm y63{hn:List Str}{bs:List Bool}{fs:List Fm}{j:Nat}:lastW (qL ins hn on bs fs gs i j)∈behind "out":=by
 cases j with
 |zero=>!(by decide:∀x∈behind "held", x∈behind "out") _ x88
 |succ j=>
  unfold qL;rw[w4a,w0n,<- w0k,<- w1b];show lastW (_++[_])∈_;rw[x4r];!w0e _ (w0e _ w0i)
tm x4s{l:List Str}{k:Nat}(h:k<l.length):l.take k++[l.getD k ""]=l.take (k+1):=by
 rw[w2x,w0a h,w0o,w0a h];rfl
tm stands{hn:List Str}{bs:List Bool}{fs:List Fm}(h3:ins.length<=3)(h4:hn.length<=4)(h6:on.length<=6)(nd:(ins++(hn++on)).Nodup)(ok:∀x∈ins++(hn++on),okN x=true/\x∉rowW)(b:List Pt)(q:Pt)(d:List Pt)(e:qL ins hn on bs fs gs hn.length on.length=b++q::d):Stand b q:=by
 cases b with
 |nil=>
  ~⟨rfl,_⟩:=List.cons.inj e;!⟨(by decide:("in":Str)∈rowW),(by decide:lastW []∈behind "in"),h3,λx hx=>ok x (w0r _ hx),(w2d.mp nd).1,by decide⟩
 |cons p b=>
  ~⟨rfl,e1⟩:=List.cons.inj e
  replace e:(List.range hn.length).map (qH hn bs fs)++(List.range on.length).map (qO on gs)=b++q::d:=e1
  #hb:b=((List.range hn.length).map (qH hn bs fs)++(List.range on.length).map (qO on gs)).take b.length:=by rw[e,List.take_left' rfl]
  #hq:((List.range hn.length).map (qH hn bs fs)++(List.range on.length).map (qO on gs))[b.length]?=some q:=by rw[e,w1d (w0b _),Nat.sub_self];rfl
  generalize b.length=i at hb hq;rcases w4z i hn.length with h|h
  ·rw[w1u (by simpa using h),w1t,w3z h]at hq;@hq;rw[List.take_append_of_le_length (by simp;omega),<- w3v,List.take_range,w2m oM]at hb;#e:qI ins::b=qL ins hn on bs fs gs i 0:=by rw[hb];unfold qL;simp
   rw[e];rF⟨(by decide:("held":Str)∈rowW),x88,?_,λx hx=>?_,?_,?_⟩
   ·show(namesOf _ "held"++[hn.getD i ""]).length<=4;rw[x0p oM oM];simp;omega
   ·rw[w1k.mp hx];!ok _ (w0c _ (w0r _ (q1n h)))
   ·show(_++[hn.getD i ""]).Nodup;rw[x5i oM oM,List.take_zero,w1a,w0k,x4s h];!nd.sublist (.append (.refl _) ((w4i _ _).trans (List.sublist_append_left _ _)))
   ·rw[x5i oM oM];simp;omega
  ·~⟨j,rfl⟩:=Nat.exists_eq_add_of_le h;rw[w1d (by simp),w0j,List.length_range,w3j,w1t]at hq;rcases w4z j on.length with hj|hj
   ·rw[w3z hj]at hq;@hq;rw[List.take_append,w2f (by simp),w0j,List.length_range,w3j,<- w3v,List.take_range,w2m oM]at hb;#e:qI ins::b=qL ins hn on bs fs gs hn.length j:=by rw[hb];rfl
    rw[e];rF⟨(by decide:("out":Str)∈rowW),y63,?_,λx hx=>?_,?_,?_⟩
    ·show(namesOf _ "out"++[on.getD j ""]).length<=6;rw[x7c oM oM];simp;omega
    ·rw[w1k.mp hx];!ok _ (w0c _ (w0c _ (q1n hj)))
    ·show(_++[on.getD j ""]).Nodup;rw[x5i oM oM,w0k,w0k,x4s hj,w2g];!nd.sublist (.append (.refl _) (.append (.refl _) (w4i _ _)))
    ·rw[x5i oM oM];simp;omega
   ·rw[w3q (by simpa using hj)]at hq;@hq
tm y64{hn:List Str}{bs:List Bool}{fs:List Fm}(hb:hn.length=bs.length)(hf:bs.length<=fs.length)(ho:on.length=fs.length-bs.length):sheetW (qL ins hn on bs fs (fs.drop bs.length) hn.length on.length)=.tup [nmT ins hn on,encC ins.length bs fs]:=by
 #e1:formsW (qL ins hn on bs fs (fs.drop bs.length) hn.length on.length)=fs.map enc:=by
  unfold formsW qL
  rw[w4n (p:=inB) (a:=qI ins) (show ¬(!decide (("in":Str)="in"))=true by decide),w2r.mpr λp hp=>by
   rcases w1c.mp hp with hp|hp<;>(~⟨k,_,rfl⟩:=w0u.mp hp;rfl)]
  rw[w0n,w0y,w0y];#key:∀(l:List Fm)(k:Nat),k<=l.length->(List.range k).map (λk=>enc (l.getD k (.is false)))=(l.take k).map enc:=λl k h=>by rw[<- q6p (d:=Fm.is false) h,w0y];rfl
  rF(congr (congrArg _ (key fs hn.length oM)) (key (fs.drop bs.length) on.length (by rw[w1e];omega))).trans ?_;rw[w2f (l:=fs.drop bs.length) (by rw[w1e];omega),<- w0n,hb,w1x]
 #e2:firstsW (qL ins hn on bs fs (fs.drop bs.length) hn.length on.length)=bs.map .bl:=by
  unfold firstsW qL;rw[w4n (p:=heldB) (a:=qI ins) (show ¬decide (("in":Str)="held")=true by decide),w5l,w2r.mpr (λp hp=>by ~⟨k,_,rfl⟩:=w0u.mp hp;rfl),List.filter_eq_nil_iff.mpr (λp hp=>by ~⟨k,_,rfl⟩:=w0u.mp hp;show ¬decide (("out":Str)="held")=true;decide),w1a,w0y]
  #:(List.range hn.length).map ((λp:Pt=>W.bl (yesB p.first)) ∘ qH hn bs fs)=((List.range hn.length).map λk=>bs.getD k false).map .bl:=by
   rw[w0y];rF w1s λk _=>?_
   show W.bl (yesB (wT (ynC (bs.getD k false))))=.bl (bs.getD k false);cases bs.getD k false<;>rfl
  rw[this,q6p oM,hb,w2g]
 unfold sheetW namesT nmT encC;rw[e1,e2];unfold rowW;simp only[w0g,w1w];rw[y0j (w0b _) (w0b _),x0p (w0b _) (w0b _),x7c (w0b _) (w0b _),w2g,w2g,w0j,w3v,w4m]
nD prL(ins hn on:List Str)(bs:List Bool)(fs:List Fm):List (Str×Pt):=(lineI ins,qI ins)::((List.range bs.length).map (λk=>(ln1 (ins++hn) hn bs fs k,qH hn bs fs k))++(List.range (fs.drop bs.length).length).map λk=>(ln2 (ins++hn) on (fs.drop bs.length) k,qO on (fs.drop bs.length) k))
tm x7d{hn:List Str}{bs:List Bool}{fs:List Fm}(hb:hn.length=bs.length)(hf:bs.length<=fs.length)(ho:on.length=fs.length-bs.length)(h3:ins.length<=5)(ok:∀x∈ins++(hn++on),okN x=true/\x∉rowW)(fine:∀f∈fs,Fine (ins++hn).length f)(pr:Str×Pt)(hp:pr∈prL ins hn on bs fs):LineOk K a (ins++hn) pr.1 pr.2:=by
 #ho2:on.length=(fs.drop bs.length).length:=by rw[w1e];omega
 #kn:∀x∈ins++hn,okN x=true:=λx hx=>(ok x (by rw[<- w0k];!w0r _ hx)).1
 #gf:∀(l:List Fm)(k:Nat),k<l.length->(∀f∈l,f∈fs)->Fine (ins++hn).length (l.getD k (.is false)):=λl k h hl=>by
  rw[w0o,w0a h];!fine _ (hl _ (w1l h))
 rcases w0d.mp hp with rfl|hp
 ·!z2d (λx hx=>(ok x (w0r _ hx)).1) oM
 ·rcases w1c.mp hp with hp|hp
  ·~⟨k,hk,rfl⟩:=w0u.mp hp;#hk:=w1i.mp hk;!y3t kn (gf fs k oM λ_ h=>h) (ok _ (w0c _ (w0r _ (q1n oM)))).1 _
  ·~⟨k,hk,rfl⟩:=w0u.mp hp;#hk:=w1i.mp hk;!y62 kn (gf _ k hk λ_ h=>w2z h) (ok _ (w0c _ (w0c _ (q1n oM)))).1
tm x7e{hn:List Str}{bs:List Bool}{fs:List Fm}:linesL ins hn on bs fs=(prL ins hn on bs fs).map (·.1):=by simp[linesL,prL,Function.comp_def]
tm y3u(n:Nat){hn:List Str}{bs:List Bool}{fs:List Fm}(hb:hn.length=bs.length)(hf:bs.length<=fs.length)(ho:on.length=fs.length-bs.length)(h3:ins.length<=3)(h4:hn.length<=4)(h6:on.length<=6)(nd:(ins++(hn++on)).Nodup)(ok:∀x∈ins++(hn++on),okN x=true/\x∉rowW)(fine:∀f∈fs,Fine (ins++hn).length f):
  run K a (n+6) q2h [.str (catT (linesL ins hn on bs fs))]=.ok (.fr (.tup [nmT ins hn on,encC ins.length bs fs])):=by
 #ho2:on.length=(fs.drop bs.length).length:=by rw[w1e];omega
 #kn:∀x∈ins++hn,okN x=true:=λx hx=>(ok x (by rw[<- w0k];!w0r _ hx)).1
 #eQ:qL ins hn on bs fs (fs.drop bs.length) hn.length on.length=(prL ins hn on bs fs).map (·.2):=by
  unfold qL prL;rw[hb,ho2];simp[Function.comp_def]
 #lok:=x7d (K:=K) (a:=a) hb hf ho oM ok fine;#plen:(prL ins hn on bs fs).length<=11:=by unfold prL;simp;omega
 rw[x7e];~⟨ps,r1,r2,r3⟩:=x84 (K:=K) (a:=a) (kn:=ins++hn) (stands (bs:=bs) (fs:=fs) (gs:=fs.drop bs.length) h3 h4 h6 nd ok) (prL ins hn on bs fs) [] 0 eQ lok;#len:=x69 (ls:=(prL ins hn on bs fs).map (·.1)) (b:=6000) λl h=>by ~⟨pr,hp,rfl⟩:=w0u.mp h;!(lok pr hp).2.2.1
 rw[w0j]at len;unfold catT at len |-
 rw[q0u]at len;#len:(((prL ins hn on bs fs).map (·.1)).flatMap λl=>chs l++[10]).length<=100000:=by omega
 #R:=r1;rw[<- x85 λl h=>by ~⟨pr,hp,rfl⟩:=w0u.mp h;!(lok pr hp).2.1]at R
 #eP:ps.map kq=qL ins hn on bs fs (fs.drop bs.length) hn.length on.length:=by rw[r2,eQ]
 #nk:∀x,namesOf ps x=namesOf (qL ins hn on bs fs (fs.drop bs.length) hn.length on.length) x:=λx=>by rw[<- q5o,eP]
 #pl:ps.length=(prL ins hn on bs fs).length:=by #:=congrArg List.length r2;simpa using this
 #sh:Sheet (ins++hn) ps:=⟨λz=>by rw[z]at pl;unfold prL at pl;simp at pl,by omega,kn,by rw[<- w0k]at nd;!(w2d.mp nd).1,by simp;omega,λx=>by
  rw[nk,q8r (w0b _) (w0b _)];simp only[w0q];split<;>split<;>split<;>simp<;>omega,by rw[nk,nk,y0j (w0b _) (w0b _),x0p (w0b _) (w0b _),w2g],r3⟩
 rw[y6x n len R sh λp hp hw=>?_,<- y61,eP,y64 hb hf ho]
 #:kq p∈qL ins hn on bs fs (fs.drop bs.length) hn.length on.length:=by rw[<- eP];!w4b hp
 unfold qL at this;rcases w0d.mp this with e|e
 ·#e:=congrArg Pt.word e;rw[show(kq p).word=p.word from rfl,hw]at e;!absurd e (show("held":Str)≠"in" by decide)
 ·rcases w1c.mp e with e|e
  ·~⟨k,_,e⟩:=w0u.mp e;!⟨_,(congrArg Pt.first e).symm⟩
  ·~⟨k,_,e⟩:=w0u.mp e;#e:=congrArg Pt.word e;rw[show(kq p).word=p.word from rfl,hw]at e;!absurd e (show("out":Str)≠"held" by decide)
tm q4t{bs:List Bool}{fs:List Fm}(h:bs.length<=fs.length):(pairW (bs.map .bl) ((fs.take bs.length).map enc)).length=bs.length:=by
 unfold pairW;simp;omega
tm z2e{l:List W}{k j:Nat}(h:k<=j)(hj:j<=l.length):cutW l (some (k:Int)) (some (j:Int))=(l.drop k).take (j-k):=by
 unfold cutW;rw[HT.sIx_nat,HT.sIx_nat,w2m hj,w2m oM]
tm y3v(n:Nat)(ns:List Int)(m:Nat)(bs:List Bool)(fs:List Fm)(h1:m+bs.length<=5)(h2:bs.length<=fs.length)(h3:fs.length<=bs.length+6):∃xs:List Str,xs.length=m+fs.length/\xs.Nodup/\(∀x∈xs,okN x=true/\x∉rowW)/\run K a (n+3) q2j [.lst (ns.map .int),encC m bs fs]=.ok (.fr (.tup [.tup ((xs.take m).map .str),.tup (((xs.drop m).take bs.length).map .str),.tup ((xs.drop (m+bs.length)).map .str)])):=by
 ~⟨xs,x1,x2,x3,x4⟩:=y6y (K:=K) (a:=a) n (ns.getD 9 0) (m+fs.length) oM;rF⟨xs,x1,x2,x3,?_⟩;rw[q5m];unfold q48 encC;&;rw[q4t h2,q7a (n+1) ns (k:=9) oM];&;rw[show((m:Int)+(bs.length:Int)+(((fs.drop bs.length).map enc).length:Int))=((m+fs.length:Nat):Int) by simp;omega,x4];&;rw[x2w (by simp;omega),show((m:Int)+(bs.length:Int))=((m+bs.length:Nat):Int) by omega,q7c (by simp;omega)];rw[z2e oM (by simp;omega),w3j,<- w3v,<- w4m,<- w4m,<- w3v]
tm x0q{l:List Str}{k:Nat}(h:k<l.length):atI (l.map W.str) (k:Int)=some (.str (l.getD k "")):=by
 rw[z1h h,w0o,w0a h];rfl
tm z9f(b:Bool):atI [W.str "no", .str "yes"] (if b=true then 1 else 0)=some (.str (ynS b)):=by @b<;>rfl
tm z62{l:List Fm}{k:Nat}(h:k<l.length):atI (l.map enc) (k:Int)=some (enc (l.getD k (.is false))):=q4j (by rw[w1t,w0a h,w0o,w0a h];rfl)
tm x3m{bs:List Bool}{fs:List Fm}{k:Nat}(h:k<bs.length)(h2:bs.length<=fs.length):atI (pairW (bs.map .bl) ((fs.take bs.length).map enc)) (k:Int)=some (.tup [.bl (bs.getD k false),enc (fs.getD k (.is false))]):=by
 #h3:k<fs.length:=by omega
 rF q4j ?_;unfold pairW;simp[w2h,List.getD,h,h3]
nD Pl(d:Nat)(w:W):Prop:=eqW w w=some true/\depW w<=d
tm x7f:∀{ws:List W},(∀w∈ws,Pl d w)->eqWs ws ws=some true/\depWs ws<=d
 |[],_=>⟨rfl,w1g _⟩
 |w::ws,h=>by
  ~⟨h1,h2⟩:=h w w0i;~⟨h3,h4⟩:=x7f λx hx=>h x (w0e w hx)
  rF⟨?_,Nat.max_le.mpr ⟨h2,h4⟩⟩;show(match eqW w w,eqWs ws ws with|some x,some y=>some (x&&y)|_,_=>none)=_;rw[h1,h3];rfl
tm q7e(h:∀w∈ws,Pl d w):Pl (d+1) (.tup ws):=by
 ~⟨h1,h2⟩:=x7f h;rF⟨by rw[eqW];!h1,?_⟩;show depWs ws+1<=_;omega
tm z63(d:Nat)(x:Str):Pl d (.str x):=⟨by simp[eqW],w1g _⟩
tm z9g(ins hn on:List Str):Pl 2 (nmT ins hn on):=by
 #:∀l:List Str,Pl 1 (.tup (l.map .str)):=λl=>q7e λw hw=>by ~⟨x,_,rfl⟩:=w0u.mp hw;!z63 0 x
 rF q7e λw hw=>?_
 simp only[w0d,w0h,or_false]at hw;rcases hw with rfl|rfl|rfl<;>!this _
tm y3w(h:f.depth<=6):Pl 6 (enc f):=⟨q4s f,w0v (q3n f) h⟩
tm y7q{e:Nat}{w:W}(h:Pl d w)(he:d<=e):Pl e w:=⟨h.1,w0v h.2 he⟩
tm pl_P{bs:List Bool}{fs:List Fm}(h:∀f∈fs,f.depth<=6)(w:W)(hw:w∈pairW (bs.map .bl) ((fs.take bs.length).map enc)):Pl 7 w:=by
 unfold pairW at hw;~⟨⟨x,y⟩,hp,rfl⟩:=w0u.mp hw;~⟨hx,hy⟩:=w3w hp;~⟨b,_,rfl⟩:=w0u.mp hx;~⟨f,hf,rfl⟩:=w0u.mp hy;rF q7e λw hw=>?_
 simp only[w0d,w0h,or_false]at hw;rcases hw with rfl|rfl
 ·!⟨by simp[eqW],w1g _⟩
 ·!y3w (h f (List.mem_of_mem_take hf))
tm pl_G{fs:List Fm}(h:∀f∈fs,f.depth<=6)(w:W)(hw:w∈(fs.drop n).map enc):Pl 7 w:=by
 ~⟨f,hf,rfl⟩:=w0u.mp hw;!y7q (y3w (h f (w2z hf))) oM
tm pl_C{bs:List Bool}{fs:List Fm}(h:∀f∈fs,f.depth<=6):Pl 9 (encC m bs fs):=by
 rF q7e λw hw=>?_
 simp only[w0d,w0h,or_false]at hw;rcases hw with rfl|rfl|rfl
 ·!⟨by simp[eqW],w1g _⟩
 ·!q7e (pl_P h)
 ·!q7e (pl_G h)
tm q92(hk:okAll [] kn=true)(h:f.inb kn.length):shB kn f=true:=by
 unfold shB;rw[hk,(q4q _ f).mpr h];rfl
tm y65(n:Nat)(w0 v0 v2 y0 y2:W){hn:List Str}{bs:List Bool}{fs:List Fm}(hl:∀x∈kn,limS x)(h5:kn.length<=9)(hk:okAll [] kn=true)(k:Nat)(h1:k<bs.length)(hb:bs.length<=fs.length)(h2:k<hn.length)(hx:∀x∈hn,x.length<=8)(hg:∀f∈fs,Fine kn.length f)(due:Str)(hd:due.length<=100000)(z6 z7 z8 z9:S):
  ∃t6 t7,x0j K a (run K a (n+15)) [.fr w0,.fr (.tup [v0,.tup (pairW (bs.map .bl) ((fs.take bs.length).map enc)),v2]),.fr (.tup [y0,.tup (hn.map .str),y2]),.fr (.tup (kn.map .str)),.fr (.str due),.fr (.int k),z6,z7,z8,z9]=.nx [.fr w0,.fr (.tup [v0,.tup (pairW (bs.map .bl) ((fs.take bs.length).map enc)),v2]),.fr (.tup [y0,.tup (hn.map .str),y2]),.fr (.tup (kn.map .str)),.fr (.str (due++(ln1 kn hn bs fs k++"\n"))),.fr (.int k),t6,t7,z8,z9]:=by
 #h3:k<fs.length:=by omega
 #hf:Fine kn.length (fs.getD k (.is false)):=by
  rw[w0o,w0a h3];!hg _ (w1l h3)
 ~⟨f1,f2,f3⟩:=hf;#ht:=q77 (q92 hk f1) f3;#hy:(ynS (bs.getD k false)).length<=3:=by cases bs.getD k false<;>decide
 #hx:=hx _ (q1n h2);unfold x0j;&;rw[x3m h1 hb];&;rw[z9f];&;rw[x3m h1 hb];&;rw[q7m (n+11) hl oM _ oM oM,if_pos (q92 hk f1)];&;rw[x0q h2];&;#c1:("held ":Str).length=5:=rfl;#c2:(" = ":Str).length=3:=rfl;#c3:(" ":Str).length=1:=rfl;#c4:("\n":Str).length=1:=rfl;rw[if_pos oM];&
 iterate 6
  rw[if_pos (by simp only[q2m];omega)];&
 unfold ln1 lineH;simp only[x4l];!⟨_,_,rfl⟩
tm z2f(n:Nat)(w0 v0 v1 y0 y1:W)(hl:∀x∈kn,limS x)(h5:kn.length<=9)(hk:okAll [] kn=true)(k:Nat)(h1:k<gs.length)(h2:k<on.length)(hx:∀x∈on,x.length<=8)(hg:∀f∈gs,Fine kn.length f)(due:Str)(hd:due.length<=100000)(z6 z7 z8 z9:S):
  x0i K a (run K a (n+15)) [.fr w0,.fr (.tup [v0,v1,.tup (gs.map enc)]),.fr (.tup [y0,y1,.tup (on.map .str)]),.fr (.tup (kn.map .str)),.fr (.str due),.fr (.int k),z6,z7,z8,z9]=.nx [.fr w0,.fr (.tup [v0,v1,.tup (gs.map enc)]),.fr (.tup [y0,y1,.tup (on.map .str)]),.fr (.tup (kn.map .str)),.fr (.str (due++(ln2 kn on gs k++"\n"))),.fr (.int k),z6,z7,z8,z9]:=by
 #hf:Fine kn.length (gs.getD k (.is false)):=by
  rw[w0o,w0a h1];!hg _ (w1l h1)
 ~⟨f1,f2,f3⟩:=hf;#ht:=q77 (q92 hk f1) f3;#hx:=hx _ (q1n h2);#c1:("out ":Str).length=4:=rfl;#c2:(" = ":Str).length=3:=rfl;#c4:("\n":Str).length=1:=rfl;unfold x0i;&;rw[if_pos oM];&;rw[x0q h2];&
 iterate 2
  rw[if_pos (by simp only[q2m];omega)];&
 rw[z62 h1];&;rw[q7m (n+11) hl oM _ oM oM,if_pos (q92 hk f1)];&
 iterate 2
  rw[if_pos (by simp only[q2m];omega)];&
 unfold ln2 lineO;simp only[x4l]
tm x89(w:W)(m:Nat)(h:m<=1000):repW (.lst [w]) (.int (m:Int))=some (.lst (List.replicate m w)):=by
 rw[z5w,if_pos ⟨q32 oM oM,by simp;omega⟩,w2b];congr 2
 induction m with
 |zero=>rfl
 |succ m ih=>rw[w1n,w2w,ih oM,w1n];rfl
tm x9a(n:Nat){N C:W}{c:Addr}(hx:exmOne K (.ref c) (.ref a.CircuitError)=some true)(hc:excClsIn K c=true)(h1:kitOne K (.ref c) (.ref a.NoName)=some b)(h2:kitOne K (.ref c) (.ref a.NoPlace)=some (!b))(h3:kitOne K (.ref c) (.type "ValueError")=some true)(h:run K a n q1g [N,C]=.ex (.ref c)):run K a (n+1) q1m [N,C]=.ok (.fr (.str (if b=true then "name" else "place"))):=by
 rw[q59];unfold q5v;&;rw[h];&;rw[z6j hx];&;rw[show isW (.exc (.ref c)) .non=some (.bl false)from rfl];&;rw[q7x hc h1];&;#r0:∀w:W,repW (.lst [w]) (.int 0)=some (.lst []):=λw=>x89 w 0 (by decide)
 #r1:∀w:W,repW (.lst [w]) (.int 1)=some (.lst [w]):=λw=>x89 w 1 (by decide)
 @b
 ·rw[if_neg (by decide),r0];&;rw[q7x hc h2];&;rw[r1];&;rw[q7x hc h3];&
 ·rw[if_pos rfl,r1];&;rw[q7x hc h2];&;rw[r0];&;rw[q7x hc h3];&
tm x9b(M:Exs K mg a)(n:Nat){N C:W}(h:run K a n q1g [N,C]=.ex (.ref (shX a kn))):run K a (n+1) q1m [N,C]=.ok (.fr (.str (if okAll [] kn=true then "place" else "name"))):=by
 unfold shX at h;cases q:okAll [] kn with
 |true=>
  rw[q,if_pos rfl]at h;!x9a n M.x_NoPlace_CircuitError M.c_NoPlace M.k_NoPlace_NoName M.k_NoPlace_NoPlace M.k_NoPlace_ValueError h
 |false=>
  rw[q,if_neg (by decide)]at h;!x9a n M.x_NoName_CircuitError M.c_NoName M.k_NoName_NoName M.k_NoName_NoPlace M.k_NoName_ValueError h
tm x0r(n:Nat)(ws:List W)(w:W)(k:Nat)(h:k<ws.length)(hl:ws.length<=100):run K a (n+1) q15 [.tup ws,.int k,w]=.ok (.fr (.tup (ws.set k w))):=by
 rw[q68];unfold q6g;&;rw[y7m (by rw[HT.sIx_nat];omega),x2w oM];&;rw[if_pos (by simp;omega)];&;rw[show((k:Int)+1)=((k+1:Nat):Int) by omega,y7m (by rw[HT.sIx_nat];omega),q7c oM];&;rw[if_pos (by simp;omega),List.set_eq_take_append_cons_drop,if_pos h];simp
nD badW:List Str:=["and", "abcdefghi", "aB", "a1", "", "not", "a b", "or"]
tm y3x:∀x∈badW,okN x=false/\limS x:=by
 intro x h;simp only[badW,w0d,w0h,or_false]at h;rcases h with rfl|rfl|rfl|rfl|rfl|rfl|rfl|rfl<;>!⟨by decide,by decide,by decide⟩
tm z2g(hp:p<kn.length)(hy:y≠kn.getD p "")(hb:y∈badW\/y∈kn):okAll [] (kn.set p y)=false:=by
 rF w3k.mpr λh=>?_
 ~⟨h1,h2⟩:=(q4o [] _ w3a).mp h;rcases hb with hb|hb
 ·#:=h1 y (List.mem_set hp y);rw[(y3x y hb).1]at this;!absurd this (by decide)
 ·~⟨q,hq,e⟩:=w5a.mp hb;#hpq:p≠q:=λz=>hy (by subst z;simp[hq,e])
  #n2:(kn.set p y).Nodup:=h2;#:=(List.getElem_inj (i:=p) (j:=q) (h₀:=by simpa using hp) (h₁:=by simpa using hq) n2).mp (by rw[List.getElem_set_self,List.getElem_set_ne hpq,e]);!hpq this
tm q6q(c:Int){L:Nat}(h:0<L):∃p:Nat,p<L/\c%(L:Int)=(p:Int):=⟨(c%(L:Int)).toNat,by #:=w1f c (b:=(L:Int)) oM;#:=w1h c (b:=(L:Int)) oM;omega,by #:=w1h c (b:=(L:Int)) oM;omega⟩
tm y66{q:Nat}(hq:q<kn.length)(c:Int):∃x,atI [W.str "and", .str "abcdefghi", .str "aB", .str "a1", .str "", .str "not", .str "a b", .str (kn.getD q "")] (c%8)=some (.str x)/\(x∈badW\/x∈kn):=by
 ~⟨p,h,e⟩:=q6q c (L:=8) (by decide);rw[show(8:Int)=((8:Nat):Int)from rfl,e];#:p=0\/p=1\/p=2\/p=3\/p=4\/p=5\/p=6\/p=7:=by omega
 rcases this with rfl|rfl|rfl|rfl|rfl|rfl|rfl|rfl
 ·!⟨_,rfl,.inl (by decide)⟩
 ·!⟨_,rfl,.inl (by decide)⟩
 ·!⟨_,rfl,.inl (by decide)⟩
 ·!⟨_,rfl,.inl (by decide)⟩
 ·!⟨_,rfl,.inl (by decide)⟩
 ·!⟨_,rfl,.inl (by decide)⟩
 ·!⟨_,rfl,.inl (by decide)⟩
 ·!⟨_,rfl,.inr (q1n hq)⟩
tm z2h(n:Nat){hn:List Str}(c:Int)(h0:0<(ins++hn).length)(h9:(ins++hn).length<=9)(ok:∀x∈ins++hn,okN x=true):
  ∃ins' hn',run K a (n+2) q1j [nmT ins hn on,.int c]=.ok (.fr (nmT ins' hn' on))/\ins'.length=ins.length/\hn'.length=hn.length/\okAll [] (ins'++hn')=false/\∀x∈ins'++hn',limS x:=by
 ~⟨q,hq,eq⟩:=q6q (c / 7) h0;~⟨p,hp,ep⟩:=q6q (c / 64) h0;~⟨x,ex,hx⟩:=y66 hq c
 obtain⟨y,ey,hy,hyk⟩:∃y:Str,y=(if(ins++hn).getD p ""=x then("or":Str)else x)/\y≠(ins++hn).getD p "" /\ (y∈badW\/y∈ins++hn):=by
  by_cases z:(ins++hn).getD p ""=x
  ·rw[if_pos z];rF⟨_,rfl,λw=>?_,.inl (by decide)⟩
   #:=ok _ (q1n hp);rw[<- w]at this;!absurd this (by decide)
  ·rw[if_neg z];!⟨_,rfl,λw=>z w.symm,hx⟩
 #lim:∀z∈(ins++hn).set p y,limS z:=λz hz=>by
  rcases w4h hz with hz|rfl
  ·!q4p (ok z hz)
  ·rcases hyk with h|h
   ·!(y3x _ h).2
   ·!q4p (ok _ h)
 #bad:=z2g hp hy hyk;rw[w0q]at h9 h0;rw[q3l];unfold q2w nmT;&;rw[if_pos (by simp;omega),<- w0n];&;rw[w0j,if_pos (by simp;omega),eq,x0q hq];&;rw[ex];&;rw[w0j,if_pos (by simp;omega),ep,x0q hp];&
 by_cases z:(ins++hn).getD p ""=x
 all_goals
  simp only[z,if_true,if_false]at ey;simp only[z,decide_true,decide_false];&;rw[<- ey]
  by_cases w:p<ins.length
  ·rw[if_pos (by simp;omega),x0r n _ _ p (by simpa using w) (by simp;omega),<- w5p];&;rw[List.set_append_left _ _ w]at bad lim;!⟨ins.set p y,hn,rfl,by simp,rfl,bad,lim⟩
  ·rw[w0q]at hp;rw[if_neg (by simp;omega),w0j,show((p:Int)-(ins.length:Int))=((p-ins.length:Nat):Int) by omega,x0r n _ _ (p-ins.length) (by simp;omega) (by simp;omega),<- w5p];&;rw[List.set_append_right _ _ oM]at bad lim;!⟨ins,hn.set (p-ins.length) y,rfl,rfl,by simp,bad,lim⟩
tm y67{bs:List Bool}{fs:List Fm}{q:Nat}(hq:q<bs.length)(hb:bs.length<=fs.length):(pairW (bs.map .bl) ((fs.take bs.length).map enc)).set q (.tup [.bl (bs.getD q false),enc g])=pairW (bs.map .bl) (((fs.set q g).take bs.length).map enc):=by
 rF w3d (by simp[pairW]) λk h h'=>?_
 #h1:k<bs.length:=by simp[pairW]at h;omega
 by_cases e:q=k
 ·subst e;simp[pairW,h1]
 ·simp[pairW,e]
tm z2i(n m:Nat){bs:List Bool}{fs:List Fm}(c:Int)(hb:bs.length<=fs.length)(h0:0<fs.length)(h20:fs.length<=20):∃q r:Nat,q<fs.length/\run K a (n+2) q40 [encC m bs fs,.int c]=.ok (.fr (encC m bs (fs.set q (.not (.at (m+bs.length+r)))))):=by
 ~⟨q,hq,eq⟩:=q6q (c / 3) h0;~⟨r,hr,er⟩:=q6q c (L:=3) (by decide);rF⟨q,r,hq,?_⟩;rw[q69];unfold q6h encC;&;rw[q4t hb,show c%3=(r:Int)from er,show((m:Int)+(bs.length:Int)+(r:Int))=((m+bs.length+r:Nat):Int) by omega,show((bs.length:Int)+(((fs.drop bs.length).map enc).length:Int))=(fs.length:Int) by simp;omega,if_pos oM,eq];&
 by_cases w:q<bs.length
 ·rw[if_pos oM,x3m w hb];&;rw[show W.tup [.str "not", .tup [.str "at", .int ((m+bs.length+r:Nat):Int)]]=enc (.not (.at (m+bs.length+r)))from rfl,x0r n _ _ q (by rw[q4t hb];!w) (by rw[q4t hb];omega),y67 w hb];&;rw[List.drop_set,if_pos w]
 ·rw[if_neg oM,show((q:Int)-(bs.length:Int))=((q-bs.length:Nat):Int) by omega,show W.tup [.str "not", .tup [.str "at", .int ((m+bs.length+r:Nat):Int)]]=enc (.not (.at (m+bs.length+r)))from rfl,x0r n _ _ (q-bs.length) (by simp;omega) (by simp;omega),<- w5p];&;rw[List.drop_set,if_neg w,List.take_set,List.set_eq_of_length_le (l:=fs.take bs.length) (by simp;omega)]
tm x7g:∀ys:List Str,depWs (ys.map .str)=0
 |[]=>rfl
 |y::ys=>by
  show max (depW (.str y)) (depWs (ys.map .str))=0;rw[x7g ys];rfl
tm x9c(h:depWs ws<=100):eq2 (.tup ws) (.tup [])=some (.bl (decide (ws=[])))/\ne2 (.tup ws) (.tup [])=some (.bl (!decide (ws=[]))):=by
 constructor
 ·show(if depWs ws+1<=150 then(eqWs ws []).map W.bl else none)=_;rw[if_pos oM];@ws<;>rfl
 ·show(if depWs ws+1<=150 then(eqWs ws []).map λb=>W.bl (!b)else none)=_
  rw[if_pos oM];@ws<;>rfl
tm y3y(M:Exs K mg a)(n m:Nat){hn:List Str}{bs:List Bool}{fs:List Fm}(hb:hn.length=bs.length)(hf:bs.length<=fs.length)(ho:on.length=fs.length-bs.length)(h5:ins.length<=5)(h6:fs.length<=20)(lim:∀x∈ins++(hn++on),limS x)(sm:∀f∈fs,f.depth<=6/\f.size<=12)(bad:okAll [] (ins++hn)=false)(h0:0<fs.length):
  run K a (n+16) q1m [nmT ins hn on,encC m bs fs]=.ok (.fr (.str "name")):=by
 #:=x9b M (n+15) ((q90 n m hb hf ho h5 h6 lim sm).trans (if_neg λz=>by
  #:=w0z.mp z _ (w1l h0);unfold shB at this;rw[bad]at this;!Bool.noConfusion this))
 rw[bad]at this;!this
tm x70(M:Exs K mg a)(n:Nat){hn:List Str}{bs:List Bool}{fs:List Fm}(c:Int)(hb:hn.length=bs.length)(hf:bs.length<=fs.length)(ho:on.length=fs.length-bs.length)(h5:(ins++hn).length<=5)(h6:fs.length<=20)(nd:(ins++(hn++on)).Nodup)(ok:∀x∈ins++(hn++on),okN x=true)(sm:∀f∈fs,f.depth<=6/\f.size<=12)(h0:0<fs.length):
  run K a (n+17) q2k [nmT ins hn on,encC ins.length bs fs,.int c]=.ok (.fr (.bl true)):=by
 #okk:∀x∈ins++hn,okN x=true:=λx h=>ok x (by rw[<- w0k];!w0r _ h)
 #okn:okAll [] (ins++hn)=true:=(q4o [] _ w3a).mpr ⟨okk,by rw[<- w0k]at nd;!(w2d.mp nd).1⟩;~⟨q,r,hq,fr⟩:=z2i (K:=K) (a:=a) (n+14) ins.length (c / 3) hf h0 h6;#l5:=h5;rw[w0q]at l5
 #sm':∀f∈fs.set q (.not (.at (ins.length+bs.length+r))),f.depth<=6/\f.size<=12:=λf h=>by
  rcases w4h h with h|rfl
  ·!sm f h
  ·!⟨(by decide:2<=6),(by decide:2<=12)⟩
 #place:run K a (n+16) q1m [nmT ins hn on,encC ins.length bs (fs.set q (.not (.at (ins.length+bs.length+r))))]=.ok (.fr (.str "place")):=by
  #:=x9b M (n+15) ((q90 n ins.length (ins:=ins) hb (by rw[w3i];!hf) (by rw[w3i];!ho) oM (by rw[w3i];!h6) (λx h=>q4p (ok x h)) sm').trans (if_neg λz=>by
   #:=w0z.mp z _ (List.mem_set hq _);unfold shB at this;rw[okn,w5k,show inF _ (.not (.at (ins.length+bs.length+r)))=decide (ins.length+bs.length+r<(ins++hn).length)from rfl,decide_eq_true_eq,w0q]at this;omega))
  rw[okn]at this;!this
 #name:∀{fs':List Fm},fs'.length=fs.length->(∀f∈fs',f.depth<=6/\f.size<=12)->0<(ins++hn).length->∃N,run K a (n+16) q1j [nmT ins hn on,.int (c / 3)]=.ok (.fr N)/\run K a (n+16) q1m [N,encC ins.length bs fs']=.ok (.fr (.str "name")):=λ{fs'} e sm' hk=>by
  ~⟨i',h',e1,e2,e3,e4,e5⟩:=z2h (K:=K) (a:=a) (n+14) (on:=on) (c / 3) hk oM okk;rF⟨_,e1,y3y M n ins.length oM oM oM oM oM (λx h=>?_) sm' e4 oM⟩
  rw[<- w0k]at h;rcases w1c.mp h with h|h
  ·!e5 x h
  ·!q4p (ok x (w0c _ (w0c _ h)))
 rw[q4h];unfold q3y;&;#i0:ixN 2 0=some 0:=rfl;#i1:ixN 2 1=some 1:=rfl;rw[show ixW (nmT ins hn on) (.int 0)=some (.tup (ins.map .str))from rfl];&;rw[show ixW (nmT ins hn on) (.int 1)=some (.tup (hn.map .str))from rfl];&;rw[if_pos (by simp;omega),<- w0n];&;rw[(x9c (by rw[x7g];omega)).1];&
 by_cases z:ins++hn=[]
 ·simp only[z,w1w,decide_true];&;rw[fr];&;rw[i1];&;rw[place];&
 ·simp only[List.map_eq_nil_iff,z,decide_false];&;~⟨w,hw,ew⟩:=q6q c (L:=3) (by decide);rw[show c%3=(w:Int)from ew];#hk:=w3e.mpr z;obtain rfl|rfl|rfl:w=0\/w=1\/w=2:=by omega
  ·~⟨N,e1,e2⟩:=name rfl sm hk;simp only[Int.natCast_zero];&;rw[e1];&;rw[i0];&;rw[e2];&
  ·simp only[Int.natCast_one];&;rw[fr];&;rw[i1];&;rw[place];&
  ·~⟨N,e1,e2⟩:=name (fs':=fs.set q (.not (.at (ins.length+bs.length+r)))) (w3i ..) sm' hk;rw[show((2:Nat):Int)=2 from rfl];&;rw[e1];&;rw[i0];&;rw[fr];&;rw[i1];&;rw[e2];&
tm z9h{w:W}(h:Pl d w)(hd:d<=150):eq2 w w=some (.bl true):=by
 unfold eq2;rw[if_pos (w0v h.2 hd),h.1];rfl
tm y68(M:Exs K mg a)(ns:List Int)(hl:ns.length<=63):run K a 151 x0e [.lst (ns.map .int)]=.ok (.fr (.bl true)):=by
 ~⟨m,bs,fs,hm,h5,hc,hb,ho,hf,e⟩:=x7y (K:=K) (a:=a) 147 ns;~⟨xs,x1,x2,x3,x4⟩:=y3v (K:=K) (a:=a) 147 ns m bs fs h5 hb ho
 #ex:xs=xs.take m++((xs.drop m).take bs.length++xs.drop (m+bs.length)):=by
  rw[<- w5d,w1x,w1x]
 #l1:(xs.take m).length=m:=by rw[w4p];omega
 #l2:((xs.drop m).take bs.length).length=bs.length:=by rw[w4p,w1e];omega
 #l3:(xs.drop (m+bs.length)).length=fs.length-bs.length:=by rw[w1e];omega
 generalize xs.take m=ins at ex l1 x4;generalize (xs.drop m).take bs.length=hn at ex l2 x4;generalize xs.drop (m+bs.length)=on at ex l3 x4;subst ex;subst l1;#x4:run K a 150 q2j [.lst (ns.map .int),encC ins.length bs fs]=.ok (.fr (nmT ins hn on)):=x4;#fine:∀f∈fs,Fine (ins++hn).length f:=by rw[w0q,l2];!hf
 #okx:∀x∈ins++(hn++on),okN x=true:=λx h=>(x3 x h).1
 #hx:∀x∈ins++(hn++on),x.length<=8:=λx h=>(q01 (okx x h)).2.2.1
 #okk:∀x∈ins++hn,okN x=true:=λx h=>okx x (by rw[<- w0k];!w0r _ h)
 #okn:okAll [] (ins++hn)=true:=(q4o [] _ w3a).mpr ⟨okk,by rw[<- w0k]at x2;!(w2d.mp x2).1⟩;#lk:(ins++hn).length<=5:=by rw[w0q];omega
 #lim:∀x∈ins++hn,limS x:=λx h=>q4p (okk x h)
 #sl:∀l∈linesL ins hn on bs fs,l.length<=6000:=λl h=>by
  rw[x7e]at h;~⟨pr,hp,rfl⟩:=w0u.mp h;!(x7d (K:=K) (a:=a) l2 hb l3 oM x3 fine pr hp).2.2.1
 #due:∀ls:List Str,(∀l∈ls,l∈linesL ins hn on bs fs)->ls.length<=12->(catT ls).length<=100000:=λls h1 h2=>w0v (x69 (b:=6000) λl h=>sl l (h1 l h)) oM
 #sh:=q90 (K:=K) (a:=a) 135 ins.length l2 hb l3 oM oM (λx h=>q4p (okx x h)) λf h=>(fine f h).2
 rw[if_pos (w0z.mpr λf h=>q92 okn (fine f h).1)]at sh
 #rd:=y3u (K:=K) (a:=a) 144 l2 hb l3 hm oM oM x2 x3 fine;rw[q75];unfold x5f;&;rw[e];&;rw[x4];unfold nmT encC;&;rw[if_pos (by simp;omega),<- w0n];&;rw[if_pos (by simp;omega),x83 ins (λx h=>by #:=hx x (w0r _ h);omega) oM]
 &
 #m2:∀j,j<=(fs.drop bs.length).length->∀l∈(lineI ins::(List.range bs.length).map (ln1 (ins++hn) hn bs fs))++(List.range j).map (ln2 (ins++hn) on (fs.drop bs.length)),l∈linesL ins hn on bs fs:=λj hj l h=>by
  unfold linesL;rcases w1c.mp h with h|h
  ·!w0r _ h
  ·~⟨k,hk,rfl⟩:=w0u.mp h;!w0c _ (w4b (w1i.mpr (by #:=w1i.mp hk;omega)))
 #m1:∀j,j<=bs.length->∀l∈lineI ins::(List.range j).map (ln1 (ins++hn) hn bs fs),l∈linesL ins hn on bs fs:=λj hj l h=>by
  rF m2 0 (w1g _) l (w0r _ ?_);rcases w0d.mp h with rfl|h
  ·!w0i
  ·~⟨k,hk,rfl⟩:=w0u.mp h;!w0e _ (w4b (w1i.mpr (by #:=w1i.mp hk;omega)))
 rw[if_pos (by #:=sl _ (m1 0 oM _ w0i);#:("\n":Str).length=1:=rfl;omega),<- x68];&;rw[q4t hb,if_pos (q32 oM oM)];&
 ~⟨e',g1,z5,z6,z7,rfl⟩:=q4y (lo:=0) (hi:=(bs.length:Int)) (b:=x0j K a (run K a 150)) (i:=5) bs.length oM (λj e=>∃z5 z6 z7:S,e=[.fr (.lst (ns.map .int)),.fr (encC ins.length bs fs),.fr (nmT ins hn on),.fr (.tup ((ins++hn).map .str)),.fr (.str (catT (lineI ins::(List.range j).map (ln1 (ins++hn) hn bs fs)))),z5,z6,z7,.no,.no]) [.fr (.lst (ns.map .int)),.fr (encC ins.length bs fs),.fr (nmT ins hn on),.fr (.tup ((ins++hn).map .str)),.fr (.str (catT [lineI ins])),.no,.no,.no,.no,.no] ⟨_,_,_,rfl⟩ (λj e hj h=>by
  ~⟨z5,z6,z7,rfl⟩:=h;~⟨t6,t7,q⟩:=y65 (K:=K) (a:=a) 135 (.lst (ns.map .int)) (.int ins.length) (.tup ((fs.drop bs.length).map enc)) (.tup (ins.map .str)) (.tup (on.map .str)) lim oM okn j hj hb oM (λx h=>hx x (w0c _ (w0r _ h))) fine _ (due _ (m1 j oM) (by simp;omega)) z6 z7 .no .no
  !⟨_,by rw[w4e];!q,_,_,_,by rw[w4a,w0n (f:=ln1 (ins++hn) hn bs fs),<- w1b,w0g (f:=ln1 (ins++hn) hn bs fs),w1w,x4o];rfl⟩)
 unfold nmT encC at g1;rw[g1];&;rw[w0j,if_pos (q32 oM (by rw[w1e];omega))];&
 ~⟨e',g2,z5,rfl⟩:=q4y (lo:=0) (hi:=((fs.drop bs.length).length:Int)) (b:=x0i K a (run K a 150)) (i:=5) (fs.drop bs.length).length oM (λj e=>∃z5:S,e=[.fr (.lst (ns.map .int)),.fr (encC ins.length bs fs),.fr (nmT ins hn on),.fr (.tup ((ins++hn).map .str)),.fr (.str (catT ((lineI ins::(List.range bs.length).map (ln1 (ins++hn) hn bs fs))++(List.range j).map (ln2 (ins++hn) on (fs.drop bs.length))))),z5,z6,z7,.no,.no]) [.fr (.lst (ns.map .int)),.fr (encC ins.length bs fs),.fr (nmT ins hn on),.fr (.tup ((ins++hn).map .str)),.fr (.str (catT (lineI ins::(List.range bs.length).map (ln1 (ins++hn) hn bs fs)))),z5,z6,z7,.no,.no] ⟨_,by rw[List.range_zero,w1w,w1a]⟩ (λj e hj h=>by
  ~⟨z5,rfl⟩:=h;#q:=z2f (K:=K) (a:=a) 135 (.lst (ns.map .int)) (.int ins.length) (.tup (pairW (bs.map .bl) ((fs.take bs.length).map enc))) (.tup (ins.map .str)) (.tup (hn.map .str)) (kn:=ins++hn) (on:=on) (gs:=fs.drop bs.length) lim oM okn j hj (by rw[w1e]at hj;omega) (λx h=>hx x (w0c _ (w0c _ h))) (λf h=>fine f (w2z h)) _ (due _ (m2 j oM) (by rw[w1e]at hj;simp;omega)) z6 z7 .no .no
  !⟨_,by rw[w4e];!q,_,by rw[w4a,w0n (f:=ln2 (ins++hn) on (fs.drop bs.length)),<- w0k,w0g (f:=ln2 (ins++hn) on (fs.drop bs.length)),w1w,x4o];rfl⟩)
 unfold nmT encC at g2;rw[g2,show(lineI ins::(List.range bs.length).map (ln1 (ins++hn) hn bs fs))++(List.range (fs.drop bs.length).length).map (ln2 (ins++hn) on (fs.drop bs.length))=linesL ins hn on bs fs from rfl];&;rw[q7a 149 ns (k:=11) oM];&;~⟨v,hv⟩:=q7b (K:=K) (a:=a) 149 (ns.getD 11 0) 3;rw[hv];&;#fd:∀f∈fs,f.depth<=6:=λf h=>(fine f h).2.1
 rw[if_pos (by rw[q4t hb];simp;omega),(x9c (w0v (x7f λw h=>(w1c.mp h).elim (pl_P fd w) (pl_G fd w)).2 oM)).2]
 &
 #pe:Pl 10 (.tup [nmT ins hn on,encC ins.length bs fs]):=q7e λw hw=>by
  simp only[w0d,w0h,or_false]at hw;rcases hw with rfl|rfl
  ·!y7q (z9g ins hn on) oM
  ·!pl_C fd
 #pe:=z9h pe oM;unfold nmT encC at sh rd pe;#rf:=λh0=>x70 (K:=K) (a:=a) M 133 (v / 4) l2 hb l3 lk oM x2 okx (λf h=>(fine f h).2) h0
 unfold nmT encC at rf;#T:∀b:Bool,b=true\/b=false:=λb=>by @b<;>simp
 rcases T (decide (pairW (bs.map .bl) ((fs.take bs.length).map enc)++(fs.drop bs.length).map enc=[]))with h0|h0
 all_goals simp only[h0]
 all_goals &
 all_goals try rw[rf (Nat.pos_of_ne_zero λz=>by rw[w4l.mp z]at h0;simp[pairW]at h0)]
 all_goals
  &;rw[sh];&;rw[y9h M.t_str_str];&;rw[rd];&;rw[pe];&
 !ite_self _
tm walk{l:PySem.W.OpenLaw}{q:Program}{loose:List Str}{XP:(Str->Option Value)->Heap->Prop}{YP:World->Heap->Prop}{d:DefRec}{K:Params->PySem.W.Frag}(hn:l.most=some 63)(hdf:d.params.defaults=[])
  (hY:∀(w:World)(h:Heap),YP w h->(K w.params).In h)
  (F:∀(w:World)(mg:Str->Option Value)(fa:Addr)(h:Heap),(K w.params).In h->h.Ns mainGlobals mg->mg d.name=some (.ref fa) ->
   ∃fd:FuncData,(∀(s:Shared)(u:Value),BindsTo s fd ⟨[u],[]⟩ [("_law_script", u)])/\∀base:Heap,(K w.params).In base->base.Ns mainGlobals mg->FnOk l.prog w (K w.params) mg base (CX1 l.prog w) 151 fa fd ["_law_script"] (spLaw (K w.params)))(hNM:∀w:World,noMark (K w.params)=true):
  PySem.W.WalkO q loose XP YP l.row.toRowW d [] (λf vs=>PySem.call f vs):=
 L2.x76 (n:=63) (k:=151) (x:="_law_script") (CX:=λw=>CX1 l.prog w) (sp:=λw=>spLaw (K w.params)) hn (by decide) hdf ⟨rfl,by decide,by decide,rfl⟩ hY F (λ_ _ a ns hl _ hS=>⟨a,ns,rfl,hS,hl,λ_=>rfl⟩) (λ_ _ _ _ _ z=>z3y z) hNM
end Q
open PySem PySem.W PyProof.Rows
set_option maxRecDepth 100000 in
set_option maxHeartbeats 0 in
theorem PySem.Challenge.cw_circuits_k74_sheets_shown_holds : PySem.Challenge.rw_circuits_k74_sheets_shown.Holds := by
 w_on; o_law; k_head; (case hw => w_witness2)
 k_fill
 refine Q.walk (l := PySem.Challenge.rw_circuits_k74_sheets_shown) rfl rfl (fun w h Y => PySem.W.kIn_of Y) ?F (fun w => by kernel_rfl)
 case F =>
  intro w mg fa h KX G hmg;refine' Q.mk hmg ?zA ?zB ?zM 150 ?hL
  (case zA => constructor <;> exact Q.at_k KX G (by k_is) (by k_is) (by k_is) (by k_is) fun _ _ _ _ _ _ => by first | exact Q.us1 fun _ => rfl | exact Q.us2 fun _ _ => rfl | exact Q.us3 fun _ _ _ => rfl)
  (case zB => constructor <;> first | exact mg_none_of KX G (by k_is) | exact ⟨_, mg_of KX G (by k_is), D.z0q (by kernel_rfl) (by decide) (by kernel_rfl) ⟨_, by k_is, rfl, rfl⟩⟩ | exact ⟨_, mg_of KX G (by k_is), _, by k_is, by kernel_rfl, by kernel_rfl⟩)
  (case zM => constructor <;> first | trivial | exact mg_of KX G (by k_is) | kernel_rfl)
  (case hL => exact fun a M ns hl => Q.y68 M ns hl)
