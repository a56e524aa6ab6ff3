import PyProof.Rows.All
import Wide.All
import OpenK.AllK
import Wide.FinOn
import PyProof.TupleKey
import PyProof.EqAt
import PyProof.EqKinds
import Wide.Seal
import Lean
import PyProof.TupleCall
import KE.KTryMore
import KE.KRevIter
import PyProof.CollectIter
import PyProof.ConsumeWalk
import PyProof.TupleOfStr
import KE.KIsAll
import PyProof.ExcArgs
import PyProof.ExcAttrAll.ValueError
import PyProof.CompUse
import PyProof.NeKinds
import PyProof.EnumIter
import PyProof.EnumFor
import PyProof.EnumMake
import PyProof.EnumStmt
import PyProof.ListMulRoad
import PyProof.ZipIter
import PyProof.TupleIter
import PyProof.Rows.SortWalk
import PyProof.SetKind
import PyProof.Rows.SetFrom
import PyProof.FactsAll.set_1
import KE.KDictSum
import PyProof.FactsAll.set_2
import PyProof.FactsAll.tuple_2
import PyProof.ReprRoads
import PyProof.Rows.SeqMore
import PyProof.ReprLen
import PyProof.WalkInts
import PyProof.SeqI3
import PyProof.Rows.TupIter
import PyProof.ListRange
import PyProof.SumWalk
import KE.RegMulBits
import PyProof.DictIter
import PyProof.DictWalks
import PyProof.DictRoadsH
import PyProof.DictTruth
import PyProof.Rows.TupDisplay
import KE.KDictList
import PyProof.Draws
import PyProof.StrBlockI
import PyProof.StrLawsIn
import PyProof.StrOps2
import PyProof.ReprStr
import PyProof.ListNew
import PyProof.Rows.SortRev
import PyProof.WalksMore
import PyProof.MinMaxWalk
import PyProof.Rows.CallKwBuiltin
import PySem.Challenge.RW_circuits_k29_tables_refused
set_option Elab.async false
set_option linter.all false
set_option maxRecDepth 100000
set_option maxHeartbeats 1000000
local macro_rules | `(tactic| omega) => `(tactic| first | with_reducible assumption | decide | with_reducible exact Nat.le_refl _ | with_reducible exact Nat.zero_le _ | lia)
set_option genSizeOf false
set_option genInjectivity false
local macro_rules | `(tactic| walk_at "1") => `(tactic| (first | exact Or.inl rfl | exact Or.inr (Or.inl rfl) | exact Or.inr (Or.inr rfl)))
local macro_rules | `(tactic| walk_at "2") => `(tactic| (first | exact .inl rfl | exact .inr rfl | assumption))
local macro_rules | `(tactic| walk_at "3") => `(tactic| (first | exact Or.inl rfl | exact Or.inr rfl))
open PySem.W (callWith_K cellsFrom_some codeHdIn exmOne findIn hideAll_get keepIn kia_one kitOne kla_obj methodObj mg_none_of mg_of pyHash_slot specialIn tabObj takesIn)
def w0a:=@List.getElem?_eq_getElem
def w0b:=@List.getElem?_eq_some_iff
def w0c:=@List.length_map
def w0d:=@List.size_toArray
def w0e:=@Nat.le_refl
def w0f:=@Option.map_eq_some_iff
def w0g:=@List.length_append
def w0h:=@List.getElem?_map
def w0i:=@List.map_cons
def w0j:=@List.getElem?_set_ne
def w0k:=@List.mem_append_right
def w0l:=@List.getElem?_set_self
def w0m:=@Nat.lt_of_lt_of_le
def w0n:=@List.mem_singleton
def w0o:=@List.getElem?_cons_succ
def w0p:=@Nat.ne_of_lt
def w0q:=@List.mem_cons
def w0r:=@List.map_append
def w0s:=@Bool.and_eq_true
def w0t:=@Bool.false_ne_true
def w0u:=@List.mem_of_getElem?
def w0v:=@List.length_cons
def w0w:=@List.getElem?_append_left
def w0x:=@Bool.eq_iff_iff
def w0y:=@List.replicate_succ
def w0z:=@List.lookup_cons
def w1a:=@List.getElem?_append_right
def w1b:=@List.mem_cons_of_mem
def w1c:=@List.all_eq_true
def w1d:=@List.mem_range
def w1e:=@Nat.le_trans
def w1f:=@List.map_map
def w1g:=@List.getElem?_cons_zero
def w1h:=@List.append_assoc
def w1i:=@Nat.zero_le
def w1j:=@Bool.eq_false_iff
def w1k:=@Nat.pow_le_pow_right
def w1l:=@Bool.false_eq_true
def w1m:=@List.mem_cons_self
def w1n:=@List.append_nil
def w1o:=@Nat.lt_irrefl
def w1p:=@List.getElem_mem
def w1q:=@Nat.lt_succ_self
def w1r:=@List.mem_append
def w1s:=@List.length_nil
def w1t:=@List.mem_iff_getElem
def w1u:=@List.mem_map
def w1v:=@Array.getElem?_append_left
def w1w:=@List.flatten_cons
def w1x:=@List.map_congr_left
def w1y:=@List.length_take
def w1z:=@List.filter_cons
def w2a:=@List.getElem?_replicate
def w2b:=@Nat.pow_succ
def w2c:=@Nat.lt_succ_of_lt
def w2d:=@Array.getElem?_eq_some_iff
def w2e:=@List.any_eq_true
def w2f:=@List.map_nil
def w2g:=@Nat.add_sub_cancel
def w2h:=@List.nodup_cons
def w2i:=@List.find?_cons
def w2j:=@List.mem_filterMap
def w2k:=@List.length_replicate
def w2l:=@List.length_singleton
def w2m:=@List.nil_append
def w2n:=@Nat.sub_self
def w2o:=@Int.toNat_natCast
def w2p:=@List.all_cons
def w2q:=@List.any_cons
def w2r:=@List.length_drop
def w2s:=@List.of_mem_zip
def w2t:=@List.filter_cons_of_pos
def w2u:=@List.range_succ_eq_map
def w2v:=@List.find?_cons_of_pos
def w2w:=@List.take_of_length_le
def w2x:=@List.find?_append
def w2y:=@List.length_range
def w2z:=@Nat.pow_pos
def w3a:=@List.find?_map
def w3b:=@List.getElem?_eq_none
def w3c:=@Nat.min_le_right
def w3d:=@List.mem_append_left
def w3e:=@Bool.not_true
def w3f:=@List.filterMap_cons
def w3g:=@Array.length_toList
def w3h:=@Nat.min_eq_left
def w3i:=@List.nodup_iff_pairwise_ne
def w3j:=@Nat.zero_add
def w3k:=@Nat.one_le_two_pow
def w3l:=@Int.emod_lt_of_pos
def w3m:=@List.drop_eq_getElem_cons
def w3n:=@Option.isSome_iff_exists
def w3o:=@Option.isSome_map
def w3p:=@Option.bind_eq_some_iff
def w3q:=@List.filter_cons_of_neg
def w3r:=@List.drop_length
def w3s:=@List.forIn_cons
def w3t:=@List.mem_filter
def w3u:=@Nat.le_of_lt
def w3v:=@Bool.or_eq_true
def w3w:=@List.dropLast_eq_take
def w3x:=@Nat.le_of_ble_eq_true
def w3y:=@Int.emod_nonneg
def w3z:=@List.filter_nil
def w4a:=@List.contains_iff_mem
def w4b:=@List.set_append_right
def w4c:=@Nat.not_lt
def w4d:=@List.getElem?_of_mem
def w4e:=@Bool.not_false
def w4f:=@Nat.le_succ
def w4g:=@List.getElem_of_mem
def w4h:=@Array.toList_append
def w4i:=@List.replicate_zero
def w4j:=@Array.forIn_toList
def w4k:=@Option.isSome_some
def w4l:=@List.lookup_append
def w4m:=@List.length_range'
def w4n:=@List.map_take
def w4o:=@List.find?_eq_none
def w4p:=@List.filter_append
def w4q:=@List.set_cons_zero
def w4r:=@List.all_map
def w4s:=@Nat.mul_comm
def w4t:=@List.any_map
namespace PySem.W.Fast
theorem tw16617177025890065372:True:=trivial
theorem tw11720871295958307711:True:=trivial
theorem tw16837270460477124206:True:=trivial
theorem tw3360492023658141259:True:=trivial
theorem tw7951390151806299999:True:=trivial
theorem tw5008023932666919174:True:=trivial
theorem tw1998311654485461505:True:=trivial
theorem tw6797693586206981065:True:=trivial
theorem tw18355093506528810718:True:=trivial
theorem tw17207793926542651280:True:=trivial
theorem tw8805051689329257619:True:=trivial
theorem tw9250954535230412285:True:=trivial
theorem tw6360827953606147235:True:=trivial
theorem tw15278371668054972823:True:=trivial
theorem tw10679219621667869856:True:=trivial
theorem tw4779043484711221475:True:=trivial
theorem tw17769647186341354199:True:=trivial
theorem tw11561751747284431999:True:=trivial
theorem tw2617650036251712920:True:=trivial
theorem tw13990466822567121786:True:=trivial
theorem tw3085773933653437110:True:=trivial
theorem tw280746114094819670:True:=trivial
theorem tw2615454696875735458:True:=trivial
theorem tw1289209501894786623:True:=trivial
theorem tw3389734172985654903:True:=trivial
theorem tw10835892158554838321:True:=trivial
theorem tw14630647187485406210:True:=trivial
theorem tw11625180986567477184:True:=trivial
theorem tw6403171886923025309:True:=trivial
theorem tw9890864992882935650:True:=trivial
theorem tw10148146688305081645:True:=trivial
theorem tw18056458023161694123:True:=trivial
theorem tw15107586648122523384:True:=trivial
theorem tw8696400941256576169:True:=trivial
theorem tw10855426705397670284:True:=trivial
theorem tw13066429782649923784:True:=trivial
theorem tw16630538245155296451:True:=trivial
theorem tw11380568933891378377:True:=trivial
theorem tw14642935437485025954:True:=trivial
theorem tw14603501076598930971:True:=trivial
theorem tw16655854633653752630:True:=trivial
theorem tw14510518497719699311:True:=trivial
theorem tw13006584409922249113:True:=trivial
theorem tw14038648854229707185:True:=trivial
theorem tw5883133345128124566:True:=trivial
theorem tw8071763653356299:True:=trivial
theorem tw10338447821611494939:True:=trivial
theorem tw8820321578012424254:True:=trivial
theorem tw227979346472534338:True:=trivial
theorem tw5708528304507314199:True:=trivial
theorem tw5532548603306509074:True:=trivial
theorem tw2584880831122587245:True:=trivial
theorem tw1335701356171055285:True:=trivial
theorem tw10266192231786246952:True:=trivial
theorem tw1747331602925935143:True:=trivial
theorem tw11184689291369424092:True:=trivial
theorem tw4583613786142322744:True:=trivial
theorem tw14609777555034830537:True:=trivial
theorem tw4309272458126473664:True:=trivial
theorem tw13957585994423131729:True:=trivial
end PySem.W.Fast
namespace L2
open PySem PySem.Spec PyProof.Rows
variable{a b:Addr}{A:Around}{op:CmpOp}{c e tg:Expr}{fd:FuncData}{base h h':Heap}{pins:List (Addr×Obj)}{ch fp:List Addr}{es:List Expr}{N ps:List Str}{us:List Value}{i t':Nat}{p pos:Pos}{P prog:Program}{K:PySem.W.Frag}{s:Shared}{x:Str}{mg:Str->Option Value}{u:Value}{E:Value->Shared->Prop}{f:Value->Value->Sem Value}{w:World}
set_option genInjectivity true in
inductive Kx where
 |non|bl (b:Bool)|int (i:Int)|str (x:Str)|tup (ks:List Kx)
inductive Sh where
 |ob|bl|int|str|tup (ss:List Sh)|many (s:Sh)
noncomputable instance:DecidableEq Kx:=fun _ _=>Classical.propDecidable _
mutual
noncomputable def Kx.depth:Kx->Nat
 |.tup ks=>Kx.depths ks+1
 |_=>0
noncomputable def Kx.depths:List Kx->Nat
 |[]=>0
 |k::ks=>max k.depth (Kx.depths ks)
end
mutual
def Conf:Kx->Sh->Prop
 |.non,.ob=>True
 |.bl _,.ob=>True
 |.bl _,.bl=>True
 |.int _,.int=>True
 |.str _,.str=>True
 |.tup ks,.tup ss=>Confs ks ss
 |.tup ks,.many s=>ConfM ks s
 |_,_=>False
def Confs:List Kx->List Sh->Prop
 |[],[]=>True
 |k::ks,s::ss=>Conf k s/\Confs ks ss
 |_,_=>False
def ConfM:List Kx->Sh->Prop
 |[],_=>True
 |k::ks,s=>Conf k s/\ConfM ks s
end
mutual
def KIs(h:Heap):Kx->Value->Prop
 |.non,v=>v=.none
 |.bl b,v=>v=.bool b
 |.int i,v=>∃t,v=.int i t
 |.str x,v=>∃t,v=.str x t
 |.tup ks,v=>∃a o items n,v=.ref a/\h.get? a=some o/\o.cls=.type "tuple" /\ o.data=.seq items n/\KAre h ks items.toList
def KAre(h:Heap):List Kx->List Value->Prop
 |[],vs=>vs=[]
 |k::ks,vs=>∃v r,vs=v::r/\KIs h k v/\KAre h ks r
end
mutual
theorem x5w{h:Heap}:∀(k k':Kx){v:Value},KIs h k v->KIs h k' v->k=k'
 |.non,k',v,x,y=>by
  cases(show v=.none from x);cases k' with
  |non=>rfl
  |bl c=>cases(show Value.none=.bool c from y)
  |int i=>obtain⟨t,e⟩:=y;cases e
  |str i=>obtain⟨t,e⟩:=y;cases e
  |tup ks=>obtain⟨_,_,_,_,e,_⟩:=y;cases e
 |.bl b,k',v,x,y=>by
  cases(show v=.bool b from x);cases k' with
  |non=>cases(show Value.bool b=.none from y)
  |bl c=>cases(show Value.bool b=.bool c from y);rfl
  |int i=>obtain⟨t,e⟩:=y;cases e
  |str i=>obtain⟨t,e⟩:=y;cases e
  |tup ks=>obtain⟨_,_,_,_,e,_⟩:=y;cases e
 |.int b,k',v,x,y=>by
  obtain⟨t,rfl⟩:=x;cases k' with
  |non=>cases y
  |bl c=>cases y
  |int i=>obtain⟨t,e⟩:=y;cases e;rfl
  |str i=>obtain⟨t,e⟩:=y;cases e
  |tup ks=>obtain⟨_,_,_,_,e,_⟩:=y;cases e
 |.str b,k',v,x,y=>by
  obtain⟨t,rfl⟩:=x;cases k' with
  |non=>cases y
  |bl c=>cases y
  |int i=>obtain⟨t,e⟩:=y;cases e
  |str i=>obtain⟨t,e⟩:=y;cases e;rfl
  |tup ks=>obtain⟨_,_,_,_,e,_⟩:=y;cases e
 |.tup ks,k',v,x,y=>by
  obtain⟨a,o,it,n,rfl,h1,h2,h3,h4⟩:=x;cases k' with
  |non=>cases y
  |bl c=>cases y
  |int i=>obtain⟨t,e⟩:=y;cases e
  |str i=>obtain⟨t,e⟩:=y;cases e
  |tup ks'=>
   obtain⟨a',o',it',n',e,g1,g2,g3,g4⟩:=y;cases e;rw[h1]at g1;cases g1;rw[h3]at g3;injection g3 with e1 _
   subst e1;rw[q9k ks ks' h4 g4]
theorem q9k{h:Heap}:∀(ks ks':List Kx){vs:List Value},KAre h ks vs->KAre h ks' vs->ks=ks'
 |[],ks',vs,x,y=>by
  cases(show vs=[]from x);cases ks' with
  |nil=>rfl
  |cons k ks'=>obtain⟨v,r,e,_⟩:=y;cases e
 |k::ks,ks',vs,x,y=>by
  obtain⟨v,r,rfl,h1,h2⟩:=x;cases ks' with
  |nil=>cases(show v::r=[]from y)
  |cons k' ks'=>
   obtain⟨v',r',e,g1,g2⟩:=y;cases e;rw[x5w k k' h1 g1,q9k ks ks' h2 g2]
end
mutual
theorem x11{h h':Heap}(hk:∀a o,h.get? a=some o->o.cls=.type "tuple"->(∃it n,o.data=.seq it n)->h'.get? a=some o):∀(k:Kx){v:Value},KIs h k v->KIs h' k v
 |.non,v,x=>x
 |.bl b,v,x=>x
 |.int b,v,x=>x
 |.str b,v,x=>x
 |.tup ks,v,x=>by
  obtain⟨a,o,it,n,rfl,h1,h2,h3,h4⟩:=x;exact⟨a,o,it,n,rfl,hk a o h1 h2 ⟨it,n,h3⟩,h2,h3,x0a hk ks h4⟩
theorem x0a{h h':Heap}(hk:∀a o,h.get? a=some o->o.cls=.type "tuple"->(∃it n,o.data=.seq it n)->h'.get? a=some o):∀(ks:List Kx){vs:List Value},KAre h ks vs->KAre h' ks vs
 |[],vs,x=>x
 |k::ks,vs,x=>by
  obtain⟨v,r,rfl,h1,h2⟩:=x;exact⟨v,r,rfl,x11 hk k h1,x0a hk ks h2⟩
end
theorem KAre.length:∀(ks:List Kx){vs:List Value},KAre h ks vs->vs.length=ks.length
 |[],vs,x=>by cases(show vs=[]from x);rfl
 |k::ks,vs,x=>by
  obtain⟨v,r,rfl,h1,h2⟩:=x;rw[w0v,w0v,KAre.length ks h2]
mutual
noncomputable def kHash(w:World):Kx->Int
 |.non=>PySem.W.hashW w.params .none
 |.bl b=>reduceHash (if b=true then 1 else 0)
 |.int i=>hashInt i
 |.str x=>hashStr w x
 |.tup ks=>reduceHash (Builtin.Tuple.tupleHashOf (kHashes w ks))
noncomputable def kHashes(w:World):List Kx->List Int
 |[]=>[]
 |k::ks=>kHash w k::kHashes w ks
end
mutual
noncomputable def kDraws:Kx->Nat
 |.tup ks=>kDrawss ks+1
 |_=>1
noncomputable def kDrawss:List Kx->Nat
 |[]=>0
 |k::ks=>kDraws k+kDrawss ks
end
mutual
theorem x5x:∀(k:Kx)(v:Value)(A:Around)(s:Shared)(Q:Int->Shared->Prop),KIs s.heap k v->A.units+k.depth<cLine->Q (kHash w k) {s with toks:=s.toks+kDraws k}->wpAny (model prog w) A (pyHash v) Q E s
 |.non,v,A,s,Q,x,hu,h=>by
  cases(show v=.none from x);exact pyHash_slot (T:="NoneType") rfl F.slot_NoneType_hash F.entry_NoneType_hash (F.args_NoneType_hash_1 _) (beq_builtin_none _) (.inr (by omega)) (wpAny_bind (wpAny_pure (wpAny_bind (wpAny_mkInt (wpAny_pure ⟨_,_,rfl,h⟩)))))
 |.bl b,v,A,s,Q,x,hu,h=>by
  cases(show v=.bool b from x);refine pyHash_slot (T:="bool") rfl F.slot_bool_hash entry_int_hash (args_int_hash _) (beq_builtin_none _) (.inr (by omega)) ?_;cases b
  ·exact(show wpAny _ _ (do ret (<- mkInt 0)) _ _ s from wpAny_bind (wpAny_mkInt (wpAny_pure ⟨_,_,rfl,h⟩)))
  ·exact(show wpAny _ _ (do ret (<- mkInt 1)) _ _ s from wpAny_bind (wpAny_mkInt (wpAny_pure ⟨_,_,rfl,h⟩)))
 |.int i,v,A,s,Q,x,hu,h=>by
  obtain⟨t,rfl⟩:=x;exact wpAny_pyHash_int h
 |.str i,v,A,s,Q,x,hu,h=>by
  obtain⟨t,rfl⟩:=x;exact wpAny_pyHash_str h
 |.tup ks,v,A,s,Q,x,hu,h=>by
  obtain⟨a,o,it,n,rfl,h1,h2,h3,h4⟩:=x;refine pyHash_slot (T:="tuple") ⟨_,h1,h2⟩ F.slot_tuple_hash F.entry_tuple_hash (F.args_tuple_hash_1 _) (beq_builtin_none _) (.inr (by omega)) ?_;show wpAny _ _ (Builtin.Tuple.tupleItemsOf (.ref a) >>= _) _ _ s;refine wpAny_bind (wpAny_tupleItemsOf h1 h3 ?_);refine wpAny_bind ?_;rw[<- w4j];refine x12 ks it.toList A.in1 s #[] _ h4 (by simp only[Kx.depth,Around.in1_units]at hu |-;omega) fun b hb=>?_
  show wpAny _ _ (retInt (Builtin.Tuple.tupleHashOf b.toList)) _ _ _;rw[hb];exact wpAny_bind (wpAny_mkInt (wpAny_pure ⟨_,_,rfl,by simpa [kHash,kDraws,Nat.add_assoc]using h⟩))
theorem x12:∀(ks:List Kx)(vs:List Value)(A:Around)(s:Shared)(b:Array Int)(Q:Array Int->Shared->Prop),KAre s.heap ks vs->A.units+Kx.depths ks<cLine ->
  (∀b',b'.toList=b.toList++kHashes w ks->Q b' {s with toks:=s.toks+kDrawss ks}) ->
  wpAny (model prog w) A (forIn vs b fun x r=>do let h <- pyHash x;pure PUnit.unit;pure (ForInStep.yield (r.push h))) Q E s
 |[],vs,A,s,b,Q,x,hu,h=>by
  cases(show vs=[]from x);exact wpAny_pure (h b (by simp[kHashes]))
 |k::ks,vs,A,s,b,Q,x,hu,h=>by
  obtain⟨v,r,rfl,h1,h2⟩:=x;simp only[Kx.depths]at hu;rw[w3s];refine wpAny_bind (wpAny_bind (x5x k v A s _ h1 (by omega) ?_));refine wpAny_bind (wpAny_pure (wpAny_pure ?_))
  exact x12 ks r A _ _ Q h2 (by omega) fun b' hb=>by
   have:=h b' (by simp[hb,kHashes])
   simpa [kDrawss,Nat.add_assoc]using this
end
theorem x5y(a b:Bool):decide (Kx.bl a=Kx.bl b)=(a==b):=by
 by_cases e:a=b
 ·subst e;simp
 ·rw[decide_eq_false (fun z=>e (by injection z))];exact(beq_eq_false_iff_ne.mpr e).symm
theorem y1e(a b:Int):decide (Kx.int a=Kx.int b)=(a==b):=by
 by_cases e:a=b
 ·subst e;simp
 ·rw[decide_eq_false (fun z=>e (by injection z))];exact(beq_eq_false_iff_ne.mpr e).symm
theorem y1f(a b:Str):decide (Kx.str a=Kx.str b)=(a==b):=by
 by_cases e:a=b
 ·subst e;simp
 ·rw[decide_eq_false (fun z=>e (by injection z))];exact(beq_eq_false_iff_ne.mpr e).symm
noncomputable def sameAt(ks ks':List Kx)(j:Nat):Bool:=decide (ks[j]?=ks'[j]?)
theorem y1g:∀ks ks':List Kx,((List.range (min ks.length ks'.length)).all (sameAt ks ks')&&ks.length==ks'.length)=decide (Kx.tup ks=Kx.tup ks'):=by
 intro ks ks'
 by_cases e:ks=ks'
 ·subst e;rw[decide_eq_true rfl];simp[sameAt]
 ·rw[decide_eq_false (fun z=>e (by injection z))]
  rw[Bool.and_eq_false_iff]
  by_cases hl:ks.length=ks'.length
  ·left
   rw[w1j];intro ha;refine e (List.ext_getElem? fun j=>?_)
   by_cases hj:j<ks.length
   ·have:=w1c.mp ha j (w1d.mpr (by omega));exact of_decide_eq_true this
   ·rw[w3b (by omega),w3b (by omega)]
  ·right
   simpa using hl
theorem q7k:∀(ks:List Kx){vs:List Value},KAre h ks vs->∀(j:Nat)(v:Value),vs[j]?=some v->∃k,ks[j]?=some k/\KIs h k v
 |[],vs,x,j,v,e=>by cases(show vs=[]from x);simp at e
 |k::ks,vs,x,j,v,e=>by
  obtain⟨u,r,rfl,h1,h2⟩:=x;cases j with
  |zero=>cases e;exact⟨k,rfl,h1⟩
  |succ j=>exact q7k ks h2 j v (by simpa using e)
theorem q79:∀(ks:List Kx)(j:Nat)(k:Kx),ks[j]?=some k->k.depth<=Kx.depths ks
 |[],j,k,e=>by simp at e
 |x::ks,j,k,e=>by
  simp only[Kx.depths];cases j with
  |zero=>cases e;omega
  |succ j=>have:=q79 ks j k (by simpa using e);omega
theorem q8a:∀(ks:List Kx)(ss:List Sh),Confs ks ss->∀(j:Nat)(k:Kx),ks[j]?=some k->∃s,ss[j]?=some s/\Conf k s
 |[],ss,_,j,k,e=>by simp at e
 |x::ks,[],c,j,k,e=>c.elim
 |x::ks,s::ss,c,j,k,e=>by
  cases j with
  |zero=>cases e;exact⟨s,rfl,c.1⟩
  |succ j=>exact q8a ks ss c.2 j k (by simpa using e)
theorem q8b:∀(ks:List Kx)(s:Sh),ConfM ks s->∀(j:Nat)(k:Kx),ks[j]?=some k->Conf k s
 |[],s,_,j,k,e=>by simp at e
 |x::ks,s,c,j,k,e=>by
  cases j with
  |zero=>cases e;exact c.1
  |succ j=>exact q8b ks s c.2 j k (by simpa using e)
theorem z2a(s:Shared):∀(n:Nat)(k k':Kx)(sh:Sh)(v v':Value)(A:Around),k.depth<=n->Conf k sh->Conf k' sh->KIs s.heap k v->KIs s.heap k' v'->A.units+n<cLine->SeqAt.EqAt A s v v' (decide (k=k')):=by
 intro n
 induction n with
 |zero=>
  intro k k' sh v v' A hd c c' x y hu;cases k with
  |non=>
   cases sh with
   |ob=>
    cases k' with
    |non=>cases(show v=.none from x);cases(show v'=.none from y);rw[decide_eq_true rfl];exact .same _
    |bl b=>cases(show v=.none from x);cases(show v'=.bool b from y);rw[decide_eq_false (fun z=>nomatch z)];exact .none_bool b
    |_=>exact c'.elim
   |_=>exact c.elim
  |bl a=>
   cases sh with
   |ob=>
    cases k' with
    |non=>cases(show v=.bool a from x);cases(show v'=.none from y);rw[decide_eq_false (fun z=>nomatch z)];exact .bool_none a
    |bl b=>cases(show v=.bool a from x);cases(show v'=.bool b from y);rw[x5y];exact .bool_bool a b
    |_=>exact c'.elim
   |bl=>
    cases k' with
    |bl b=>cases(show v=.bool a from x);cases(show v'=.bool b from y);rw[x5y];exact .bool_bool a b
    |_=>exact c'.elim
   |_=>exact c.elim
  |int a=>
   cases sh with
   |int=>
    cases k' with
    |int b=>obtain⟨t,rfl⟩:=x;obtain⟨u,rfl⟩:=y;rw[y1e];exact .int_int a t b u
    |_=>exact c'.elim
   |_=>exact c.elim
  |str a=>
   cases sh with
   |str=>
    cases k' with
    |str b=>obtain⟨t,rfl⟩:=x;obtain⟨u,rfl⟩:=y;rw[y1f];exact .str_str a t b u
    |_=>exact c'.elim
   |_=>exact c.elim
  |tup ks=>simp only[Kx.depth]at hd;omega
 |succ n ih=>
  intro k k' sh v v' A hd c c' x y hu;cases k with
  |non=>exact ih .non k' sh v v' A (w1i _) c c' x y (by omega)
  |bl a=>exact ih (.bl a) k' sh v v' A (w1i _) c c' x y (by omega)
  |int a=>exact ih (.int a) k' sh v v' A (w1i _) c c' x y (by omega)
  |str a=>exact ih (.str a) k' sh v v' A (w1i _) c c' x y (by omega)
  |tup ks=>
   obtain⟨a,o,it,m,rfl,h1,h2,h3,h4⟩:=x
   have tail:∀ks',k'=.tup ks'->(∀(j:Nat)(u u':Kx),ks[j]?=some u->ks'[j]?=some u'->∃s,Conf u s/\Conf u' s)->SeqAt.EqAt A s (.ref a) v' (decide (Kx.tup ks=k')):=by
    rintro ks' rfl hc;obtain⟨b,o',it',m',rfl,g1,g2,g3,g4⟩:=y
    by_cases hab:a=b
    ·subst hab;rw[h1]at g1;cases g1;rw[h3]at g3;injection g3 with e1 _
     subst e1;rw[q9k ks ks' h4 g4,decide_eq_true rfl];exact .same _
    ·have l1:=KAre.length ks h4;have l2:=KAre.length ks' g4;rw[<- y1g]
     have:=SeqAt.RcAt.tuples (A:=A) (s:=s) (e:=sameAt ks ks') (show s.heap.IsTuple a it from⟨o,h1,h2,m,h3⟩) (show s.heap.IsTuple b it' from⟨o',g1,g2,m',g3⟩) (by omega) (fun j j1 j2=>by
      obtain⟨u,u1,u2⟩:=q7k ks h4 j it[j] (by simp[j1]);obtain⟨u',u1',u2'⟩:=q7k ks' g4 j it'[j] (by simp[j2]);obtain⟨sh',c1,c2⟩:=hc j u u' u1 u1';have hdj:=q79 ks j u u1;simp only[Kx.depth]at hd;have z:=ih u u' sh' _ _ A.in1 (by omega) c1 c2 u2 u2' (by rw[Around.in1_units];omega)
      have e:sameAt ks ks' j=decide (u=u'):=by
       unfold sameAt;rw[u1,u1']
       by_cases q:u=u'
       ·rw[q];simp
       ·rw[decide_eq_false q,decide_eq_false (fun z=>q (Option.some.inj z))]
      rw[e];exact z)
     rw[show it.size=ks.length by simpa using l1,show it'.size=ks'.length by simpa using l2]at this;exact .of_refs hab this
   cases sh with
   |tup ss=>
    cases k' with
    |tup ks'=>
     refine tail ks' rfl fun j u u' e1 e2=>?_
     obtain⟨s1,q1,q2⟩:=q8a ks ss c j u e1;obtain⟨s2,q3,q4⟩:=q8a ks' ss c' j u' e2;rw[q1]at q3;cases q3;exact⟨s1,q2,q4⟩
    |_=>exact c'.elim
   |many s1=>
    cases k' with
    |tup ks'=>exact tail ks' rfl fun j u u' e1 e2=>⟨s1,q8b ks s1 c j u e1,q8b ks' s1 c' j u' e2⟩
    |_=>exact c'.elim
   |_=>exact c.elim
theorem y1h:∀(n:Nat)(k:Kx)(v:Value)(s:Shared)(Q:Bool->Shared->Prop),k.depth<=n->KIs s.heap k v->Q true s->wpAny (model prog w) A (eqIsQuiet n v) Q E s:=by
 intro n
 induction n with
 |zero=>
  intro k v s Q hd x h;cases k with
  |non=>cases(show v=.none from x);rw[eqIsQuiet_byValue _ rfl];exact wpAny_pure h
  |bl b=>cases(show v=.bool b from x);rw[eqIsQuiet_byValue _ rfl];exact wpAny_pure h
  |int i=>obtain⟨t,rfl⟩:=x;rw[eqIsQuiet_byValue _ rfl];exact wpAny_pure h
  |str i=>obtain⟨t,rfl⟩:=x;rw[eqIsQuiet_byValue _ rfl];exact wpAny_pure h
  |tup ks=>simp only[Kx.depth]at hd;omega
 |succ n ih=>
  intro k v s Q hd x h;cases k with
  |non=>cases(show v=.none from x);rw[eqIsQuiet_byValue _ rfl];exact wpAny_pure h
  |bl b=>cases(show v=.bool b from x);rw[eqIsQuiet_byValue _ rfl];exact wpAny_pure h
  |int i=>obtain⟨t,rfl⟩:=x;rw[eqIsQuiet_byValue _ rfl];exact wpAny_pure h
  |str i=>obtain⟨t,rfl⟩:=x;rw[eqIsQuiet_byValue _ rfl];exact wpAny_pure h
  |tup ks=>
   obtain⟨a,o,it,m,rfl,h1,h2,h3,h4⟩:=x;have hT:s.TypeIs (.ref a) "tuple":=⟨o,h1,h2⟩;unfold eqIsQuiet;refine wpAny_bind (wpAny_specialOf hT F.slot_tuple_eq.lookup ?_);show wpAny _ _ (isInstance (.ref a) (.type "tuple") >>= _) _ _ s;refine wpAny_bind (wpAny_isInstance hT isSubtype_tuple_tuple ?_);simp only[w3e,w1l,if_false];refine wpAny_bind (wpAny_seqItems h1 h3 ?_);refine wpAny_bind ?_;show wpAny _ _ (forIn it _ _) _ _ s;rw[<- w4j];refine wpAny_forIn_list _ (fun rest r s'=>r.1=none/\s'=s/\∀v∈rest,∃k:Kx,k.depth<=n/\KIs s.heap k v) _ ?_ ?_ _ _ ⟨rfl,rfl,fun v hv=>?_⟩
   ·rintro v rest r s' ⟨hr,rfl,hall⟩;obtain⟨k,k1,k2⟩:=hall v w1m;refine wpAny_bind (ih k v _ _ k1 k2 ?_);simp only[w3e,w1l,if_false];exact wpAny_pure ⟨rfl,rfl,fun u hu'=>hall u (w1b _ hu')⟩
   ·rintro⟨r1,r2⟩ s' ⟨hr,rfl,_⟩;simp only at hr;subst hr;exact wpAny_pure h
   ·obtain⟨j,hj,e⟩:=w1t.mp hv;obtain⟨k,k1,k2⟩:=q7k ks h4 j v (by rw[w0a hj,e]);have:=q79 ks j k k1;simp only[Kx.depth]at hd;exact⟨k,by omega,k2⟩
noncomputable def treeKind(prog:Program)(w:World)(sh:Sh):HeapKind prog w Kx where
 is:=fun h k a=>KIs h k (.ref a)/\Conf k sh/\k.depth<=7
 hash:=kHash w
 draws:=kDraws
 room:=fun A=>A.units+8<cLine
 inj:=fun hx hy=>x5w _ _ hx.1 hy.1
 keeps:=fun {h h' k a d o es ep} x ho hd hs=>⟨x11 (fun b ob e1 e2 e3=>by
  have hne:b≠d:=by
   rintro rfl;rw[ho]at e1;cases e1;obtain⟨it,n,e⟩:=e3;rw[hd]at e;cases e
  exact(hs.2 b hne).trans e1) _ x.1,x.2⟩
 pyHash:=fun {A E s k a Q} hu hk h=>x5x k _ A s Q hk.1 (by have:=hk.2.2;omega) h
 eqBool:=fun {A E s x y a b Q} hu hx hy h=>z2a s 7 x y sh _ _ A hx.2.2 hx.2.1 hy.2.1 hx.1 hy.1 (by omega) prog w E Q h
 quiet:=fun {A E s k a Q} hk h=>y1h 8 k _ s Q (by have:=hk.2.2;omega) hk.1 h
set_option Elab.async false
set_option linter.all false
set_option maxRecDepth 100000
noncomputable abbrev Key:=Sum Int Str
noncomputable def keyIs:Key->Value->Bool
 |.inl k,v=>Value.isInt k v
 |.inr x,v=>Value.isStrOf x v
noncomputable def keyH(w:World):Key->Int
 |.inl k=>hashInt k
 |.inr x=>hashStr w x
theorem q1r:∀{k:Key}{v:Value},keyIs k v=true->(∃i t,k=Sum.inl i/\v=Value.int i t)\/(∃x t,k=Sum.inr x/\v=Value.str x t)
 |.inl i,v,h=>by
  obtain⟨t,e⟩:=Value.isInt_shape (k:=i) (v:=v) h;exact .inl ⟨i,t,rfl,e⟩
 |.inr x,v,h=>by
  obtain⟨t,e⟩:=Value.isStrOf_shape (x:=x) (v:=v) h;exact .inr ⟨x,t,rfl,e⟩
theorem x8g(i:Int)(t:Tok):keyIs (.inl i) (.int i t)=true:=by simp[keyIs,Value.isInt]
theorem x8h(x:Str)(t:Tok):keyIs (.inr x) (.str x t)=true:=by simp[keyIs,Value.isStrOf]
theorem y79(a b:Int):decide ((Sum.inl a:Key)=Sum.inl b)=(a==b):=by
 by_cases e:a=b
 ·subst e;simp
 ·have h:¬(Sum.inl a:Key)=Sum.inl b:=fun q=>e (Sum.inl.inj q)
  rw[decide_eq_false h];exact(beq_eq_false_iff_ne.mpr e).symm
theorem y8a(a b:Str):decide ((Sum.inr a:Key)=Sum.inr b)=decide (a=b):=by
 by_cases e:a=b
 ·subst e;simp
 ·have h:¬(Sum.inr a:Key)=Sum.inr b:=fun q=>e (Sum.inr.inj q)
  rw[decide_eq_false h,decide_eq_false e]
theorem y8b(a:Int)(b:Str):decide ((Sum.inl a:Key)=Sum.inr b)=false:=decide_eq_false (fun q=>nomatch q)
theorem y8c(a:Str)(b:Int):decide ((Sum.inr a:Key)=Sum.inl b)=false:=decide_eq_false (fun q=>nomatch q)
noncomputable def mixKind(prog:Program)(w:World):PySem.KeyKind prog w Key where
 is:=keyIs
 hash:=keyH w
 inj:=fun v a b ha hb=>by
  rcases q1r ha with⟨i,t,rfl,rfl⟩|⟨x,t,rfl,rfl⟩
  ·rcases q1r hb with⟨j,u,rfl,e⟩|⟨y,u,rfl,e⟩
   ·injection e with e1 _;rw[e1]
   ·exact nomatch e
  ·rcases q1r hb with⟨j,u,rfl,e⟩|⟨y,u,rfl,e⟩
   ·exact nomatch e
   ·injection e with e1 _;rw[e1]
 byValue:=fun k v h=>by
  rcases q1r h with⟨i,t,rfl,rfl⟩|⟨x,t,rfl,rfl⟩<;>rfl
 pyHash:=fun hv h=>by
  rcases q1r hv with⟨i,t,rfl,rfl⟩|⟨x,t,rfl,rfl⟩
  ·exact wpAny_pyHash_int h
  ·exact wpAny_pyHash_str h
 eqBool:=fun hu hv h=>by
  rcases q1r hu with⟨i,t,rfl,rfl⟩|⟨x,t,rfl,rfl⟩
  ·rcases q1r hv with⟨j,u,rfl,rfl⟩|⟨y,u,rfl,rfl⟩
   ·rw[y79]at h;exact wpAny_eqBool_int h
   ·rw[y8b]at h;exact SeqAt.EqAt.int_str i t y u _ _ _ _ h
  ·rcases q1r hv with⟨j,u,rfl,rfl⟩|⟨y,u,rfl,rfl⟩
   ·rw[y8c]at h;exact SeqAt.EqAt.str_int x t j u _ _ _ _ h
   ·rw[y8a]at h;exact wpAny_eqBool_str h
 «strs»:=fun k x t v h=>by
  rcases q1r h with⟨i,u,rfl,e⟩|⟨y,u,rfl,e⟩
  ·exact nomatch e
  ·injection e with e1 _
   subst e1;cases v<;>rfl
theorem x5l(prog:Program)(w:World)(i:Int)(t:Tok):(mixKind prog w).is (.inl i) (.int i t)=true:=x8g i t
theorem x5m(prog:Program)(w:World)(x:Str)(t:Tok):(mixKind prog w).is (.inr x) (.str x t)=true:=x8h x t
set_option genInjectivity true in
inductive V where
 |non|bl (b:Bool)|int (i:Int)|str (x:Str)|byt (b:Array UInt8)|flt (b:UInt64)|ref (a:Addr)|ty (n:String)
 deriving DecidableEq
variable{xs:List V}{v:V}
def RelV:V->Value->Prop
 |.non,u=>u=Value.none
 |.bl b,u=>u=Value.bool b
 |.int i,u=>∃t,u=Value.int i t
 |.str x,u=>∃t,u=Value.str x t
 |.byt b,u=>∃t,u=Value.bytes b t
 |.flt b,u=>∃t,u=Value.float b t
 |.ref a,u=>u=Value.ref a
 |.ty n,u=>u=Value.type n
abbrev Vals:List V->List Value->Prop:=Paired RelV
theorem Vals.length(r:Vals xs us):xs.length=us.length:=Paired.length r
theorem Vals.get:∀{xs:List V}{us:List Value}{i:Nat}{x:V},Vals xs us->xs[i]?=some x->∃u,us[i]?=some u/\RelV x u
 |_,_,_,_,.nil,e=>by simp at e
 |_,_,0,_,.cons r _,e=>by simp at e;subst e;exact⟨_,rfl,r⟩
 |_,_,i+1,x,.cons _ t,e=>by
  obtain⟨u,h1,h2⟩:=Vals.get (i:=i) (x:=x) t (by simpa using e);exact⟨u,by simpa using h1,h2⟩
theorem Vals.set{x:V}(r:RelV x u):∀{xs:List V}{us:List Value}(i:Nat),Vals xs us->Vals (xs.set i x) (us.set i u)
 |_,_,_,.nil=>.nil
 |_,_,0,.cons _ t=>.cons r t
 |_,_,i+1,.cons q t=>.cons q (Vals.set r i t)
theorem Vals.append:∀{xs ys:List V}{us ws:List Value},Vals xs us->Vals ys ws->Vals (xs++ys) (us++ws)
 |_,_,_,_,.nil,s=>s
 |_,_,_,_,.cons r t,s=>.cons r (Vals.append t s)
theorem Vals.take:∀{xs:List V}{us:List Value}(n:Nat),Vals xs us->Vals (xs.take n) (us.take n)
 |_,_,0,_=>.nil
 |_,_,_+1,.nil=>.nil
 |_,_,n+1,.cons r t=>.cons r (Vals.take n t)
theorem Vals.drop:∀{xs:List V}{us:List Value}(n:Nat),Vals xs us->Vals (xs.drop n) (us.drop n)
 |_,_,0,r=>r
 |_,_,_+1,.nil=>.nil
 |_,_,n+1,.cons _ t=>Vals.drop n t
def RelO:Option V->Option Value->Prop
 |some v,some u=>RelV v u
 |none,none=>True
 |_,_=>False
def KV{κ:Type}:List (κ×V)->List (κ×Value)->Prop:=Paired fun(p:κ×V) (q:κ×Value)=>p.1=q.1/\RelV p.2 q.2
noncomputable def kV:Key->V
 |.inl i=>.int i
 |.inr x=>.str x
inductive HO where
 /-- a list -/
 |lst (xs:List V)
 /-- a tuple (never changes) -/
 |tup (xs:List V)
 /-- a dict whose keys are ints and texts;one whose keys are tuples of ints and texts (the empty one is both) -/
 |dK (kvs:List (Key×V))|dT (sh:Sh) (kvs:List (Kx×V)) (kas:List Addr)
 /-- a set of ints: its members,its size -/
 |set (S:Int->Bool) (n:Nat)
 /-- an instance of the class at C,its dict at dx,its attributes -/
 |ins (C dx:Addr) (fs:List (Str×V))
 /-- the dict of the instance at x -/
 |own (x:Addr)
 /-- the dict of an exception -/
 |xd (fs:List (Str×V))
 /-- a bound method,f of x -/
 |met (f x:Addr)
 /-- a range object lo,lo+1,.. below hi -/
 |rng (lo hi:Int)
 /-- a thing that is known to the object (the script;a dict while a loop walks it): read,never written while it is so -/
 |frz (o:Obj) (u:HO)
 /-- a code object's table -/
 |tbl (ps:Array Value)
 /-- any other thing,by what is true of its one object (a def of one's own: SetO a S n:=HO.ext fun h=>..) -/
 |ext (φ:Heap->Prop)
noncomputable abbrev Hp:=Addr->Option HO
variable{H H':Hp}
def TupLike:HO->Prop
 |.tup _=>True
 |.frz _ (.tup _)=>True
 |.frz _ (.own _)=>True
 |_=>False
mutual
def KRep(H:Hp):Kx->V->Prop
 |.non,v=>v=.non
 |.bl b,v=>v=.bl b
 |.int i,v=>v=.int i
 |.str x,v=>v=.str x
 |.tup ks,v=>∃a xs,v=.ref a/\(H a=some (.tup xs)\/∃o,H a=some (.frz o (.tup xs)))/\KReps H ks xs
def KReps(H:Hp):List Kx->List V->Prop
 |[],vs=>vs=[]
 |k::ks,vs=>∃v r,vs=v::r/\KRep H k v/\KReps H ks r
end
mutual
theorem KRep.keeps{H H':Hp}(ht:∀b u,TupLike u->H b=some u->H' b=some u):∀(k:Kx){v:V},KRep H k v->KRep H' k v
 |.non,_,x=>x
 |.bl _,_,x=>x
 |.int _,_,x=>x
 |.str _,_,x=>x
 |.tup ks,_,x=>by
  obtain⟨a,xs,e,q,r⟩:=x;refine⟨a,xs,e,?_,KReps.keeps ht ks r⟩;rcases q with q|⟨o,q⟩
  ·exact .inl (ht _ _ True.intro q)
  ·exact .inr ⟨o,ht _ _ True.intro q⟩
theorem KReps.keeps{H H':Hp}(ht:∀b u,TupLike u->H b=some u->H' b=some u):∀(ks:List Kx){vs:List V},KReps H ks vs->KReps H' ks vs
 |[],_,x=>x
 |k::ks,_,x=>by
  obtain⟨v,r,e,h1,h2⟩:=x;exact⟨v,r,e,KRep.keeps ht k h1,KReps.keeps ht ks h2⟩
end
noncomputable def upd(H:Hp)(a:Addr)(o:HO):Hp:=fun b=>if b=a then some o else H b
theorem q0h{o:HO}:upd H a o a=some o:=by unfold upd;rw[if_pos rfl]
theorem q0d{o:HO}(h:b≠a):upd H a o b=H b:=by unfold upd;rw[if_neg h]
theorem q06{o u:HO}(h:H a=some o)(h':H b=some u)(d:o≠u):a≠b:=by
 intro e;subst e;rw[h]at h';exact d (Option.some.inj h')
theorem q0m{o:HO}(h:H a=some o)(h':H b=none):a≠b:=by
 intro e;subst e;rw[h]at h';cases h'
section
variable(P:Program)(w:World)
def BareT(h:Heap)(a:Addr):Prop:=∃o,h.get? a=some o/\o.dict=none
def ObjOk(H:Hp)(h:Heap)(a:Addr):HO->Prop
 |.lst xs=>xs.length<=sizeLine/\∃(its:List Value)(n:Nat),Vals xs its/\h.get? a=some {cls:=.type "list", data:=.seq its.toArray n}
 |.tup xs=>xs.length<=sizeLine/\∃its:List Value,Vals xs its/\IsTup h a its.toArray/\BareT h a
 |.dK kvs=>kvs.length<=sizeLine/\(a==sysModules)=false/\∃vs,KV kvs vs/\h.DictOf (mixKind P w) a vs
 |.dT sh kvs kas=>kvs.length<=sizeLine/\(a==sysModules)=false/\∃xs:List (Kx×Addr×Value),
   Paired (fun(p:Kx×V) (q:Kx×Addr×Value)=>p.1=q.1/\(KRep H p.1 (.ref q.2.1)/\Conf p.1 sh/\p.1.depth<=7)/\RelV p.2 q.2.2) kvs xs/\xs.map (·.2.1)=kas /\
   ∃o es ep,h.get? a=some o/\o.ExactDict/\o.data=.dict es ep/\es.toList=xs.map (entryOfKey (treeKind P w sh))/\(xs.map (·.1)).Nodup
 |.set S n=>h.SetOf (intKind P w) a S n
 |.ins C dx fs=>H dx=some (.own a)/\fs.length<=1000/\dx≠a/\h.get? a=some (PySem.W.instObj C dx) /\
   ∃mA,h.Ns1 dx mA/\(∀f,RelO (fs.lookup f) (mA f))/\PySem.Within mA (fs.map (·.1))
 |.own _=>∃o,h.get? a=some o
 |.xd fs=>∃mA,h.Ns1 a mA/\∀f,RelO (fs.lookup f) (mA f)
 |.rng lo hi=>∃t u v,h.get? a=some {cls:=.type "range", data:=.fields #[.int lo t,.int hi u,.int 1 v]}
 |.frz o u=>h.get? a=some o/\ObjOk H h a u
 |.tbl ps=>(∃(q:Str)(qs:Array Value),ps[0]?=some (.bool true)/\ps[1]?=some (.str q 0)/\h.get? a=some {cls:=.none,data:=.fields qs}/\TriplesOk qs.toList/\∀(pos:Pos)(cv:Value),codeAmong pos qs.toList=some cv ->
   ∃(c:Addr)(oc:Obj)(vs:Array Value)(t:Tok),cv=.ref c/\H c=some (.frz oc (.own 0))/\oc.data=.fields vs/\vs[1]?=some (.str q t)) \/
   ∃(q:Str)(c:Addr)(oc ob:Obj)(vs:Array Value)(t:Tok),ps[0]?=some (.bool false)/\ps[1]?=some (.str q 0)/\ps[2]?=some (.ref c)/\H c=some (.frz oc (.own 0))/\oc.data=.fields vs/\vs[1]?=some (.str q t)/\h.get? a=some ob
 |.met f x=>h.get? a=some (methodObj (.ref f) (.ref x))
 |.ext φ=>φ h/\(∃o,h.get? a=some o)/\∀h1 h2:Heap,φ h1->(∀o,h1.get? a=some o->h2.get? a=some o)->φ h2
def HOk(H:Hp)(h:Heap):Prop:=∀a o,H a=some o->ObjOk P w H h a o
end
section
variable{o:HO}
theorem ObjOk.lt(x:ObjOk P w H h a o):a<h.objs.size:=by
 cases o with
 |lst xs=>obtain⟨_,_,_,_,e⟩:=x;exact Heap.lt_size e
 |tup xs=>obtain⟨_,_,_,p,_⟩:=x;exact p.lt
 |dK kvs=>obtain⟨_,_,_,_,o,_,_,e,_⟩:=x;exact Heap.lt_size e
 |dT sh kvs kas=>obtain⟨_,_,_,_,_,o,_,_,e,_⟩:=x;exact Heap.lt_size e
 |set S n=>obtain⟨o,_,_,_,e,_⟩:=x;exact Heap.lt_size e
 |ins C dx fs=>obtain⟨_,_,_,e,_⟩:=x;exact Heap.lt_size e
 |own y=>obtain⟨_,e⟩:=x;exact Heap.lt_size e
 |xd fs=>obtain⟨_,⟨_,_,_,e,_⟩,_⟩:=x;exact Heap.lt_size e
 |rng lo hi=>obtain⟨_,_,_,e⟩:=x;exact Heap.lt_size e
 |frz ob u=>obtain⟨e,_⟩:=x;exact Heap.lt_size e
 |tbl ps=>rcases x with⟨_,_,_,_,e,_⟩|⟨_,_,_,_,_,_,_,_,_,_,_,_,e⟩<;>exact Heap.lt_size e
 |met f y=>exact Heap.lt_size (show h.get? a=some _ from x)
 |ext φ=>obtain⟨_,⟨_,e⟩,_⟩:=x;exact Heap.lt_size e
theorem Paired.mapP{α β:Type}{F G:α->β->Prop}:∀{l₁:List α}{l₂:List β},Paired F l₁ l₂->(∀a b,F a b->G a b)->Paired G l₁ l₂
 |_,_,.nil,_=>.nil
 |_,_,.cons r t,f=>.cons (f _ _ r) (Paired.mapP t f)
theorem ObjOk.stay(x:ObjOk P w H h a o)(k:∀b u,(b=a\/H b=some (.own a))->h.get? b=some u->h'.get? b=some u)
  (ho:∀b,H b=some (.own a)->H' b=some (.own a))(ht:∀b u,TupLike u->H b=some u->H' b=some u):ObjOk P w H' h' a o:=by
 induction o with
 |lst xs=>obtain⟨z,its,n,r,e⟩:=x;exact⟨z,its,n,r,k _ _ (.inl rfl) e⟩
 |tup xs=>obtain⟨z,its,r,⟨ob,e,c⟩,⟨o2,e2,c2⟩⟩:=x;exact⟨z,its,r,⟨ob,k _ _ (.inl rfl) e,c⟩,⟨o2,k _ _ (.inl rfl) e2,c2⟩⟩
 |dK kvs=>obtain⟨z,y,vs,r,ob,es,ep,e,c⟩:=x;exact⟨z,y,vs,r,ob,es,ep,k _ _ (.inl rfl) e,c⟩
 |dT sh kvs kas=>
  obtain⟨z,y,xs,r,ka,ob,es,ep,e,c⟩:=x;exact⟨z,y,xs,Paired.mapP r fun p q z=>⟨z.1,⟨KRep.keeps ht _ z.2.1.1,z.2.1.2⟩,z.2.2⟩,ka,ob,es,ep,k _ _ (.inl rfl) e,c⟩
 |set S n=>obtain⟨ob,es,ep,t,e,c⟩:=x;exact⟨ob,es,ep,t,k _ _ (.inl rfl) e,c⟩
 |ins C dx fs=>
  obtain⟨d,z,ne,e,mA,⟨od,es,ep,e2,c⟩,r⟩:=x;exact⟨ho _ d,z,ne,k _ _ (.inl rfl) e,mA,⟨od,es,ep,k _ _ (.inr d) e2,c⟩,r⟩
 |own y=>obtain⟨ob,e⟩:=x;exact⟨ob,k _ _ (.inl rfl) e⟩
 |xd fs=>obtain⟨mA,⟨od,es,ep,e,c⟩,r⟩:=x;exact⟨mA,⟨od,es,ep,k _ _ (.inl rfl) e,c⟩,r⟩
 |rng lo hi=>obtain⟨t,u,v,e⟩:=x;exact⟨t,u,v,k _ _ (.inl rfl) e⟩
 |frz ob u ih=>obtain⟨e,q⟩:=x;exact⟨k _ _ (.inl rfl) e,ih q⟩
 |tbl ps=>
  rcases x with⟨q,qs,p0,p1,e,tr,cd⟩|⟨q,c,oc,ob,vs,t,p0,p1,p2,h3,h4,h5,e⟩
  ·refine .inl ⟨q,qs,p0,p1,k _ _ (.inl rfl) e,tr,fun pos cv z=>?_⟩
   obtain⟨c,oc,vs,t,h1,h3,h4,h5⟩:=cd pos cv z;exact⟨c,oc,vs,t,h1,ht _ _ True.intro h3,h4,h5⟩
  ·exact .inr ⟨q,c,oc,ob,vs,t,p0,p1,p2,ht _ _ True.intro h3,h4,h5,k _ _ (.inl rfl) e⟩
 |met f y=>
  have e:h.get? a=some (methodObj (.ref f) (.ref y)):=x;show h'.get? a=some (methodObj (.ref f) (.ref y));exact k a _ (.inl rfl) e
 |ext φ=>obtain⟨p,⟨o,e⟩,st⟩:=x;exact⟨st _ _ p fun o q=>k _ _ (.inl rfl) q,⟨o,k _ _ (.inl rfl) e⟩,st⟩
theorem HOk.lt(x:HOk P w H h)(e:H a=some o):a<h.objs.size:=(x a o e).lt
theorem HOk.fresh(x:HOk P w H h)(e:h.objs.size<=a):H a=none:=by
 cases q:H a with
 |none=>rfl
 |some u=>exact absurd (w0m (x.lt q) e) (w1o _)
theorem HOk.kept(x:HOk P w H h)(k:∀b u,h.get? b=some u->h'.get? b=some u):HOk P w H h':=fun a o e=>
 (x a o e).stay (fun b u _ q=>k b u q) (fun _ q=>q) fun _ _ _ q=>q
theorem HOk.laid(x:HOk P w H h)(k:∀b u,h.get? b=some u->h'.get? b=some u)(hp:h.objs.size<=a)(new:ObjOk P w (upd H a o) h' a o):HOk P w (upd H a o) h':=fun b u e=>by
 have hn:=x.fresh hp
 by_cases hb:b=a
 ·subst hb;rw[q0h]at e;cases e;exact new
 ·rw[q0d hb]at e;exact(x b u e).stay (fun c v _ q=>k c v q) (fun c q=>by rw[q0d (q0m q hn)];exact q) fun c xs _ q=>by rw[q0d (q0m q hn)];exact q
end
def Rd(H:Hp)(a:Addr)(u:HO):Prop:=H a=some u\/∃o,H a=some (.frz o u)
theorem Rd.ok{u:HO}(r:Rd H a u)(x:HOk P w H h):ObjOk P w H h a u:=by
 rcases r with r|⟨o,r⟩
 ·exact x a u r
 ·obtain⟨_,q⟩:=x a _ r;exact q
def Mut:Option HO->Prop
 |some (.lst _)=>True
 |some (.dK _)=>True
 |some (.dT _ _ _)=>True
 |some (.set _ _)=>True
 |some (.ins _ _ _)=>True
 |some (.ext _)=>True
 |_=>False
section
variable{x e:Addr}{o':HO}
theorem HOk.write(ok:HOk P w H h)(mu:Mut (H x))(he:e=x\/H e=some (.own x))(k:∀b u,b≠e->h.get? b=some u->h'.get? b=some u)(heo:∃u,h'.get? e=some u)
  (new:ObjOk P w (upd H x o') h' x o'):HOk P w (upd H x o') h':=fun b u q=>by
 have nown:∀c y,H c=some (.own y)->c≠x:=fun c y r z=>by subst z;rw[r]at mu;exact mu
 have ntup:∀c u,TupLike u->H c=some u->c≠x:=fun c u t r z=>by
  subst z;rw[r]at mu;cases u<;>first|exact mu|exact t
 by_cases hb:b=x
 ·subst hb;rw[q0h]at q;cases q;exact new
 ·rw[q0d hb]at q
  by_cases hbe:b=e
  ·have q':H b=some (.own x):=by
    rcases he with z|z
    ·exact absurd (hbe.trans z) hb
    ·rw[hbe];exact z
   rw[q]at q';cases q';obtain⟨v,hv⟩:=heo;exact⟨v,by rw[hbe];exact hv⟩
  ·refine(ok b u q).stay (fun c v hc r=>k c v ?_ r) (fun c r=>by rw[q0d (nown c b r)];exact r) fun c xs t r=>by rw[q0d (ntup c xs t r)];exact r
   rcases hc with rfl|hc
   ·exact hbe
   ·rintro rfl;rcases he with z|z
    ·exact nown c b hc z
    ·rw[hc]at z;cases z;exact hb rfl
end
structure Un(fs ex:List Addr)(H H':Hp)(h h':Heap):Prop where
 keep:∀b o,h.get? b=some o->H b=none->b∉fs->b∉ex->h'.get? b=some o
 slot:∀b o,h.get? b=some o->H b=none->b∈fs->b∉ex->∃sl,h'.get? b=some {o with slots:=sl}
 free:∀b o,h.get? b=some o->H b=none->b∉ex->H' b=none
 there:∀b o,h.get? b=some o->b∉ex->∃o',h'.get? b=some o'
 tups:∀b xs,H b=some (.tup xs)->H' b=some (.tup xs)
 frzs:∀b o u,H b=some (.frz o u)->H' b=some (.frz o u)
 tbls:∀b ps,H b=some (.tbl ps)->∃more,H' b=some (.tbl (ps++more))
section
variable{fs fs' ex ex':List Addr}{H1 H2:Hp}{h1 h2:Heap}{x e:Addr}{o:HO}
theorem Un.any(u:Un fs ex H H1 h h1){ob:Obj}(q:h.get? b=some ob)(n:H b=none)(hx:b∉ex):∃sl,h1.get? b=some {ob with slots:=sl}:=by
 by_cases hb:b∈fs
 ·exact u.slot b ob q n hb hx
 ·exact⟨ob.slots,u.keep b ob q n hb hx⟩
theorem Un.kept(k:∀b u,h.get? b=some u->h'.get? b=some u):Un fs ex H H h h':=
 ⟨fun b ob q _ _ _=>k b ob q,fun b ob q _ _ _=>⟨ob.slots,k b ob q⟩,fun _ _ _ n _=>n,fun b ob q _=>⟨ob,k b ob q⟩,fun _ _ q=>q,fun _ _ _ q=>q,fun _ ps q=>⟨#[],by rw[q];simp⟩⟩
theorem Un.refl:Un fs ex H H h h:=Un.kept fun _ _ q=>q
theorem Un.laid(k:∀b u,h.get? b=some u->h'.get? b=some u)(hp:h.objs.size<=a)(hn:H a=none):Un fs ex H (upd H a o) h h' where
 keep:=fun b u q _ _ _=>k b u q
 slot:=fun b u q _ _ _=>⟨u.slots,k b u q⟩
 free:=fun b u q n _=>by rw[q0d (w0p (w0m (Heap.lt_size q) hp))];exact n
 there:=fun b u q _=>⟨u,k b u q⟩
 tups:=fun b xs q=>by rw[q0d (q0m q hn)];exact q
 frzs:=fun b u xs q=>by rw[q0d (q0m q hn)];exact q
 tbls:=fun b ps q=>⟨#[],by rw[q0d (q0m q hn),q];simp⟩
theorem Un.write(mu:Mut (H x))(he:e=x\/H e=some (.own x))(k:∀b u,b≠e->h.get? b=some u->h'.get? b=some u)(heo:∃u,h'.get? e=some u):Un fs ex H (upd H x o) h h':=by
 have hx:∀b,H b=none->b≠x:=fun b n z=>by subst z;rw[n]at mu;exact mu
 have hb:∀b,H b=none->b≠e:=fun b n z=>by
  subst z;rcases he with r|r
  ·exact hx b n r
  ·rw[n]at r;cases r
 have hm:∀b u,H b=some u->¬Mut (some u)->b≠x:=fun b u q nm z=>by subst z;rw[q]at mu;exact nm mu
 refine⟨fun b u q n _ _=>k b u (hb b n) q,fun b u q n _ _=>⟨u.slots,k b u (hb b n) q⟩,fun b u q n _=>by rw[q0d (hx b n)];exact n,fun b u q _=>?_,
  fun b xs q=>by rw[q0d (hm b _ q fun z=>z)];exact q,fun b u xs q=>by rw[q0d (hm b _ q fun z=>z)];exact q,fun b ps q=>⟨#[],by rw[q0d (hm b _ q fun z=>z),q];simp⟩⟩
 by_cases hbe:b=e
 ·subst hbe;exact heo
 ·exact⟨u,k b u hbe q⟩
end
noncomputable def trk(h:Heap)(H:Hp):List Addr:=(List.range h.objs.size).filter fun a=>(H a).isSome
noncomputable def hidT(h:Heap)(H:Hp):Heap:=PySem.W.hideAll h (trk h H)
theorem x13(h:Heap)(H:Hp):(hidT h H).objs.size=h.objs.size:=PySem.W.hideAll_size _ _
theorem x3k{o:Obj}(e:h.get? b=some o)(n:H b=none):(hidT h H).get? b=some o:=
 hideAll_get _ e fun hm=>by
  have q:(H b).isSome=true:=(w3t.mp hm).2;rw[n]at q;simp at q
theorem x5z{o:Obj}(e:(hidT h H).get? b=some o):h.get? b=some o/\H b=none:=by
 have e':h.get? b=some o:=PySem.W.of_hideAll (trk h H) e;refine⟨e',?_⟩;cases q:H b with
 |none=>rfl
 |some x=>
  have hm:b∈trk h H:=w3t.mpr ⟨w1d.mpr (Heap.lt_size e'),by simp[q]⟩;have z:(hidT h H).get? b=none:=PySem.W.hideAll_none (trk h H) hm;rw[z]at e;cases e
noncomputable def allNews(g h:Heap)(L:Addr):List (Addr×Obj):=(List.range h.objs.size).filterMap fun a=>if a=L\/(g.get? a).isSome=true then none else(h.get? a).map fun o=>(a,o)
noncomputable def rest(g h:Heap)(L d:Addr):List (Addr×Obj):=(allNews g h L).filter fun p=>decide (p.1≠d)
structure Mod(K:PySem.W.Frag)(mg:Str->Option Value)(base:Heap):Prop where
 kin:K.In base
 glob:base.Ns mainGlobals mg
 blt:∃mb,base.Ns builtinsNs mb/\∀x:Str,x≠"__name__"->mb x=bootBuiltins x
 nolimit:base.NoLimit
structure Cx where
 prog:Program
 w:World
 K:PySem.W.Frag
 mg:Str->Option Value
 base:Heap
 A:Around
 N:List Str
 s₀:Shared
 H₀:Hp
 env:Env
 outer:List Env
 stack:List Env
 ex:List Addr
 fn:Str->Bool
 calm:Bool
 pn:List (Addr×Obj)
 xe:Value->Shared->Prop
variable{X:Cx}
noncomputable def frs(l:List Env):List Addr:=l.filterMap (·.frame)
noncomputable abbrev Cx.fs(X:Cx):List Addr:=frs X.outer
def Vis(sc:Scope)(x:Str):Prop:=sc.names.lookup x=some .local\/sc.names.lookup x=some .cell\/sc.names.lookup x=some .free
def Loc(sc:Scope)(x:Str):Prop:=sc.names.lookup x=some .local\/sc.names.lookup x=some .cell
def Look(env:Env)(h:Heap)(m:Str->Option Value)(x:Str)(u:Value):Prop:=
 (env.kindOf x=some .local/\m x=some u)\/((env.kindOf x=some .cell\/env.kindOf x=some .free)/\∃c,env.cells.lookup x=some c/\h.IsCell c (some u))
noncomputable abbrev markO(P:Addr)(q:Str):Obj:={cls:=.str q 0,data:=.fields #[.ref P]}
def TabOk(K:PySem.W.Frag)(H:Hp):Prop:=∀(a:Addr)(q:Str)(P:Addr),(a,markO P q)∈K->∃ps:Array Value,H P=some (.tbl ps)/\ps[0]?=some (.bool true)/\ps[1]?=some (.str q 0)
noncomputable def noMark(K:PySem.W.Frag):Bool:=K.all fun p=>match p.2.cls with
 |.str _ _=>false
 |_=>true
theorem TabOk.vac(h:noMark K=true):TabOk K H:=fun a q P m=>by
 have:=w1c.mp h _ m;cases this
theorem TabOk.un{fs ex:List Addr}{h':Heap}(t:TabOk K H)(u:Un fs ex H H' h h'):TabOk K H':=fun a q P m=>by
 obtain⟨ps,e,p0,p1⟩:=t a q P m;obtain⟨more,e'⟩:=u.tbls P ps e;refine⟨_,e',?_,?_⟩
 ·rw[w1v (by obtain⟨z,_⟩:=w2d.mp p0;exact z)];exact p0
 ·rw[w1v (by obtain⟨z,_⟩:=w2d.mp p1;exact z)];exact p1
theorem TabOk.laid{D:Addr}{o:HO}(t:TabOk K H)(hn:H D=none):TabOk K (upd H D o):=fun a q P m=>by
 obtain⟨ps,e,p⟩:=t a q P m;exact⟨ps,by rw[q0d (q0m e hn)];exact e,p⟩
structure Cx.Ok(X:Cx):Prop where
 mod:Mod X.K X.mg X.base
 kind:X.env.scope.kind=.function
 glob:X.env.globals=mainGlobals
 blt:X.env.builtins=builtinsNs
 above:X.s₀.heap.objs.size<=X.env.locals
 inj:∀x y c,X.env.cells.lookup x=some c->X.env.cells.lookup y=some c->x=y
 has:∀x,(X.env.kindOf x=some .cell\/X.env.kindOf x=some .free)->∃c,X.env.cells.lookup x=some c
 cab:∀x c,X.fn x=true->X.env.cells.lookup x=some c->X.s₀.heap.objs.size<=c
 hd:X.calm=true->X.A.handled=none
 frames:X.A.frames=some X.stack
 stk:X.stack=X.outer\/(X.stack=X.env::X.outer/\X.env.frame=some X.env.locals)
 exf:∀b∈X.ex,b≠X.env.locals/\∀x c,X.env.cells.lookup x=some c->c≠b
 bs:∀b o,X.base.get? b=some o->X.s₀.heap.get? b=some o/\X.H₀ b=none
 bsz:X.base.objs.size<=X.s₀.heap.objs.size
 noex:∀b o,X.base.get? b=some o->b∉X.ex
 exfs:∀b∈X.ex,b∉X.fs
 funs:X.s₀.heap.FunFrames X.base X.outer
 frf:∀b∈X.fs,X.H₀ b=none
 tab:TabOk X.K X.H₀
structure Inv(X:Cx)(pins:List (Addr×Obj))(σ:List (Option V))(H:Hp)(s:Shared):Prop where
 ok:X.Ok
 os:s.os=X.s₀.os
 bare:AllBare s.gens
 base:Un X.fs X.ex X.H₀ H X.s₀.heap s.heap
 loc:∃m,s.heap.Ns X.env.locals m/\∀(i:Nat)(x:Str)(v:V),X.N[i]?=some x->σ[i]?=some (some v)->Vis X.env.scope x->∃u,RelV v u/\Look X.env s.heap m x u
 cell:∀x c,X.env.cells.lookup x=some c->∃v,s.heap.IsCell c v
 free:H X.env.locals=none
 freeC:∀x c,X.env.cells.lookup x=some c->H c=none
 pin:∀p∈X.pn++pins,s.heap.get? p.1=some p.2/\H p.1=none/\p.1≠X.env.locals/\p.1∉X.fs/\∀v,p.2.data≠.cell v
 hok:HOk X.prog X.w H s.heap
 len:σ.length=X.N.length
section
variable{σ:List (Option V)}
theorem Cx.Ok.nofr(ok:X.Ok){o:Obj}(e:X.base.get? b=some o):b∉X.fs:=fun hb=>by
 have:=(ok.funs.mem hb).1
 rw[e]at this;cases this
theorem Inv.bs(I:Inv X pins σ H s):∀b o,X.base.get? b=some o->s.heap.get? b=some o/\H b=none:=fun b o e=>
 ⟨I.base.keep b o (I.ok.bs b o e).1 (I.ok.bs b o e).2 (I.ok.nofr e) (I.ok.noex b o e),I.base.free b o (I.ok.bs b o e).1 (I.ok.bs b o e).2 (I.ok.noex b o e)⟩
theorem Inv.bk(I:Inv X pins σ H s):∀b o,X.base.get? b=some o->s.heap.get? b=some o:=fun b o e=>(I.bs b o e).1
theorem Inv.mod(I:Inv X pins σ H s):Mod X.K X.mg X.base:=I.ok.mod
theorem Inv.kIn(I:Inv X pins σ H s):X.K.In s.heap:=I.ok.mod.kin.keeps I.bk
theorem Inv.fr(I:Inv X pins σ H s):∃m,Fr X.base X.env.locals s.heap m:=
 let ⟨m,hn,_⟩:=I.loc
 ⟨m,hn,I.bk,w1e I.ok.bsz I.ok.above⟩
theorem Inv.lt(I:Inv X pins σ H s):X.env.locals<s.heap.objs.size:=let ⟨_,hn,_⟩:=I.loc;hn.lt
theorem Inv.sz(I:Inv X pins σ H s):X.s₀.heap.objs.size<=s.heap.objs.size:=w1e I.ok.above (w3u I.lt)
theorem Inv.nofs(I:Inv X pins σ H s)(h:s.heap.objs.size<=a):a∉X.fs:=fun hb=>by
 obtain⟨_,o,ho,_⟩:=I.ok.funs.mem hb
 exact absurd (w0m (Heap.lt_size ho) (w1e I.sz h)) (w1o _)
theorem Inv.cne(I:Inv X pins σ H s):∀x c,X.env.cells.lookup x=some c->c≠X.env.locals:=fun x c e z=>by
 obtain⟨v,o,ho,hd⟩:=I.cell x c e;obtain⟨m,⟨o',es,ep,ho',hd',_⟩,_⟩:=I.loc;rw[z,ho']at ho;cases ho;rw[hd']at hd;cases hd
theorem Inv.funs(I:Inv X pins σ H s):s.heap.FunFrames X.base X.outer:=by
 have all:∀(l:List Env),(∀b∈frs l,b∈X.fs)->X.s₀.heap.FunFrames X.base l->s.heap.FunFrames X.base l:=by
  intro l
  induction l with
  |nil=>intro _ _;trivial
  |cons env r ih=>
   intro hs hl;obtain⟨hk,⟨L,o,hf,hn,ho,hd⟩,hr⟩:=hl;have hL:L∈X.fs:=hs L (by unfold frs;rw[w3f,hf];exact w1m);obtain⟨sl,e⟩:=I.base.slot L o ho (I.ok.frf L hL) hL fun z=>I.ok.exfs L z hL
   exact⟨hk,⟨L,_,hf,hn,e,hd⟩,ih (fun b hb=>hs b (by unfold frs;rw[w3f,hf];exact w1b _ hb)) hr⟩
 exact all X.outer (fun _ hb=>hb) I.ok.funs
theorem Inv.stack(I:Inv X pins σ H s):s.heap.FunFrames X.base X.stack:=by
 rcases I.ok.stk with e|⟨e,hf⟩
 ·rw[e];exact I.funs
 ·rw[e];obtain⟨m,hn,_⟩:=I.loc;refine .cons (by rw[I.ok.kind];decide) hf hn ?_ I.funs
  exact Heap.get?_none_of_le (w1e I.ok.bsz I.ok.above)
theorem Inv.stkSub(I:Inv X pins σ H s):∀b∈frs X.stack,b∈X.env.locals::X.fs:=fun b hb=>by
 rcases I.ok.stk with e|⟨e,hf⟩
 ·rw[e]at hb;exact w1b _ hb
 ·rw[e]at hb;unfold frs at hb;rw[w3f,hf]at hb;exact hb
theorem Inv.stkFree(I:Inv X pins σ H s):∀b∈frs X.stack,H b=none:=fun b hb=>by
 rcases w0q.mp (I.stkSub b hb)with e|hb
 ·rw[e];exact I.free
 ·obtain⟨_,o,ho,_⟩:=I.ok.funs.mem hb
  exact I.base.free b o ho (I.ok.frf b hb) fun z=>I.ok.exfs b z hb
theorem Inv.step{g':Array GenState}{d':Drawn}{ch:List Addr}(I:Inv X pins σ H s)
  (hch:∀b∈ch,(b∈X.ex\/X.s₀.heap.objs.size<=b)/\b≠X.env.locals/\(∀x c,X.env.cells.lookup x=some c->c≠b)/\∀p∈X.pn++pins,p.1≠b)
  (keep:∀b o,b≠X.env.locals->b∉X.fs->b∉ch->s.heap.get? b=some o->H b=none->h'.get? b=some o)
  (slot:∀b o,b≠X.env.locals->b∈X.fs->b∉ch->s.heap.get? b=some o->H b=none->∃sl,h'.get? b=some {o with slots:=sl})(free:∀b o,b∉ch->s.heap.get? b=some o->H b=none->H' b=none)
  (there:∀b o,b∉ch->s.heap.get? b=some o->∃o',h'.get? b=some o')
  (tups:∀b xs,H b=some (.tup xs)->H' b=some (.tup xs))(frzs:∀b o u,H b=some (.frz o u)->H' b=some (.frz o u))(tbls:∀b ps,H b=some (.tbl ps)->∃more,H' b=some (.tbl (ps++more)))
  (ns:∀m,s.heap.Ns X.env.locals m->h'.Ns X.env.locals m)(hok:HOk X.prog X.w H' h')(hg:AllBare g'):
  Inv X pins σ H' {s with heap:=h',gens:=g',drawn:=d',toks:=t'}:=by
 have neL:∀b o,X.s₀.heap.get? b=some o->b≠X.env.locals:=fun b o e=>w0p (w0m (Heap.lt_size e) I.ok.above)
 have neC:∀b o,X.s₀.heap.get? b=some o->b∉X.ex->b∉ch:=fun b o e hx hb=>by
  rcases(hch b hb).1 with z|z
  ·exact hx z
  ·exact absurd (w0m (Heap.lt_size e) z) (w1o _)
 have cellK:∀x c,X.env.cells.lookup x=some c->∀v,s.heap.IsCell c v->h'.IsCell c v:=fun x c e v ⟨o,ho,hd⟩=>by
  have nch:c∉ch:=fun z=>(hch c z).2.2.1 x c e rfl
  by_cases hc:c∈X.fs
  ·obtain⟨sl,q⟩:=slot c o (I.cne x c e) hc nch ho (I.freeC x c e);exact⟨_,q,hd⟩
  ·exact⟨o,keep c o (I.cne x c e) hc nch ho (I.freeC x c e),hd⟩
 refine⟨I.ok,I.os,hg,⟨fun b o e n hb hx=>?_,fun b o e n hb hx=>?_,fun b o e n hx=>?_,fun b o e hx=>?_,fun b xs e=>tups b xs (I.base.tups b xs e),fun b o xs e=>frzs b o xs (I.base.frzs b o xs e),fun b ps e=>?_⟩,?_,fun x c e=>?_,?_,fun x c e=>?_,fun p hp=>?_,hok,I.len⟩
 ·exact keep b o (neL b o e) hb (neC b o e hx) (I.base.keep b o e n hb hx) (I.base.free b o e n hx)
 ·obtain⟨sl,e1⟩:=I.base.slot b o e n hb hx;obtain⟨sl',e2⟩:=slot b _ (neL b o e) hb (neC b o e hx) e1 (I.base.free b o e n hx);exact⟨sl',e2⟩
 ·obtain⟨o',e1⟩:=I.base.there b o e hx;exact free b o' (neC b o e hx) e1 (I.base.free b o e n hx)
 ·obtain⟨o',e1⟩:=I.base.there b o e hx;exact there b o' (neC b o e hx) e1
 ·obtain⟨m1,e1⟩:=I.base.tbls b ps e;obtain⟨m2,e2⟩:=tbls b _ e1;exact⟨m1++m2,by rw[e2,Array.append_assoc]⟩
 ·obtain⟨m,hn,hl⟩:=I.loc;refine⟨m,ns m hn,fun i x v e1 e2 e3=>?_⟩
  obtain⟨u,r,l⟩:=hl i x v e1 e2 e3;refine⟨u,r,?_⟩;rcases l with l|⟨k,c,e,z⟩
  ·exact .inl l
  ·exact .inr ⟨k,c,e,cellK x c e _ z⟩
 ·obtain⟨v,z⟩:=I.cell x c e;exact⟨v,cellK x c e v z⟩
 ·obtain⟨m,⟨o,_,_,ho,_⟩,_⟩:=I.loc;exact free _ o (fun z=>(hch _ z).2.1 rfl) ho I.free
 ·obtain⟨v,o,ho,hd⟩:=I.cell x c e;exact free c o (fun z=>(hch c z).2.2.1 x c e rfl) ho (I.freeC x c e)
 ·obtain⟨e,n,ne,nf,d⟩:=I.pin p hp;have nch:p.1∉ch:=fun z=>(hch p.1 z).2.2.2 p hp rfl
  exact⟨keep p.1 p.2 ne nf nch e n,free p.1 p.2 nch e n,ne,nf,d⟩
theorem Inv.un(I:Inv X pins σ H s)(u:Un X.fs [] H H' s.heap h')(hok:HOk X.prog X.w H' h'):Inv X pins σ H' {s with heap:=h',toks:=t'}:=by
 obtain⟨m,⟨o,es,ep,ho,r⟩,_⟩:=id I.loc;obtain⟨sl,hL⟩:=u.any ho I.free (by simp)
 exact I.step (g':=s.gens) (d':=s.drawn) (ch:=[]) (fun _ z=>nomatch z) (fun b o _ hb _ e n=>u.keep b o e n hb (by simp)) (fun b o _ hb _ e n=>u.slot b o e n hb (by simp)) (fun b o _ e n=>u.free b o e n (by simp)) (fun b o _ e=>u.there b o e (by simp)) u.tups u.frzs u.tbls (fun m' hm=>by
  obtain⟨o',es',ep',ho',r'⟩:=hm;rw[ho]at ho';cases ho';exact⟨_,es',ep',hL,r'⟩) hok I.bare
theorem Inv.call{g':Array GenState}{d':Drawn}(I:Inv X pins σ H s)(u:Un (frs X.stack) ch H H' s.heap h')(hok:HOk X.prog X.w H' h')(hg:AllBare g')
  (hch:∀b∈ch,(b∈X.ex\/X.s₀.heap.objs.size<=b)/\b≠X.env.locals/\(∀x c,X.env.cells.lookup x=some c->c≠b)/\∀p∈X.pn++pins,p.1≠b):
  Inv X pins σ H' {s with heap:=h',gens:=g',drawn:=d',toks:=t'}:=by
 obtain⟨m,⟨o,es,ep,ho,r⟩,_⟩:=id I.loc;obtain⟨sl,hL⟩:=u.any ho I.free fun z=>(hch _ z).2.1 rfl
 exact I.step (ch:=ch) hch (fun b o hL hb hc e n=>u.keep b o e n (fun z=>(w0q.mp (I.stkSub b z)).elim hL hb) hc) (fun b o _ _ hc e n=>u.any e n hc) (fun b o hc e n=>u.free b o e n hc) (fun b o hc e=>u.there b o e hc) u.tups u.frzs u.tbls (fun m' hm=>by
  obtain⟨o',es',ep',ho',r'⟩:=hm;rw[ho]at ho';cases ho';exact⟨_,es',ep',hL,r'⟩) hok hg
theorem Inv.turned{t':Nat}{it:Addr}(I:Inv X pins σ H s)(k:∀b o,b≠it->s.heap.get? b=some o->h'.get? b=some o)(hn:H it=none)(hL:it≠X.env.locals)
  (h1:it∈X.ex\/X.s₀.heap.objs.size<=it)(h2:∀x c,X.env.cells.lookup x=some c->c≠it)(h3:∀p∈X.pn++pins,p.1≠it):Inv X pins σ H {s with heap:=h',toks:=t'}:=by
 have nit:∀b u,H b=some u->b≠it:=fun b u e z=>by rw[z,hn]at e;cases e
 refine I.step (g':=s.gens) (d':=s.drawn) (ch:=[it]) (fun b hb=>?_) (fun b o _ _ hc e _=>k b o (fun z=>hc (by simp[z])) e) (fun b o _ _ hc e _=>⟨o.slots,k b o (fun z=>hc (by simp[z])) e⟩) (fun _ _ _ _ n=>n)
  (fun b o hc e=>⟨o,k b o (fun z=>hc (by simp[z])) e⟩) (fun _ _ e=>e) (fun _ _ _ e=>e) (fun b ps e=>⟨#[],by rw[e];simp⟩) (fun m hm=>?_) (fun b u e=>?_) I.bare
 ·have e:b=it:=by simpa using hb
  subst e;exact⟨h1,hL,h2,h3⟩
 ·obtain⟨o,es,ep,ho,r⟩:=hm;exact⟨o,es,ep,k _ o (Ne.symm hL) ho,r⟩
 ·refine(I.hok b u e).stay (fun c v hc q=>k c v ?_ q) (fun _ q=>q) fun _ _ _ q=>q
  rcases hc with z|z
  ·rw[z];exact nit b u e
  ·exact nit c _ z
theorem Inv.tok(I:Inv X pins σ H s)(t:Nat):Inv X pins σ H {s with toks:=t}:=I.un (h':=s.heap) (t':=t) Un.refl I.hok
theorem Inv.kept{t':Nat}(I:Inv X pins σ H s)(k:∀b u,s.heap.get? b=some u->h'.get? b=some u):Inv X pins σ H {s with heap:=h',toks:=t'}:=I.un (Un.kept k) (I.hok.kept k)
theorem Inv.laid{a:Addr}{o:HO}{t':Nat}(I:Inv X pins σ H s)(k:∀b u,s.heap.get? b=some u->h'.get? b=some u)(hp:s.heap.objs.size<=a)(new:ObjOk X.prog X.w (upd H a o) h' a o):
  Inv X pins σ (upd H a o) {s with heap:=h',toks:=t'}:=I.un (Un.laid k hp (I.hok.fresh hp)) (I.hok.laid k hp new)
theorem Inv.write{x e:Addr}{o:HO}(I:Inv X pins σ H s)(mu:Mut (H x))(he:e=x\/H e=some (.own x))(k:∀b u,b≠e->s.heap.get? b=some u->h'.get? b=some u)(heo:∃u,h'.get? e=some u)
  (new:ObjOk X.prog X.w (upd H x o) h' x o):Inv X pins σ (upd H x o) {s with heap:=h',toks:=t'}:=I.un (Un.write mu he k heo) (I.hok.write mu he k heo new)
theorem Inv.weak{σ':List (Option V)}(I:Inv X pins σ H s)(hl:σ'.length=σ.length)(w:∀(i:Nat) v,σ'[i]?=some (some v)->σ[i]?=some (some v)):Inv X pins σ' H s:=
 ⟨I.ok,I.os,I.bare,I.base,let ⟨m,hn,hl'⟩:=I.loc;⟨m,hn,fun i x v e1 e2 e3=>hl' i x v e1 (w i v e2) e3⟩,I.cell,I.free,I.freeC,I.pin,I.hok,hl.trans I.len⟩
theorem Inv.pins_of{pins':List (Addr×Obj)}(I:Inv X pins σ H s)(h:∀p∈pins',s.heap.get? p.1=some p.2/\H p.1=none/\p.1≠X.env.locals/\p.1∉X.fs/\∀v,p.2.data≠.cell v):Inv X pins' σ H s:=
 ⟨I.ok,I.os,I.bare,I.base,I.loc,I.cell,I.free,I.freeC,fun p hp=>(w1r.mp hp).elim (fun z=>I.pin p (w3d _ z)) (h p),I.hok,I.len⟩
theorem x3l(hN:N.Nodup){j:Nat}(a:N[i]?=some x)(b:N[j]?=some x):i=j:=by
 obtain⟨h1,e1⟩:=w0b.mp a;obtain⟨h2,e2⟩:=w0b.mp b;exact(List.getElem_inj hN).mp (e1.trans e2.symm)
theorem x8i{M:Model}{Q:Unit->Shared->Prop}(I:Inv X pins σ H s)(hN:X.N.Nodup)(hi:X.N[i]?=some x)(hx:Loc X.env.scope x)(r:RelV v u)
  (h:∀s',Inv X pins (σ.set i (some v)) H s'->(∃a,Heap.SameBut a s.heap s'.heap/\(a=X.env.locals\/X.env.cells.lookup x=some a))->Q () s')(hf:X.fn x=true\/X.env.scope.names.lookup x=some .local:=by walk_at "2"):wpAny M A (storeName X.env x u) Q E s:=by
 obtain⟨m,hn,hl⟩:=id I.loc;have hcls:(X.env.scope.kind==.class||(X.env.scope.kind==.module&&X.env.locals != X.env.globals))=false:=by rw[I.ok.kind];rfl
 have hiσ:i<σ.length:=by rw[I.len];exact(w0b.mp hi).1
 have cne:=I.cne
 have tracked:∀{a:Addr}{h':Heap},(∃o,s.heap.get? a=some o/\H a=none)->Heap.SameBut a s.heap h'->HOk X.prog X.w H h':=fun {a h'} ha hs b ob e=>by
  obtain⟨_,_,hfree⟩:=ha;refine(I.hok b ob e).stay (fun c w' hc q=>(hs.2 c ?_).trans q) (fun _ q=>q) fun _ _ _ q=>q
  rintro rfl;rcases hc with rfl|hc
  ·rw[hfree]at e;cases e
  ·rw[hfree]at hc;cases hc
 rcases hx with hk|hk
 ·refine wpAny_storeName_local hk hn (fun h' hn' hs=>?_) hcls
  obtain⟨oL,_,_,hoL,_⟩:=id hn;refine h _ ⟨I.ok,I.os,I.bare,⟨fun b o e n hb hx=>?_,fun b o e n hb hx=>?_,I.base.free,fun b o e hx=>?_,I.base.tups,I.base.frzs,I.base.tbls⟩,⟨_,hn',fun j y v' e1 e2 e3=>?_⟩,fun y c e=>?_,I.free,I.freeC,fun p hp=>?_,tracked ⟨oL,hoL,I.free⟩ hs,by simpa using I.len⟩ ⟨_,hs,.inl rfl⟩
  ·exact(hs.2 b (w0p (w0m (Heap.lt_size e) I.ok.above))).trans (I.base.keep b o e n hb hx)
  ·obtain⟨sl,e1⟩:=I.base.slot b o e n hb hx;exact⟨sl,(hs.2 b (w0p (w0m (Heap.lt_size e) I.ok.above))).trans e1⟩
  ·obtain⟨o',e1⟩:=I.base.there b o e hx;exact⟨o',(hs.2 b (w0p (w0m (Heap.lt_size e) I.ok.above))).trans e1⟩
  ·by_cases hj:j=i
   ·subst hj;rw[hi]at e1;cases e1;rw[w0l hiσ]at e2;cases e2;exact⟨u,r,.inl ⟨hk,by simp⟩⟩
   ·rw[w0j (Ne.symm hj)]at e2;obtain⟨u',r',q⟩:=hl j y v' e1 e2 e3;refine⟨u',r',?_⟩;rcases q with⟨k,e⟩|⟨k,c,e,z⟩
    ·refine .inl ⟨k,?_⟩;have:y≠x:=fun e=>hj (x3l hN e1 (e ▸ hi))
     simp[this,e]
    ·exact .inr ⟨k,c,e,z.sameBut hs (cne y c e)⟩
  ·obtain⟨w',z⟩:=I.cell y c e;exact⟨w',z.sameBut hs (cne y c e)⟩
  ·obtain⟨e,n,ne,nf,d⟩:=I.pin p hp;exact⟨(hs.2 p.1 ne).trans e,n,ne,nf,d⟩
 ·have hfn:X.fn x=true:=by
   rcases hf with z|z
   ·exact z
   ·rw[z]at hk;cases hk
  obtain⟨c,hc⟩:=I.ok.has x (.inl hk);obtain⟨w',z⟩:=I.cell x c hc;refine wpAny_storeName_cell I.ok.kind hk hc z (fun h' hc' hs=>?_)
  obtain⟨oc,hoc,hocd⟩:=id z;refine h {s with heap:=h'} ⟨I.ok,I.os,I.bare,⟨fun b o e n hb hx=>?_,fun b o e n hb hx=>?_,I.base.free,fun b o e hx=>?_,I.base.tups,I.base.frzs,I.base.tbls⟩,⟨m,hn.sameBut hs (Ne.symm (cne x c hc)),fun j y v' e1 e2 e3=>?_⟩,fun y c' e=>?_,I.free,I.freeC,fun p hp=>?_,tracked ⟨oc,hoc,I.freeC x c hc⟩ hs,by simpa using I.len⟩ ⟨c,hs,.inr hc⟩
  ·exact(hs.2 b (w0p (w0m (Heap.lt_size e) (I.ok.cab x c hfn hc)))).trans (I.base.keep b o e n hb hx)
  ·obtain⟨sl,e1⟩:=I.base.slot b o e n hb hx;exact⟨sl,(hs.2 b (w0p (w0m (Heap.lt_size e) (I.ok.cab x c hfn hc)))).trans e1⟩
  ·obtain⟨o',e1⟩:=I.base.there b o e hx;exact⟨o',(hs.2 b (w0p (w0m (Heap.lt_size e) (I.ok.cab x c hfn hc)))).trans e1⟩
  ·by_cases hj:j=i
   ·subst hj;rw[hi]at e1;cases e1;rw[w0l hiσ]at e2;cases e2;exact⟨u,r,.inr ⟨.inl hk,c,hc,hc'⟩⟩
   ·rw[w0j (Ne.symm hj)]at e2;obtain⟨u',r',q⟩:=hl j y v' e1 e2 e3;refine⟨u',r',?_⟩;rcases q with q|⟨k,c',e,z'⟩
    ·exact .inl q
    ·refine .inr ⟨k,c',e,z'.sameBut hs ?_⟩;rintro rfl;exact hj (x3l hN e1 (I.ok.inj _ _ _ e hc ▸ hi))
  ·by_cases hcc:c'=c
   ·subst hcc;exact⟨_,hc'⟩
   ·obtain⟨w2,z2⟩:=I.cell y c' e;exact⟨w2,z2.sameBut hs hcc⟩
  ·obtain⟨e,n,ne,nf,d⟩:=I.pin p hp;refine⟨(hs.2 p.1 ?_).trans e,n,ne,nf,d⟩;intro q;rw[q,hoc]at e;have q':oc=p.2:=Option.some.inj e;exact d w' (by rw[<- q'];exact hocd)
theorem q9l{M:Model}{Q:Unit->Shared->Prop}(I:Inv X pins σ H s)(hN:X.N.Nodup)(hi:X.N[i]?=some x)(hx:Loc X.env.scope x)(r:RelV v u)
  (h:∀s',Inv X pins (σ.set i (some v)) H s'->Q () s')(hf:X.fn x=true\/X.env.scope.names.lookup x=some .local:=by walk_at "2"):wpAny M A (storeName X.env x u) Q E s:=
 x8i I hN hi hx r (fun s' I' _=>h s' I') hf
theorem Inv.call'{s':Shared}{ch:List Addr}(I:Inv X pins σ H s)(ho:s'.os=s.os)(u:Un (frs X.stack) ch H H' s.heap s'.heap)(hok:HOk X.prog X.w H' s'.heap)(hg:AllBare s'.gens)
  (hch:∀b∈ch,(b∈X.ex\/X.s₀.heap.objs.size<=b)/\b≠X.env.locals/\(∀x c,X.env.cells.lookup x=some c->c≠b)/\∀p∈X.pn++pins,p.1≠b):Inv X pins σ H' s':=by
 obtain⟨h',g',d',t',o'⟩:=s';have e:o'=s.os:=ho;subst e;exact I.call (g':=g') (t':=t') (d':=d') u hok hg hch
end
abbrev XK:=Value->Option Addr->Hp->Prop
noncomputable abbrev St:=List (Option V)
variable{σ:St}
abbrev VK:=V->Hp->Prop
abbrev TE:=St->Hp->VK->Prop
variable{ta te:TE}
abbrev TT:=St->Hp->(Bool->Hp->Prop)->Prop
abbrev TA:=St->Hp->(List V->Hp->Prop)->Prop
structure Ends where
 nx:St->Hp->Prop
 rt:VK
 bk:St->Hp->Prop:=fun _ _=>False
 ct:St->Hp->Prop:=fun _ _=>False
abbrev TS:=Ends->St->Hp->Prop
variable{tb:TS}
def EP(X:Cx)(pins:List (Addr×Obj))(σ:St)(Q:VK)(u:Value)(s':Shared):Prop:=∃v H',Inv X pins σ H' s'/\RelV v u/\Q v H'
def TP(X:Cx)(pins:List (Addr×Obj))(σ:St)(Q:Bool->Hp->Prop)(b:Bool)(s':Shared):Prop:=∃H',Inv X pins σ H' s'/\Q b H'
def AP(X:Cx)(pins:List (Addr×Obj))(σ:St)(Q:List V->Hp->Prop)(us:List Value)(s':Shared):Prop:=∃vs H',Inv X pins σ H' s'/\Vals vs us/\Q vs H'
def SP(X:Cx)(pins:List (Addr×Obj))(D:Ends)(f:Flow)(s':Shared):Prop:=
 match f with
 |.next=>∃σ' H',Inv X pins σ' H' s'/\D.nx σ' H'
 |.brk=>∃σ' H',Inv X pins σ' H' s'/\D.bk σ' H'
 |.cont=>∃σ' H',Inv X pins σ' H' s'/\D.ct σ' H'
 |.ret u=>∃v σ' H',Inv X pins σ' H' s'/\RelV v u/\D.rt v H'
def PE(X:Cx)(e:Expr)(t:TE):Prop:=
 ∀(pins:List (Addr×Obj))(s:Shared)(σ:St)(H:Hp)(Q:VK),Inv X pins σ H s->t σ H Q->wpAny (model X.prog X.w) X.A (eval e X.env) (EP X pins σ Q) X.xe s
def PT(X:Cx)(e:Expr)(t:TT):Prop:=
 ∀(pins:List (Addr×Obj))(s:Shared)(σ:St)(H:Hp)(Q:Bool->Hp->Prop),Inv X pins σ H s->t σ H Q->wpAny (model X.prog X.w) X.A (isTrue e X.env (eval e X.env)) (TP X pins σ Q) X.xe s
def PW(X:Cx)(e:Expr)(t:TT):Prop:=
 ∀(whole:Sem Value)(pins:List (Addr×Obj))(s:Shared)(σ:St)(H:Hp)(Q:Bool->Hp->Prop),Inv X pins σ H s->t σ H Q->wpAny (model X.prog X.w) X.A (isTrue e X.env whole) (TP X pins σ Q) X.xe s
theorem PW.pt{t:TT}(h:PW X e t):PT X e t:=h _
def PA(X:Cx)(es:List Expr)(t:TA):Prop:=
 ∀(pos:Pos)(pins:List (Addr×Obj))(s:Shared)(σ:St)(H:Hp)(Q:List V->Hp->Prop),Inv X pins σ H s->t σ H Q->wpAny (model X.prog X.w) X.A (spliced (backTo pos (starEach es X.env))) (AP X pins σ Q) X.xe s
def PS(X:Cx)(st:Stmt)(t:TS):Prop:=
 ∀(pins:List (Addr×Obj))(s:Shared)(σ:St)(H:Hp)(D:Ends),Inv X pins σ H s->t D σ H->wpAny (model X.prog X.w) X.A (exec st X.env) (SP X pins D) X.xe s
def PSs(X:Cx)(st:List Stmt)(t:TS):Prop:=
 ∀(pins:List (Addr×Obj))(s:Shared)(σ:St)(H:Hp)(D:Ends),Inv X pins σ H s->t D σ H->wpAny (model X.prog X.w) X.A (execs st X.env) (SP X pins D) X.xe s
theorem thn{α:Type}{t:Sem α}{Q Q':α->Shared->Prop}{M:Model}(h:wpAny M A t Q E s)(hQ:∀a s,Q a s->Q' a s):wpAny M A t Q' E s:=wpAny_mono h hQ fun _ _ x=>x
section
def tVar(i:Nat):TE:=fun σ H Q=>∃v,σ[i]?=some (some v)/\Q v H
def tC(v:V):TE:=fun _ H Q=>Q v H
theorem y8d(hN:X.N[i]?=some x)(hv:Vis X.env.scope x)(hd:(x==("__debug__":Str))=false:=by decide)(hcd:(x==("__classdict__":Str))=false:=by decide):PE X (.Name x pos) (tVar i):=by
 intro pins s σ H Q I h;obtain⟨v,e,h⟩:=h;obtain⟨m,hn,hl⟩:=I.loc;obtain⟨u,r,l⟩:=hl i x v hN e hv;have fin:EP X pins σ Q u s:=⟨v,H,I,r,h⟩;rcases l with⟨hk,hm⟩|⟨hk,c,hc,hcell⟩
 ·exact wpAny_Name (wpAny_loadName_local I.ok.kind hk hn hm fin) hd
 ·rcases hk with hk|hk
  ·exact wpAny_Name (wpAny_loadName_cell I.ok.kind hk hc hcell fin) hd
  ·exact wpAny_Name (wpAny_loadName_free I.ok.kind hk hc hcell fin hcd) hd
theorem q39{i j pos}:PE X (.Constant (.int i) j pos) (tC (.int i)):=fun _ _ _ H _ I h=>wpAny_Constant_int ⟨.int i,H,I.tok _,⟨_,rfl⟩,h⟩
theorem x67{b j pos}:PE X (.Constant (.bool b) j pos) (tC (.bl b)):=fun _ _ _ H _ I h=>Constant_bool ⟨.bl b,H,I,rfl,h⟩
theorem y8e{j pos}:PE X (.Constant .none j pos) (tC .non):=fun _ _ _ H _ I h=>Constant_none ⟨.non,H,I,rfl,h⟩
theorem y8f{x j pos}:PE X (.Constant (.str x) j pos) (tC (.str x)):=fun _ _ _ H _ I h=>Calls.Constant_str ⟨.str x,H,I.tok _,⟨_,rfl⟩,h⟩
def Gl(X:Cx)(x:Str):Prop:=X.env.kindOf x=some .globalImplicit
theorem q5b{Q:Value->Shared->Prop}(I:Inv X pins σ H s)(hg:Gl X x)(hm:X.mg x=some u)(h:Q u s)
  (hd:(x==("__debug__":Str))=false:=by decide):wpAny (model X.prog X.w) X.A (eval (.Name x pos) X.env) Q E s:=
 Calls.Name_function_global I.ok.kind hg (Calls.loadGlobal_global (by rw[I.ok.glob];exact I.mod.glob.keeps I.bk) hm h) hd
theorem q67{Q:Value->Shared->Prop}(I:Inv X pins σ H s)(hg:Gl X x)(hm:X.mg x=none)(hv:bootBuiltins x=some u)(h:Q u s)
  (hn:x≠"__name__":=by decide)(hd:(x==("__debug__":Str))=false:=by decide):wpAny (model X.prog X.w) X.A (eval (.Name x pos) X.env) Q E s:=by
 obtain⟨mb,h1,h2⟩:=I.mod.blt;exact Calls.Name_function_global I.ok.kind hg (Calls.loadGlobal_builtin (by rw[I.ok.glob];exact I.mod.glob.keeps I.bk) hm (by rw[I.ok.blt];exact h1.keeps I.bk) ((h2 x hn).trans hv) h) hd
theorem pe_glob{v:V}(hg:Gl X x)(hm:X.mg x=some u)(r:RelV v u)(hd:(x==("__debug__":Str))=false:=by decide):PE X (.Name x pos) (tC v):=
 fun _ _ _ H _ I h=>q5b I hg hm ⟨v,H,I,r,h⟩ hd
theorem y4j{v:V}(hg:Gl X x)(hm:X.mg x=none)(hv:bootBuiltins x=some u)(r:RelV v u)(hn:x≠"__name__":=by decide)(hd:(x==("__debug__":Str))=false:=by decide):PE X (.Name x pos) (tC v):=
 fun _ _ _ H _ I h=>q67 I hg hm hv ⟨v,H,I,r,h⟩ hn hd
variable{a b:Expr}{tb:TE}
def PC(X:Cx)(op:CmpOp)(a b:Expr)(t:TE):Prop:=
 ∀(pins:List (Addr×Obj))(s:Shared)(σ:St)(H:Hp)(Q:VK),Inv X pins σ H s->t σ H Q ->
  wpAny (model X.prog X.w) X.A (eval a X.env) (fun v s₁=>wpAny (model X.prog X.w) X.A (eval b X.env) (fun u s₂=>wpAny (model X.prog X.w) X.A (compareOp op v u) (EP X pins σ Q) X.xe s₂) X.xe s₁) X.xe s
theorem nobehind(b:Expr)(h:op≠.In)(h2:op≠.NotIn):behindInMarks op b=false:=by
 have e1:(op==CmpOp.In)=false:=by cases op<;>first|rfl|exact absurd rfl h
 have e2:(op==CmpOp.NotIn)=false:=by cases op<;>first|rfl|exact absurd rfl h2
 cases b<;>simp[behindInMarks,e1,e2]
def tB(t:TE):TT:=fun σ H Q=>t σ H fun x H1=>∃c,x=.bl c/\Q c H1
theorem x8j{t:TE}(h:PC X op a b t)(h1:behindInMarks op b=false:=by first|exact nobehind _ (by decide) (by decide)|rfl):PT X (.Compare a [op] [b] pos) (tB t):=by
 intro pins s σ H Q I hw;refine wpAny_isTrue_Compare1 (thn (h pins s σ H _ I hw) fun v s1 h1=>thn h1 fun u s2 h2=>thn h2 fun c s3 ⟨x,H1,I1,r1,q1⟩=>?_) h1
 obtain⟨d,rfl,q⟩:=q1;cases r1;exact wpAny_truthy_bool ⟨H1,I1,q⟩
variable{tA tB':TT}{rest:List Expr}
def tAnd(t u:TT):TT:=fun σ H Q=>t σ H fun c H1=>if c=true then u σ H1 Q else Q false H1
def tOr(t u:TT):TT:=fun σ H Q=>t σ H fun c H1=>if c=true then Q true H1 else u σ H1 Q
def tNot(t:TT):TT:=fun σ H Q=>t σ H fun c H1=>Q (!c) H1
theorem y4k(ha:PT X a tA):PW X (.BoolOp .And [a] pos) tA:=by
 intro wh pins s σ H Q I h;refine isTrue_and (thn (ha pins s σ H Q I h) fun c s1 e=>?_)
 cases c with
 |true=>exact isTrue_and_nil e
 |false=>exact e
theorem x8k(ha:PT X a tA):PW X (.BoolOp .Or [a] pos) tA:=by
 intro wh pins s σ H Q I h;refine isTrue_or (thn (ha pins s σ H Q I h) fun c s1 e=>?_)
 cases c with
 |false=>exact isTrue_or_nil e
 |true=>exact e
theorem y8g(ha:PT X a tA)(hb:PW X (.BoolOp .And (b::rest) pos) tB'):PW X (.BoolOp .And (a::b::rest) pos) (tAnd tA tB'):=by
 intro wh pins s σ H Q I h;refine isTrue_and (thn (ha pins s σ H _ I h) fun c s1 ⟨H1,I1,q1⟩=>?_)
 cases c with
 |true=>exact hb wh pins s1 σ H1 Q I1 q1
 |false=>exact⟨H1,I1,q1⟩
theorem y32(ha:PT X a tA)(hb:PW X (.BoolOp .Or (b::rest) pos) tB'):PW X (.BoolOp .Or (a::b::rest) pos) (tOr tA tB'):=by
 intro wh pins s σ H Q I h;refine isTrue_or (thn (ha pins s σ H _ I h) fun c s1 ⟨H1,I1,q1⟩=>?_)
 cases c with
 |true=>exact⟨H1,I1,q1⟩
 |false=>exact hb wh pins s1 σ H1 Q I1 q1
theorem y8h(ha:PT X a tA):PT X (.UnaryOp .Not a pos) (tNot tA):=by
 intro pins s σ H Q I h;exact isTrue_not (ha pins s σ H (fun c H1=>Q (!c) H1) I h)
def tAndV(ta tb:TE):TE:=fun σ H Q=>ta σ H fun x H1=>∃c,x=.bl c/\if c=true then tb σ H1 Q else Q (.bl false) H1
def tNotV(ta:TE):TE:=fun σ H Q=>ta σ H fun x H1=>∃c,x=.bl c/\Q (.bl (!c)) H1
theorem y8i{op}{t:TE}(h:PE X a t):PE X (.BoolOp op [a] pos) t:=fun pins s σ H Q I hw=>BoolOp_one (h pins s σ H Q I hw)
theorem y8j(ha:PE X a ta)(hb:PE X (.BoolOp .And (b::rest) pos) tb):PE X (.BoolOp .And (a::b::rest) pos) (tAndV ta tb):=by
 intro pins s σ H Q I h;refine BoolOp_and (thn (ha pins s σ H _ I h) fun v s1 ⟨x,H1,I1,r1,q1⟩=>?_)
 obtain⟨c,rfl,q1⟩:=q1;cases r1;refine wpAny_truthy_bool ?_;cases c with
 |true=>exact hb pins s1 σ H1 Q I1 q1
 |false=>exact⟨.bl false,H1,I1,rfl,q1⟩
theorem y8k(ha:PE X a ta):PE X (.UnaryOp .Not a pos) (tNotV ta):=by
 intro pins s σ H Q I h;refine UnaryOp_ (thn (ha pins s σ H _ I h) fun v s1 ⟨x,H1,I1,r1,q1⟩=>?_)
 obtain⟨c,rfl,q1⟩:=q1;cases r1;exact not_of (wpAny_truthy_bool ⟨.bl (!c),H1,I1,rfl,q1⟩)
def tIf(t:TT)(ta tb:TE):TE:=fun σ H Q=>t σ H fun c H1=>if c=true then ta σ H1 Q else tb σ H1 Q
theorem x3m(hc:PT X c tA)(ha:PE X a ta)(hb:PE X b tb):PE X (.IfExp c a b pos) (tIf tA ta tb):=by
 intro pins s σ H Q I h;refine wpAny_IfExp (thn (hc pins s σ H _ I h) fun d s1 ⟨H1,I1,q1⟩=>?_)
 cases d with
 |true=>exact ha pins s1 σ H1 Q I1 q1
 |false=>exact hb pins s1 σ H1 Q I1 q1
end
def SqL(K:PySem.W.Frag)(H:Hp)(a:Addr)(xs:List V):Prop:=
 Rd H a (.lst xs) \/
  ∃(o:Obj)(its:Array Value)(n:Nat),K.lookup a=some o/\o.cls=.type "list" /\ o.dict=none/\o.data=.seq its n/\its.size<=sizeLine/\Vals xs its.toList
def SqT(K:PySem.W.Frag)(H:Hp)(a:Addr)(xs:List V):Prop:=
 Rd H a (.tup xs) \/
  ∃(o:Obj)(its:Array Value)(n:Nat),K.lookup a=some o/\o.cls=.type "tuple" /\ o.dict=none/\o.data=.seq its n/\its.size<=sizeLine/\Vals xs its.toList
noncomputable def absV:Value->Option V
 |.none=>some .non
 |.bool b=>some (.bl b)
 |.int i _=>some (.int i)
 |.str x _=>some (.str x)
 |.bytes b _=>some (.byt b)
 |.float b _=>some (.flt b)
 |.ref a=>some (.ref a)
 |.type n=>some (.ty n)
 |_=>none
theorem RelV.abs{x:V}(r:RelV x u):absV u=some x:=by
 cases x with
 |non=>cases r;rfl
 |bl _=>cases r;rfl
 |int _=>obtain⟨t,rfl⟩:=r;rfl
 |str _=>obtain⟨t,rfl⟩:=r;rfl
 |byt _=>obtain⟨t,rfl⟩:=r;rfl
 |flt _=>obtain⟨t,rfl⟩:=r;rfl
 |ref _=>cases r;rfl
 |ty _=>cases r;rfl
theorem RelV.inj{x y:V}(r:RelV x u)(q:RelV y u):x=y:=Option.some.inj (r.abs.symm.trans q.abs)
theorem Vals.inj:∀{xs ys:List V}{us:List Value},Vals xs us->Vals ys us->xs=ys
 |_,_,_,.nil,.nil=>rfl
 |_,_,_,.cons r t,.cons r' t'=>by rw[r.inj r',Vals.inj t t']
section
variable{ys:List V}
theorem SqL.of(h:H a=some (.lst xs)):SqL K H a xs:=.inl (.inl h)
theorem SqT.of(h:H a=some (.tup xs)):SqT K H a xs:=.inl (.inl h)
theorem Inv.list(I:Inv X pins σ H s)(h:SqL X.K H a xs):∃its:List Value,Vals xs its/\PlainL s.heap a its.toArray/\xs.length<=sizeLine:=by
 rcases h with h|⟨o,its,n,hk,hc,hd,hs,hz,r⟩
 ·obtain⟨z,its,n,r,e⟩:=h.ok I.hok;exact⟨its,r,⟨_,n,e,rfl,rfl,rfl⟩,z⟩
 ·refine⟨its.toList,r,⟨o,n,I.kIn a o hk,hc,hd,by simpa using hs⟩,?_⟩;have e:=r.length;simp only[w3g]at e;omega
theorem Inv.tuple(I:Inv X pins σ H s)(h:SqT X.K H a xs):∃its:List Value,Vals xs its/\IsTup s.heap a its.toArray/\xs.length<=sizeLine:=by
 rcases h with h|⟨o,its,n,hk,hc,_,hs,hz,r⟩
 ·obtain⟨z,its,r,p,_⟩:=h.ok I.hok;exact⟨its,r,p,z⟩
 ·refine⟨its.toList,r,⟨o,I.kIn a o hk,hc,n,by simpa using hs⟩,?_⟩;have e:=r.length;simp only[w3g]at e;omega
theorem Inv.list_inj(I:Inv X pins σ H s)(h:SqL X.K H a xs)(h':SqL X.K H a ys):xs=ys:=by
 obtain⟨its,r,⟨o,n,e,_,_,d⟩,_⟩:=I.list h;obtain⟨its',r',⟨o',n',e',_,_,d'⟩,_⟩:=I.list h';rw[e]at e';cases e';rw[d]at d';injection d' with d1 _
 have:its=its':=by simpa using congrArg Array.toList d1
 subst this;exact r.inj r'
theorem Inv.tuple_inj(I:Inv X pins σ H s)(h:SqT X.K H a xs)(h':SqT X.K H a ys):xs=ys:=by
 obtain⟨its,r,⟨o,e,_,n,d⟩,_⟩:=I.tuple h;obtain⟨its',r',⟨o',e',_,n',d'⟩,_⟩:=I.tuple h';rw[e]at e';cases e';rw[d]at d';injection d' with d1 _
 have:its=its':=by simpa using congrArg Array.toList d1
 subst this;exact r.inj r'
end
section
variable{st:Stmt}{rest:List Stmt}{t u:TS}
def tNext:TS:=fun D σ H=>D.nx σ H
def tSeq(t u:TS):TS:=fun D σ H=>t {D with nx:=u D} σ H
theorem q8s:PSs X [] tNext:=fun _ _ σ H _ I h=>wpAny_execs_nil ⟨σ,H,I,h⟩
theorem q2n(h1:PS X st t)(h2:PSs X rest u):PSs X (st::rest) (tSeq t u):=by
 intro pins s σ H D I h;refine wpAny_execs_cons (thn (h1 pins s σ H {D with nx:=u D} I h) fun f s1 q=>?_)
 cases f with
 |next=>
  obtain⟨σ',H',I',q⟩:=q;exact h2 pins s1 σ' H' D I' q
 |ret v=>exact q
 |brk=>exact q
 |cont=>exact q
theorem q3w(h1:PS X st t):PSs X [st] t:=by
 intro pins s σ H D I h;refine wpAny_execs_cons (thn (h1 pins s σ H D I h) fun f s1 q=>?_)
 cases f with
 |next=>exact wpAny_execs_nil q
 |ret v=>exact q
 |brk=>exact q
 |cont=>exact q
theorem Inv.quiet(I:Inv X pins σ H s):interactive X.env=false:=by simp[interactive,I.ok.kind]
def tDrop(te:TE):TS:=fun D σ H=>te σ H fun _ H1=>D.nx σ H1
theorem x1b(he:PE X e te)(hs:swapsWith e none pos.line X.env=pure false:=by rfl):PS X (.Expr e pos) (tDrop te):=by
 intro pins s σ H D I h;exact wpAny_Expr_any (thn (he pins s σ H _ I h) fun v s1 ⟨x,H1,I1,r1,q1⟩=>⟨σ,H1,I1,q1⟩) I.quiet hs
def tRet(te:TE):TS:=fun D σ H=>te σ H D.rt
theorem q6g(he:PE X e te):PS X (.Return (some e) pos) (tRet te):=by
 intro pins s σ H D I h;exact wpAny_Return_some (thn (he pins s σ H _ I h) fun v s1 ⟨x,H1,I1,r1,q1⟩=>⟨x,σ,H1,I1,r1,q1⟩)
def tIfS(c:TT)(t u:TS):TS:=fun D σ H=>c σ H fun b H1=>if b=true then t D σ H1 else u D σ H1
theorem x0b{a b:List Stmt}{tc:TT}(hc:PT X c tc)(ha:PSs X a t)(hb:PSs X b u):PS X (.If c a b pos) (tIfS tc t u):=by
 intro pins s σ H D I h;refine wpAny_If (thn (hc pins s σ H _ I h) fun d s1 ⟨H1,I1,q1⟩=>?_)
 cases d with
 |true=>exact ha pins s1 σ H1 D I1 q1
 |false=>exact hb pins s1 σ H1 D I1 q1
end
abbrev TG:=V->St->Hp->(St->Hp->Prop)->Prop
abbrev TGs:=List V->St->Hp->(St->Hp->Prop)->Prop
def PG(X:Cx)(target:Expr)(t:TG):Prop:=
 ∀(pins:List (Addr×Obj))(s:Shared)(σ:St)(H:Hp)(v:V)(u:Value)(Q:St->Hp->Prop),Inv X pins σ H s->RelV v u->t v σ H Q ->
  wpAny (model X.prog X.w) X.A (assign target X.env u) (fun _ s'=>∃σ' H',Inv X pins σ' H' s'/\Q σ' H') X.xe s
def PGs(X:Cx)(ts:List Expr)(t:TGs):Prop:=
 ∀(pins:List (Addr×Obj))(s:Shared)(σ:St)(H:Hp)(vs:List V)(us:List Value)(Q:St->Hp->Prop),Inv X pins σ H s->Vals vs us->t vs σ H Q ->
  wpAny (model X.prog X.w) X.A (assignInOrder ((assignEach ts X.env).map (·.2)) us) (fun _ s'=>∃σ' H',Inv X pins σ' H' s'/\Q σ' H') X.xe s
abbrev TSet:=V->V->V->Hp->(Hp->Prop)->Prop
def PSet(X:Cx)(t:TSet):Prop:=
 ∀(pins:List (Addr×Obj))(s:Shared)(σ:St)(H:Hp)(o i v:V)(ov iv u:Value)(Q:Hp->Prop),Inv X pins σ H s->RelV o ov->RelV i iv->RelV v u->t o i v H Q ->
  wpAny (model X.prog X.w) X.A (setItem ov iv u) (fun _ s'=>∃H',Inv X pins σ H' s'/\Q H') X.xe s
def gName(i:Nat):TG:=fun v σ H Q=>Q (σ.set i (some v)) H
theorem y4l(hN:X.N.Nodup)(hi:X.N[i]?=some x)(hx:Loc X.env.scope x)(hf:X.fn x=true\/X.env.scope.names.lookup x=some .local:=by walk_at "2"):PG X (.Name x pos) (gName i):=by
 intro pins s σ H v u Q I r h;exact wpAny_assign_Name (q9l I hN hi hx r (fun s' I'=>⟨_,H,I',h⟩) hf)
noncomputable def gNil:TGs:=fun vs σ H Q=>vs=[]/\Q σ H
noncomputable def gCons(t:TG)(u:TGs):TGs:=fun vs σ H Q=>∃v r,vs=v::r/\t v σ H fun σ' H'=>u r σ' H' Q
theorem y4m:PGs X [] gNil:=by
 intro pins s σ H vs us Q I r h;obtain⟨e,h⟩:=h;subst e;cases r;exact assignInOrder_nil ⟨σ,H,I,h⟩
theorem x3n{t:TG}{u:TGs}(h1:PG X e t)(h2:PGs X es u)
  (hs:(assignEach (e::es) X.env).map (·.2)=assign e X.env::(assignEach es X.env).map (·.2):=by rfl):PGs X (e::es) (gCons t u):=by
 intro pins s σ H vs us Q I r h;obtain⟨v,vr,e1,h⟩:=h;subst e1;cases r with
 |cons r rr=>
  rw[hs];refine assignInOrder_cons (thn (h1 pins s σ H _ _ _ I r h) fun _ s1 ⟨σ1,H1,I1,q1⟩=>?_)
  exact h2 pins s1 σ1 H1 _ _ Q I1 rr q1
def gTup(K:PySem.W.Frag)(n:Nat)(t:TGs):TG:=fun v σ H Q=>∃a xs,v=.ref a/\SqT K H a xs/\xs.length=n/\t xs σ H Q
theorem y8l{k:Nat}{t:TGs}{n:Nat}(hc:X.calm=true)(h:PGs X es t)
  (hn:(assignEach es X.env).length=n:=by rfl)(hst:(assignEach es X.env).findIdx? (·.1)=none:=by rfl):PG X (.Tuple es k pos) (gTup X.K n t):=by
 intro pins s σ H v u Q I r hw;obtain⟨a,xs,e1,hq,hl,hw⟩:=hw;subst e1;cases r;obtain⟨its,rv,ht,hz⟩:=I.tuple hq;refine assign_Tuple_tuple (I.ok.hd hc) ht (by simp[hn,<- hl,rv.length]) hst fun h' hx=>?_
 have I1:Inv X pins σ H {s with heap:=h'}:=I.kept (t':=s.toks) fun b o e=>hx b o (w0p (Heap.lt_size e)) e
 exact h pins _ σ H xs _ Q I1 (by simpa using rv) hw
def gSub(to ti:TE)(t:TSet):TG:=fun v σ H Q=>to σ H fun o H1=>ti σ H1 fun i H2=>t o i v H2 fun H3=>Q σ H3
theorem y8m{o i:Expr}{to ti:TE}{t:TSet}(ho:PE X o to)(hi:PE X i ti)(hs:PSet X t)
  (ha:∀v,assign (.Subscript o i pos) X.env v=(do
   let ov <- holding [v] (eval o X.env)
   let iv <- holding [v,ov] (eval i X.env)
   standAt pos
   holding [v,ov,iv] (setItem ov iv v)
   release [v,ov,iv] []):=by intro _;rfl):PG X (.Subscript o i pos) (gSub to ti t):=by
 intro pins s σ H v u Q I r h;rw[ha];refine wpAny_bind (wpAny_holding (thn (ho pins s σ H _ I h) fun ov s1 ⟨x,H1,I1,r1,q1⟩=>?_))
 refine wpAny_bind (wpAny_holding (thn (hi pins s1 σ H1 _ I1 q1) fun iv s2 ⟨y,H2,I2,r2,q2⟩=>?_))
 refine wpAny_bind (wpAny_standAt (wpAny_bind (wpAny_holding (thn (hs pins s2 σ H2 x y v ov iv u _ I2 r1 r2 r q2) fun _ s3 ⟨H3,I3,q3⟩=>?_))))
 exact wpAny_release ⟨σ,H3,I3,q3⟩
def tAsg(te:TE)(g:TG):TS:=fun D σ H=>te σ H fun x H1=>g x σ H1 D.nx
theorem y8n{g:TG}(he:PE X e te)(hg:PG X tg g)(hs:swapsWithSole [tg] e pos.line X.env=pure false:=by rfl)(hw:swappedStores [tg] e X.env=pure none:=by rfl)
  (h1:(assignEach [tg] X.env).map (·.2)=[assign tg X.env]:=by rfl):PS X (.Assign [tg] e pos) (tAsg te g):=by
 intro pins s σ H D I h;refine wpAny_Assign_stores (thn (he pins s σ H _ I h) fun v s1 ⟨x,H1,I1,r1,q1⟩=>?_) hs hw
 rw[h1];exact thn (hg pins s1 σ H1 x v _ I1 r1 q1) fun _ s2 q=>q
theorem y8o{pos':Pos}(hN:X.N.Nodup)(hi:X.N[i]?=some x)(hx:Loc X.env.scope x)(he:PE X e te)(hs:swapsWith e (some (.Name x pos')) pos.line X.env=pure false:=by rfl)(hf:X.fn x=true\/X.env.scope.names.lookup x=some .local:=by walk_at "2"):
  PS X (.Assign [.Name x pos'] e pos) (tAsg te (gName i)):=by
 intro pins s σ H D I h;refine wpAny_Assign_Name (thn (he pins s σ H _ I h) fun v s1 ⟨y,H1,I1,r1,q1⟩=>?_) hs
 exact q9l I1 hN hi hx r1 (fun s2 I2=>⟨_,H1,I2,q1⟩) hf
def tWhile(c:TT)(tb:TS):TS:=fun D σ H=>∃W:Nat->St->Hp->Prop,(∃m,W m σ H)/\∀m σ H,W m σ H ->
 c σ H fun b H1=>if b=true then ∃N:St->Hp->Prop,(∀σ' H',N σ' H'->∃m',m'<m/\W m' σ' H')/\tb {D with nx:=N,ct:=N,bk:=D.nx} σ H1 else D.nx σ H1
theorem y1i{body:List Stmt}{tc:TT}(hp:PassesOwn (model X.prog X.w) X.A X.env X.xe)(hc:PT X c tc)(hb:PSs X body tb):PS X (.While c body [] pos) (tWhile tc tb):=by
 intro pins s σ H D I h;obtain⟨W,⟨m0,w0⟩,turn⟩:=h;refine wpAny_While (codeAny_whileLoop (fun n s'=>∃σ' H',Inv X pins σ' H' s'/\W n σ' H') ?_ m0 ⟨σ,H,I,w0⟩)
 rintro n s1 ⟨σ1,H1,I1,w1⟩;refine wpAny_passesOwn hp (thn (hc pins s1 σ1 H1 _ I1 (turn n σ1 H1 w1)) fun b s2 ⟨H2,I2,q2⟩=>?_)
 cases b with
 |true=>
  obtain⟨N,hN,q2⟩:=q2;rw[if_pos rfl];refine wpAny_passesOwn hp (thn (hb pins s2 σ1 H2 _ I2 q2) fun f s3 q3=>?_)
  cases f with
  |next=>
   obtain⟨σ3,H3,I3,n3⟩:=q3;obtain⟨m',hm,w3⟩:=hN σ3 H3 n3;exact⟨m',hm,σ3,H3,I3,w3⟩
  |cont=>
   obtain⟨σ3,H3,I3,n3⟩:=q3;obtain⟨m',hm,w3⟩:=hN σ3 H3 n3;exact⟨m',hm,σ3,H3,I3,w3⟩
  |brk=>exact q3
  |ret v=>exact q3
 |false=>
  rw[if_neg w0t];exact wpAny_execs_nil ⟨σ1,H2,I2,q2⟩
structure It where
 go:Nat->Hp->Prop
 yld:Nat->Hp->V->Hp->Prop
 stop:Nat->Hp->Prop
def FpOk(X:Cx)(pins:List (Addr×Obj))(H:Hp)(b:Addr):Prop:=
 H b=none/\b≠X.env.locals/\b∉X.fs/\(b∈X.ex\/X.s₀.heap.objs.size<=b)/\(∀x c,X.env.cells.lookup x=some c->c≠b)/\∀p∈X.pn++pins,p.1≠b
theorem Inv.fpOk(I:Inv X pins σ H s)(hb:s.heap.objs.size<=b)(hn:H' b=none):FpOk X pins H' b:=by
 refine⟨hn,Nat.ne_of_gt (w0m I.lt hb),I.nofs hb,.inr (w1e I.sz hb),fun x c e z=>?_,fun p hp z=>?_⟩
 ·obtain⟨v,q⟩:=I.cell x c e;exact absurd (w0m q.lt (by rw[z];exact hb)) (w1o _)
 ·exact absurd (w0m (Heap.lt_size (I.pin p hp).1) (by rw[z];exact hb)) (w1o _)
structure Turn(P:Program)(w:World)(K:PySem.W.Frag)(tg:Expr)(J:It)(fp:List Addr)(it:Addr)(tn:Nat->Heap->Prop):Prop where
 mem:it∈fp
 obj:∀i h,tn i h->∀b∈fp,∃o,h.get? b=some o/\∀v,o.data≠.cell v
 keep:∀i h h',tn i h->(∀b∈fp,∀o,h.get? b=some o->h'.get? b=some o)->tn i h'
 item:∀(X:Cx),X.prog=P->X.w=w->X.K=K->X.calm=true->∀(i:Nat)(pins:List (Addr×Obj))(s:Shared)(σ:St)(H:Hp)(E:Value->Shared->Prop),Inv X pins σ H s->(∀b∈fp,FpOk X pins H b)->tn i s.heap->J.go i H ->
  wpAny (model P w) X.A (pyNext (.ref it)) (fun r s1=>∃u,r=some u /\
   wpAny (model P w) X.A (letOwnedTupleGo tg (.ref it) u) (fun _ s2=>∃x H',Inv X pins σ H' s2/\RelV x u/\J.yld i H x H'/\tn (i+1) s2.heap/\∀b∈fp,H' b=none) E s1) E s
 done:∀(X:Cx),X.prog=P->X.w=w->X.K=K->X.calm=true->∀(i:Nat)(pins:List (Addr×Obj))(s:Shared)(σ:St)(H:Hp)(E:Value->Shared->Prop),Inv X pins σ H s->(∀b∈fp,FpOk X pins H b)->tn i s.heap->J.stop i H ->
  wpAny (model P w) X.A (pyNext (.ref it)) (fun r s1=>r=none/\Inv X pins σ H s1) E s
 self:∀(A:Around)(i:Nat)(s:Shared)(Q:Value->Shared->Prop)(E:Value->Shared->Prop),tn i s.heap->Q (.ref it) s->wpAny (model P w) A (pyIter (.ref it)) Q E s
abbrev TI:=St->Hp->(It->Hp->Prop)->Prop
def PIE(X:Cx)(pins:List (Addr×Obj))(σ:St)(tg:Expr)(R:It->Hp->Prop)(itv:Value)(s2:Shared):Prop:=
 ∃(it:Addr)(fp:List Addr)(tn:Nat->Heap->Prop)(J:It)(H':Hp),itv=.ref it/\Inv X pins σ H' s2/\Turn X.prog X.w X.K tg J fp it tn/\tn 0 s2.heap/\(∀b∈fp,FpOk X pins H' b)/\R J H'
def PI(X:Cx)(tg iter:Expr)(wi:TI):Prop:=
 ∀(pins:List (Addr×Obj))(s:Shared)(σ:St)(H:Hp)(R:It->Hp->Prop),Inv X pins σ H s->wi σ H R ->
  wpAny (model X.prog X.w) X.A (eval iter X.env) (fun v s1=>wpAny (model X.prog X.w) X.A (pyIter v) (PIE X pins σ tg R) X.xe s1) X.xe s
theorem x68{M : Model}{E : Value -> Shared -> Prop}{s : Shared}{it : Addr}{o : Obj}{n : String}{vs : Array Value}{Q : Unit -> Shared -> Prop}(ho : s.heap.get? it = some o)(hc : o.cls = .type n)(hd : o.data = .fields vs)
    (hn : ["enumerate", "zip", "dict_itemiterator", "dict_reverseitemiterator", "odict_iterator", "itertools.zip_longest", "itertools.pairwise"].contains n = false)(hQ : Q () s) : wpAny M A (letOwnedTupleGo tg (.ref it) u) Q E s := by
  unfold letOwnedTupleGo
  cases tg <;> first
    | exact wpAny_pure hQ
    | (cases u <;> first
        | exact wpAny_pure hQ
        | (refine wpAny_bind (wpAny_load ho ?_)
           rw [hc, hd];show wpAny M A (if (["enumerate", "zip", "dict_itemiterator", "dict_reverseitemiterator", "odict_iterator", "itertools.zip_longest", "itertools.pairwise"].contains n && vs[0]? == some (rawInt _)) = true then _ else _) Q E s;rw [if_neg (by intro h; rw [hn, Bool.false_and] at h; cases h)];exact wpAny_pure hQ))
noncomputable def Itl(K:PySem.W.Frag)(a:Addr):It:=
 ⟨fun i H=>∃xs x,SqL K H a xs/\xs[i]?=some x,fun i H x H'=>H'=H/\∀xs,SqL K H a xs->xs[i]?=some x,fun i H=>∃xs,SqL K H a xs/\xs.length<=i⟩
noncomputable def Itt(K:PySem.W.Frag)(a:Addr):It:=
 ⟨fun i H=>∃xs x,SqT K H a xs/\xs[i]?=some x,fun i H x H'=>H'=H/\∀xs,SqT K H a xs->xs[i]?=some x,fun i H=>∃xs,SqT K H a xs/\xs.length<=i⟩
noncomputable def Itr(lo:Int)(n:Nat):It:=⟨fun i _=>i<n,fun i H x H'=>H'=H/\x=.int (lo+i),fun i _=>n<=i⟩
theorem x8l(a it:Addr):Turn P w K tg (Itl K a) [it] it (fun i h=>h.IsListIter it a i) where
 mem:=by simp
 obj:=fun i h st b hb=>by
  have e:b=it:=by simpa using hb
  subst e;obtain⟨o,e,c,d⟩:=st;exact⟨o,e,fun v z=>by rw[d]at z;cases z⟩
 keep:=fun i h h' st k=>st.at fun o e=>k it (by simp) o e
 item:=by
  intro X hP hw hK hc i pins s σ H E I hf st hg;subst hP hw hK;obtain⟨xs,x,hq,hx⟩:=hg;obtain⟨its,rv,p,hz⟩:=I.list hq;obtain⟨u,hu,ru⟩:=rv.get hx;obtain⟨f0,f1,f2,f3,f4,f5⟩:=hf it (by simp);refine wpAny_pyNext_list_item st p.isList (x:=u) (by simpa using hu) fun h' st' sb=>?_
  have I1:Inv X pins σ H {s with heap:=h'}:=I.turned (t':=s.toks) (fun b o hb e=>(sb.2 b hb).trans e) f0 f1 f3 f4 f5
  obtain⟨o,e,c,d⟩:=id st';exact⟨u,rfl,x68 (s:={s with heap:=h'}) e c d (by decide) ⟨x,H,I1,ru,⟨rfl,fun ys hy=>by rw[I.list_inj hy hq];exact hx⟩,st',fun b hb=>(hf b hb).1⟩⟩
 done:=by
  intro X hP hw hK hc i pins s σ H E I hf st hg;subst hP hw hK;obtain⟨xs,hq,hx⟩:=hg;obtain⟨its,rv,p,hz⟩:=I.list hq;obtain⟨f0,f1,f2,f3,f4,f5⟩:=hf it (by simp);have hl:=rv.length;exact wpAny_pyNext_list_end (I.ok.hd hc) st p.isList (by simp;omega) fun h' eb=>⟨rfl,I.turned (t':=s.toks) (fun b o hb e=>eb b o hb e) f0 f1 f3 f4 f5⟩
 self:=fun _ _ _ _ _ st h=>wpAny_pyIter_listiter st h
theorem x69(a it:Addr):Turn P w K tg (Itt K a) [it] it (fun i h=>h.IsTupleIter it a i) where
 mem:=by simp
 obj:=fun i h st b hb=>by
  have e:b=it:=by simpa using hb
  subst e;obtain⟨o,e,c,d⟩:=st;exact⟨o,e,fun v z=>by rw[d]at z;cases z⟩
 keep:=fun i h h' st k=>st.at fun o e=>k it (by simp) o e
 item:=by
  intro X hP hw hK hc i pins s σ H E I hf st hg;subst hP hw hK;obtain⟨xs,x,hq,hx⟩:=hg;obtain⟨its,rv,p,hz⟩:=I.tuple hq;obtain⟨u,hu,ru⟩:=rv.get hx;obtain⟨f0,f1,f2,f3,f4,f5⟩:=hf it (by simp);refine wpAny_pyNext_tuple_item st (show s.heap.IsTuple a its.toArray from p) (x:=u) (by simpa using hu) fun h' st' sb=>?_
  have I1:Inv X pins σ H {s with heap:=h'}:=I.turned (t':=s.toks) (fun b o hb e=>(sb.2 b hb).trans e) f0 f1 f3 f4 f5
  obtain⟨o,e,c,d⟩:=id st';exact⟨u,rfl,x68 (s:={s with heap:=h'}) e c d (by decide) ⟨x,H,I1,ru,⟨rfl,fun ys hy=>by rw[I.tuple_inj hy hq];exact hx⟩,st',fun b hb=>(hf b hb).1⟩⟩
 done:=by
  intro X hP hw hK hc i pins s σ H E I hf st hg;subst hP hw hK;obtain⟨xs,hq,hx⟩:=hg;obtain⟨its,rv,p,hz⟩:=I.tuple hq;obtain⟨f0,f1,f2,f3,f4,f5⟩:=hf it (by simp);have hl:=rv.length;exact wpAny_pyNext_tuple_end (I.ok.hd hc) st (show s.heap.IsTuple a its.toArray from p) (by simp;omega) fun h' eb=>⟨rfl,I.turned (t':=s.toks) (fun b o hb e=>eb b o hb e) f0 f1 f3 f4 f5⟩
 self:=fun _ _ _ _ _ st h=>wpAny_pyIter_tupleiter st h
theorem x7a(it:Addr)(lo:Int)(n:Nat):Turn P w K tg (Itr lo n) [it] it (fun i h=>IsRangeIter h it (lo+(i:Nat)*1) ((n:Int)-(i:Nat)) 1) where
 mem:=by simp
 obj:=fun i h st b hb=>by
  have e:b=it:=by simpa using hb
  subst e
  exact⟨_,st,fun v z=>by
   have z':Data.fields _=Data.cell v:=z;cases z'⟩
 keep:=fun i h h' st k=>k it (by simp) _ st
 item:=by
  intro X hP hw hK hc i pins s σ H E I hf st hg;subst hP hw hK;obtain⟨f0,f1,f2,f3,f4,f5⟩:=hf it (by simp);have W:=Walks.range (prog:=X.prog) (w:=X.w) (I.ok.hd hc) it lo 1 n;refine W.item i s _ _ hg st fun v h' tk hv st' kk=>?_
  obtain⟨t,rfl⟩:=hv;have I1:Inv X pins σ H {s with heap:=h',toks:=tk}:=I.turned (fun b o hb e=>kk b o (by simpa using hb) e) f0 f1 f3 f4 f5
  refine⟨_,rfl,x68 (s:={s with heap:=h',toks:=tk}) (n:="range_iterator") st' rfl rfl (by decide) ⟨.int (lo+i),H,I1,⟨t,?_⟩,⟨rfl,rfl⟩,st',fun b hb=>(hf b hb).1⟩⟩
  rw[Int.mul_one]
 done:=by
  intro X hP hw hK hc i pins s σ H E I hf st hg;subst hP hw hK;obtain⟨f0,f1,f2,f3,f4,f5⟩:=hf it (by simp);exact wpAny_pyNext_range_end (I.ok.hd hc) st (by have:n<=i:=hg;omega) fun h' eb=>⟨rfl,I.turned (t':=s.toks) (fun b o hb e=>eb b o hb e) f0 f1 f3 f4 f5⟩
 self:=fun _ _ _ _ _ st h=>wpAny_pyIter_rangeiter st h
theorem y1j{R:It->Hp->Prop}{lo hi:Int}{t u v:Tok}{tk:Nat}(I:Inv X pins σ H s)(h1:-(2^62)<=lo)(h2:lo<2^62)(h3:-(2^62)<=hi)(h4:hi<2^62)
  (q:R (Itr lo (hi-lo).toNat) H):wpAny (model X.prog X.w) X.A (pyIter (.ref s.heap.objs.size)) (PIE X pins σ tg R) E {s with heap:=s.heap.push {cls:=.type "range", data:=.fields #[.int lo t,.int hi u,.int 1 v]},toks:=tk}:=by
 refine wpAny_pyIter_range (IsRange.new ..) (small_one h1 h2 h3 h4) ?_;have I1:Inv X pins σ H {s with heap:=s.heap.push {cls:=.type "range", data:=.fields #[.int lo t,.int hi u,.int 1 v]},toks:=tk}:=I.kept fun b o e=>Heap.get?_push_of_some _ e
 refine⟨(s.heap.push {cls:=.type "range", data:=.fields #[.int lo t,.int hi u,.int 1 v]}).objs.size,[(s.heap.push {cls:=.type "range", data:=.fields #[.int lo t,.int hi u,.int 1 v]}).objs.size],_,_,H,rfl,
  I1.kept (t':=tk) fun b o e=>Heap.get?_push_of_some _ e,x7a _ lo (hi-lo).toNat,?_,fun b hb=>?_,q⟩
 ·have e1:lo+((0:Nat):Int)*1=lo:=by simp
  have e2:(((hi-lo).toNat:Nat):Int)-((0:Nat):Int)=Builtin.Range.rangeSize lo hi 1:=by rw[rangeSize_one];split<;>omega
  show IsRangeIter _ _ (lo+((0:Nat):Int)*1) ((((hi-lo).toNat:Nat):Int)-((0:Nat):Int)) 1;rw[e1,e2];exact Heap.get?_push_size _ rfl
 ·have e:b=(s.heap.push {cls:=.type "range", data:=.fields #[.int lo t,.int hi u,.int 1 v]}).objs.size:=by simpa using hb
  subst e;exact I1.fpOk (w0e _) (I1.hok.fresh (w0e _))
def iRng1(ta:TA):TI:=fun σ H R=>ta σ H fun vs H1=>∃j:Int,vs=[.int j]/\-(2^62)<=j/\j<2^62/\R (Itr 0 j.toNat) H1
theorem q8c{a:Expr}{ta:TA}(hg:Gl X "range")(hm:X.mg "range"=none)(ha:PA X [a] ta)(hs:starEach [a] X.env=[(false,eval a X.env)]:=by rfl):PI X tg (.Call (.Name "range" p) [a] [] pos) (iRng1 ta):=by
 intro pins s σ H R I h;refine Call_ (q67 I hg hm boot_range (PyProof.Rows.callWith_type1 (thn (ha pos pins s σ H _ I h) fun us s1 ⟨vs,H1,I1,r1,q1⟩=>?_) hs rfl))
 obtain⟨j,e,q1,q2,q⟩:=q1;subst e;cases r1 with
 |cons r rr=>
  cases rr;obtain⟨t,rfl⟩:=r;exact call_range_1 (y1j I1 (by omega) (by omega) q1 q2 (by simpa using q))
def tFor(wi:TI)(g:TG)(tb:TS):TS:=fun D σ H=>wi σ H fun J H1=>∃W:Nat->Nat->St->Hp->Prop,(∃m,W 0 m σ H1)/\∀i m σ H,W i m σ H ->
 (J.stop i H/\D.nx σ H)\/(J.go i H/\∃N:St->Hp->Prop,(∀σ' H',N σ' H'->∃m',m'<m/\W (i+1) m' σ' H')/\∀x H',J.yld i H x H'->g x σ H' fun σ2 H2=>tb {D with nx:=N,ct:=N,bk:=D.nx} σ2 H2)
noncomputable def pinsAt(fp:List Addr)(h:Heap):List (Addr×Obj):=fp.filterMap fun b=>(h.get? b).map fun o=>(b,o)
theorem q28{o:Obj}(hb:b∈fp)(e:h.get? b=some o):(b,o)∈pinsAt fp h:=w2j.mpr ⟨b,hb,by rw[e];rfl⟩
theorem x8m{p:Addr×Obj}(hp:p∈pinsAt fp h):p.1∈fp/\h.get? p.1=some p.2:=by
 obtain⟨b,hb,e⟩:=w2j.mp hp;cases q:h.get? b with
 |none=>rw[q]at e;cases e
 |some o=>
  rw[q]at e;have e':(b,o)=p:=Option.some.inj e;subst e';exact⟨hb,q⟩
theorem Inv.pinned(I:Inv X pins σ H s)(hf:∀b∈fp,FpOk X pins H b)(ho:∀b∈fp,∃o,s.heap.get? b=some o/\∀v,o.data≠.cell v):Inv X (pins++pinsAt fp s.heap) σ H s:=
 I.pins_of fun p hp=>(w1r.mp hp).elim (fun z=>I.pin p (w0k _ z)) fun z=>by
  obtain⟨hb,e⟩:=x8m z;obtain⟨f0,f1,f2,_⟩:=hf p.1 hb;obtain⟨o,e',d⟩:=ho p.1 hb;rw[e]at e';cases e';exact⟨e,f0,f1,f2,d⟩
theorem Inv.unpinned{pl:List (Addr×Obj)}(I:Inv X (pins++pl) σ H s):Inv X pins σ H s:=I.pins_of fun p hp=>I.pin p (w0k _ (w3d _ hp))
theorem x8n{iter:Expr}{body:List Stmt}{wi:TI}{g:TG}(hp:PassesOwn (model X.prog X.w) X.A X.env X.xe)(hc:X.calm=true)(hi:PI X tg iter wi)(hg:PG X tg g)(hb:PSs X body tb)
  (hs:∀x,foldedSetIterable iter X.env x=pure x:=by intro _;rfl):PS X (.For tg iter body [] pos) (tFor wi g tb):=by
 intro pins s σ H D I h;refine wpAny_For (thn (hi pins s σ H _ I h) fun v s1 h1=>thn h1 fun itv s2 h2=>?_) hs
 obtain⟨it,fp,tn,J,H2,e,I2,T,st2,f2,W,⟨m0,w0⟩,turn⟩:=h2;subst e;have stat:∀{H':Hp},(∀b∈fp,H' b=none)->∀b∈fp,FpOk X pins H' b:=fun hn b hb=>⟨hn b hb,(f2 b hb).2⟩
 refine codeAny_forLoop_any (fun n s'=>∃i σ' H',Inv X pins σ' H' s'/\tn i s'.heap/\(∀b∈fp,H' b=none)/\W i n σ' H') ?_ m0 ⟨0,σ,H2,I2,st2,fun b hb=>(f2 b hb).1,w0⟩
 rintro n s3 ⟨i,σ3,H3,I3,st3,fr3,w3⟩;rcases turn i n σ3 H3 w3 with⟨stop,qn⟩|⟨go,N,hN,step⟩
 ·refine wpAny_passesOwn hp (thn (T.done X rfl rfl rfl hc i pins s3 σ3 H3 X.xe I3 (stat fr3) st3 stop) fun r s4 ⟨hr,I4⟩=>?_)
  subst hr;exact wpAny_execs_nil ⟨σ3,H3,I4,qn⟩
 ·refine wpAny_passesOwn hp (thn (T.item X rfl rfl rfl hc i pins s3 σ3 H3 X.xe I3 (stat fr3) st3 go) fun r s4 ⟨u,hr,h4⟩=>?_)
  subst hr;refine wpAny_passesOwn hp (thn h4 fun _ s5 ⟨x,H5,I5,r5,y5,st5,fr5⟩=>?_)
  have I5':=I5.pinned (stat fr5) (T.obj _ _ st5);refine wpAny_passesOwn hp (thn (hg _ s5 σ3 H5 x u _ I5' r5 (step x H5 y5)) fun _ s6 ⟨σ6,H6,I6,q6⟩=>?_)
  refine wpAny_passesOwn hp (thn (hb _ s6 σ6 H6 _ I6 q6) fun f s7 q7=>?_)
  have again:∀{σ7:St}{H7:Hp},Inv X (pins++pinsAt fp s5.heap) σ7 H7 s7->N σ7 H7->∃m,m<n/\∃i σ' H',Inv X pins σ' H' s7/\tn i s7.heap/\(∀b∈fp,H' b=none)/\W i m σ' H':=fun {σ7 H7} I7 n7=>by
   obtain⟨m',hm,w7⟩:=hN σ7 H7 n7;refine⟨m',hm,i+1,σ7,H7,I7.unpinned,T.keep _ _ _ st5 fun b hb o e=>(I7.pin (b,o) (w0k _ (w0k _ (q28 hb e)))).1,fun b hb=>?_,w7⟩
   obtain⟨o,e,d⟩:=T.obj _ _ st5 b hb;exact(I7.pin (b,o) (w0k _ (w0k _ (q28 hb e)))).2.1
  cases f with
  |next=>obtain⟨σ7,H7,I7,n7⟩:=q7;exact again I7 n7
  |cont=>obtain⟨σ7,H7,I7,n7⟩:=q7;exact again I7 n7
  |brk=>obtain⟨σ7,H7,I7,q7⟩:=q7;exact⟨σ7,H7,I7.unpinned,q7⟩
  |ret v=>obtain⟨x7,σ7,H7,I7,r7,q7⟩:=q7;exact⟨x7,σ7,H7,I7.unpinned,r7,q7⟩
theorem y1k{g:TG}{D:Ends}(Pv:Nat->St->Hp->Prop)(h0:Pv 0 σ H)(hl:∀i σ H,i<=xs.length->Pv i σ H->SqL K H a xs)
  (hs:∀i x σ H,xs[i]?=some x->Pv i σ H->g x σ H fun σ2 H2=>tb {D with nx:=Pv (i+1),ct:=Pv (i+1),bk:=D.nx} σ2 H2)(hd:∀σ H,Pv xs.length σ H->D.nx σ H):
  ∃W:Nat->Nat->St->Hp->Prop,(∃m,W 0 m σ H)/\∀i m σ H,W i m σ H ->
   ((Itl K a).stop i H/\D.nx σ H)\/((Itl K a).go i H/\∃N:St->Hp->Prop,(∀σ' H',N σ' H'->∃m',m'<m/\W (i+1) m' σ' H')/\∀x H',(Itl K a).yld i H x H'->g x σ H' fun σ2 H2=>tb {D with nx:=N,ct:=N,bk:=D.nx} σ2 H2):=by
 refine⟨fun i m σ H=>m=xs.length-i/\i<=xs.length/\Pv i σ H,⟨xs.length,by simp,w1i _,h0⟩,?_⟩
 rintro i m σ H ⟨rfl,hi,p⟩;have q:=hl i σ H hi p
 by_cases hlt:i<xs.length
 ·refine .inr ⟨⟨xs,xs[i],q,by simp[hlt]⟩,Pv (i+1),fun σ' H' p'=>⟨xs.length-(i+1),by omega,rfl,hlt,p'⟩,fun x H' y=>?_⟩
  obtain⟨e,y⟩:=y;subst e;exact hs i x σ _ (y xs q) p
 ·have e:i=xs.length:=by omega
  subst e;exact .inl ⟨⟨xs,q,w0e _⟩,hd σ H p⟩
theorem y4n{g:TG}{D:Ends}(Pv:Nat->St->Hp->Prop)(h0:Pv 0 σ H)(hl:∀i σ H,i<=xs.length->Pv i σ H->SqT K H a xs)
  (hs:∀i x σ H,xs[i]?=some x->Pv i σ H->g x σ H fun σ2 H2=>tb {D with nx:=Pv (i+1),ct:=Pv (i+1),bk:=D.nx} σ2 H2)(hd:∀σ H,Pv xs.length σ H->D.nx σ H):
  ∃W:Nat->Nat->St->Hp->Prop,(∃m,W 0 m σ H)/\∀i m σ H,W i m σ H ->
   ((Itt K a).stop i H/\D.nx σ H)\/((Itt K a).go i H/\∃N:St->Hp->Prop,(∀σ' H',N σ' H'->∃m',m'<m/\W (i+1) m' σ' H')/\∀x H',(Itt K a).yld i H x H'->g x σ H' fun σ2 H2=>tb {D with nx:=N,ct:=N,bk:=D.nx} σ2 H2):=by
 refine⟨fun i m σ H=>m=xs.length-i/\i<=xs.length/\Pv i σ H,⟨xs.length,by simp,w1i _,h0⟩,?_⟩
 rintro i m σ H ⟨rfl,hi,p⟩;have q:=hl i σ H hi p
 by_cases hlt:i<xs.length
 ·refine .inr ⟨⟨xs,xs[i],q,by simp[hlt]⟩,Pv (i+1),fun σ' H' p'=>⟨xs.length-(i+1),by omega,rfl,hlt,p'⟩,fun x H' y=>?_⟩
  obtain⟨e,y⟩:=y;subst e;exact hs i x σ _ (y xs q) p
 ·have e:i=xs.length:=by omega
  subst e;exact .inl ⟨⟨xs,q,w0e _⟩,hd σ H p⟩
theorem x8o{lo:Int}{n:Nat}{g:TG}{D:Ends}(Pv:Nat->St->Hp->Prop)(h0:Pv 0 σ H)
  (hs:∀i σ H,i<n->Pv i σ H->g (.int (lo+i)) σ H fun σ2 H2=>tb {D with nx:=Pv (i+1),ct:=Pv (i+1),bk:=D.nx} σ2 H2)(hd:∀σ H,Pv n σ H->D.nx σ H):
  ∃W:Nat->Nat->St->Hp->Prop,(∃m,W 0 m σ H)/\∀i m σ H,W i m σ H ->
   ((Itr lo n).stop i H/\D.nx σ H)\/((Itr lo n).go i H/\∃N:St->Hp->Prop,(∀σ' H',N σ' H'->∃m',m'<m/\W (i+1) m' σ' H')/\∀x H',(Itr lo n).yld i H x H'->g x σ H' fun σ2 H2=>tb {D with nx:=N,ct:=N,bk:=D.nx} σ2 H2):=by
 refine⟨fun i m σ H=>m=n-i/\i<=n/\Pv i σ H,⟨n,by simp,w1i _,h0⟩,?_⟩
 rintro i m σ H ⟨rfl,hi,p⟩
 by_cases hlt:i<n
 ·refine .inr ⟨hlt,Pv (i+1),fun σ' H' p'=>⟨n-(i+1),by omega,rfl,hlt,p'⟩,fun x H' y=>?_⟩
  obtain⟨e,y⟩:=y;subst e y;exact hs i σ _ hlt p
 ·have e:i=n:=by omega
  subst e;exact .inl ⟨w0e _,hd σ H p⟩
abbrev R2:=V->V->Hp->VK->Prop
variable{r:R2}
def OpR(X:Cx)(f:Value->Value->Sem Value)(r:R2):Prop:=
 ∀(pins:List (Addr×Obj))(s:Shared)(σ:St)(H:Hp)(x y:V)(v u:Value)(Q:VK),Inv X pins σ H s->RelV x v->RelV y u->r x y H Q ->
  wpAny (model X.prog X.w) X.A (f v u) (EP X pins σ Q) X.xe s
def UnR(X:Cx)(f:Value->Sem Value)(r:V->Hp->VK->Prop):Prop:=
 ∀(pins:List (Addr×Obj))(s:Shared)(σ:St)(H:Hp)(x:V)(v:Value)(Q:VK),Inv X pins σ H s->RelV x v->r x H Q ->
  wpAny (model X.prog X.w) X.A (f v) (EP X pins σ Q) X.xe s
def CallR(X:Cx)(f:Value)(r:List V->Hp->VK->Prop):Prop:=
 ∀(pins:List (Addr×Obj))(s:Shared)(σ:St)(H:Hp)(xs:List V)(us:List Value)(Q:VK),Inv X pins σ H s->Vals xs us->r xs H Q ->
  wpAny (model X.prog X.w) X.A (call f us) (EP X pins σ Q) X.xe s
def TruR(X:Cx)(r:V->Hp->(Bool->Hp->Prop)->Prop):Prop:=
 ∀(pins:List (Addr×Obj))(s:Shared)(σ:St)(H:Hp)(x:V)(v:Value)(Q:Bool->Hp->Prop),Inv X pins σ H s->RelV x v->r x H Q ->
  wpAny (model X.prog X.w) X.A (truthy v) (TP X pins σ Q) X.xe s
def tOp(r:R2)(ta tb:TE):TE:=fun σ H Q=>ta σ H fun x H1=>tb σ H1 fun y H2=>r x y H2 Q
def rI(C:Int->Int->Prop)(g:Int->Int->V):R2:=fun x y H Q=>∃i j,x=.int i/\y=.int j/\C i j/\Q (g i j) H
def rI0(g:Int->Int->V):R2:=fun x y H Q=>∃i j,x=.int i/\y=.int j/\Q (g i j) H
section
variable{a b:Expr}{tb tc:TE}
theorem binT(ha:PE X a ta)(hb:PE X b tb){R:V->V->Hp->Prop}(I:Inv X pins σ H s)
  (h:ta σ H fun x H1=>tb σ H1 fun y H2=>R x y H2){Q:Value->Shared->Prop}
  (hf:∀v u s2 x y H2,Inv X pins σ H2 s2->RelV x v->RelV y u->R x y H2->wpAny (model X.prog X.w) X.A (f v u) Q X.xe s2):
  wpAny (model X.prog X.w) X.A (eval a X.env) (fun v s₁=>wpAny (model X.prog X.w) X.A (eval b X.env) (fun u s₂=>wpAny (model X.prog X.w) X.A (f v u) Q X.xe s₂) X.xe s₁) X.xe s:=by
 refine thn (ha pins s σ H _ I h) fun v s1 ⟨x,H1,I1,r1,q1⟩=>?_
 refine thn (hb pins s1 σ H1 _ I1 q1) fun u s2 ⟨y,H2,I2,r2,q2⟩=>?_
 exact hf v u s2 x y H2 I2 r1 r2 q2
theorem x7b{op:Operator}(ho:OpR X (binaryOp op) r)(ha:PE X a ta)(hb:PE X b tb):PE X (.BinOp a op b pos) (tOp r ta tb):=by
 intro pins s σ H Q I h;exact wpAny_BinOp (binT ha hb I h fun v u s2 x y H2 I2 rx ry q=>ho pins s2 σ H2 x y v u Q I2 rx ry q)
theorem opI{C:Int->Int->Prop}{g:Int->Int->Int}
  (rule:∀(i j:Int)(t u:Tok)(s:Shared)(Q:Value->Shared->Prop)(E:Value->Shared->Prop),C i j->Q (.int (g i j) s.toks) {s with toks:=s.toks+1}->wpAny (model X.prog X.w) X.A (f (.int i t) (.int j u)) Q E s):
  OpR X f (rI C fun i j=>.int (g i j)):=by
 intro pins s σ H x y v u Q I rx ry h;obtain⟨i,j,rfl,rfl,hc,q⟩:=h;obtain⟨t,rfl⟩:=rx;obtain⟨t',rfl⟩:=ry;exact rule i j t t' s _ _ hc ⟨.int (g i j),H,I.tok _,⟨_,rfl⟩,q⟩
theorem opI0{g:Int->Int->Int}
  (rule:∀(i j:Int)(t u:Tok)(s:Shared)(Q:Value->Shared->Prop)(E:Value->Shared->Prop),Q (.int (g i j) s.toks) {s with toks:=s.toks+1}->wpAny (model X.prog X.w) X.A (f (.int i t) (.int j u)) Q E s):
  OpR X f (rI0 fun i j=>.int (g i j)):=by
 intro pins s σ H x y v u Q I rx ry h;obtain⟨i,j,rfl,rfl,q⟩:=h;obtain⟨t,rfl⟩:=rx;obtain⟨t',rfl⟩:=ry;exact rule i j t t' s _ _ ⟨.int (g i j),H,I.tok _,⟨_,rfl⟩,q⟩
theorem opB0{g:Int->Int->Bool}
  (rule:∀(i j:Int)(t u:Tok)(s:Shared)(Q:Value->Shared->Prop)(E:Value->Shared->Prop),Q (.bool (g i j)) s->wpAny (model X.prog X.w) X.A (f (.int i t) (.int j u)) Q E s):
  OpR X f (rI0 fun i j=>.bl (g i j)):=by
 intro pins s σ H x y v u Q I rx ry h;obtain⟨i,j,rfl,rfl,q⟩:=h;obtain⟨t,rfl⟩:=rx;obtain⟨t',rfl⟩:=ry;exact rule i j t t' s _ _ ⟨.bl (g i j),H,I,rfl,q⟩
def CDiv(i j:Int):Prop:=0<j/\j<1073741824
def CMul(i j:Int):Prop:=(-(2^64)<i/\i<2^64)\/(-(2^64)<j/\j<2^64)
theorem CMul.ok{i j:Int}(h:CMul i j):IntMulOk i j:=by
 rcases h with⟨h1,h2⟩|⟨h1,h2⟩
 ·exact .of_left (intBits_le_64 h1 h2)
 ·exact .of_right (intBits_le_64 h1 h2)
theorem op_add:OpR X (binaryOp .Add) (rI0 fun i j=>.int (i+j)):=opI0 fun _ _ _ _ _ _ _ q=>add_int q
theorem y8p:OpR X (binaryOp .Sub) (rI0 fun i j=>.int (i-j)):=opI0 fun _ _ _ _ _ _ _ q=>sub_int q
theorem y8q:OpR X (binaryOp .Mult) (rI CMul fun i j=>.int (i*j)):=opI fun _ _ _ _ _ _ _ hc q=>mul_int q hc.ok
theorem y4o:OpR X (binaryOp .FloorDiv) (rI CDiv fun i j=>.int (i / j)):=opI fun i j _ _ _ _ _ hc q=>by
 have h1:(0:Int)<j:=hc.1;have h2:j<1073741824:=hc.2;exact floordiv_int (by omega) (by rw[Int.fdiv_eq_ediv_of_nonneg i (by omega)];exact q) (.inl (PyProof.noPylong_small (by omega)))
theorem y8r:OpR X (binaryOp .Mod) (rI (fun _ j=>0<j) fun i j=>.int (i%j)):=opI fun i j _ _ _ _ _ hc q=>by
 have h1:(0:Int)<j:=hc;exact mod_int' (by omega) (by rw[Int.fmod_eq_emod_of_nonneg i (by omega)];exact q)
end
noncomputable def scal:V->V->Bool
 |.non,.non=>true|.non,.int _=>true|.int _,.non=>true|.non,.bl _=>true|.bl _,.non=>true|.non,.str _=>true|.str _,.non=>true
 |.int _,.int _=>true|.bl _,.bl _=>true|.str _,.str _=>true|.byt _,.byt _=>true
 |.int _,.str _=>true|.str _,.int _=>true|.bl _,.str _=>true|.str _,.bl _=>true
 |_,_=>false
def rEq:R2:=fun x y H Q=>scal x y=true/\Q (.bl (decide (x=y))) H
theorem y4p{i j:Int}:decide (V.int i=V.int j)=(i==j):=by
 rw[w0x];simp
theorem y8s{i j:Bool}:decide (V.bl i=V.bl j)=(i==j):=by
 rw[w0x];simp
theorem y4q{i j:Str}:decide (V.str i=V.str j)=(i==j):=by
 rw[w0x];simp
theorem y4r{i j:Array UInt8}:decide (V.byt i=V.byt j)=(i.toList==j.toList):=by
 rw[w0x];cases i;cases j;simp
section
variable{a b:Expr}{tb tc:TE}
theorem q1y{Q:VK}{k k':Bool}(I:Inv X pins σ H s)(q:Q (.bl k) H)(e:k=k'):EP X pins σ Q (.bool k') s:=by
 subst e;exact⟨.bl k,H,I,rfl,q⟩
theorem z2b:OpR X (compareOp .Eq) rEq:=by
 intro pins s σ H x y v u Q I rx ry h;obtain⟨hs,q⟩:=h;cases x with
 |non=>
  cases rx;cases y with
  |non=>cases ry;exact PySem.EqNone.eq_none_none (q1y I q (by simp))
  |bl j=>cases ry;exact PySem.EqNone.eq_none_bool (q1y I q (by simp))
  |int j=>obtain⟨t',rfl⟩:=ry;exact PySem.EqNone.eq_none_int (q1y I q (by simp))
  |str j=>obtain⟨t',rfl⟩:=ry;exact PySem.EqNone.eq_none_str (q1y I q (by simp))
  |_=>exact absurd (show false=true from hs) w0t
 |bl i=>
  cases rx;cases y with
  |non=>cases ry;exact PySem.EqNone.eq_bool_none (q1y I q (by simp))
  |bl j=>cases ry;exact eq_bool (q1y I q y8s)
  |str j=>obtain⟨t',rfl⟩:=ry;exact PySem.EqMixed.eq_bool_str (q1y I q (by simp))
  |_=>exact absurd (show false=true from hs) w0t
 |int i=>
  obtain⟨t,rfl⟩:=rx;cases y with
  |non=>cases ry;exact PySem.EqNone.eq_int_none (q1y I q (by simp))
  |int j=>obtain⟨t',rfl⟩:=ry;exact eq_int (q1y I q y4p)
  |str j=>obtain⟨t',rfl⟩:=ry;exact PySem.EqMixed.eq_int_str (q1y I q (by simp))
  |_=>exact absurd (show false=true from hs) w0t
 |str i=>
  obtain⟨t,rfl⟩:=rx;cases y with
  |non=>cases ry;exact PySem.EqNone.eq_str_none (q1y I q (by simp))
  |bl j=>cases ry;exact PySem.EqMixed.eq_str_bool (q1y I q (by simp))
  |int j=>obtain⟨t',rfl⟩:=ry;exact PySem.EqMixed.eq_str_int (q1y I q (by simp))
  |str j=>obtain⟨t',rfl⟩:=ry;exact eq_str (q1y I q y4q)
  |_=>exact absurd (show false=true from hs) w0t
 |byt i=>
  obtain⟨t,rfl⟩:=rx;cases y with
  |byt j=>obtain⟨t',rfl⟩:=ry;exact PySem.W.eq_bytes (q1y I q y4r)
  |_=>exact absurd (show false=true from hs) w0t
 |_=>cases y<;>exact absurd (show false=true from hs) w0t
theorem y33:OpR X (compareOp .Lt) (rI0 fun i j=>.bl (decide (i<j))):=opB0 fun _ _ _ _ _ _ _ q=>lt_int q
theorem y34:OpR X (compareOp .LtE) (rI0 fun i j=>.bl (decide (i<=j))):=opB0 fun _ _ _ _ _ _ _ q=>le_int q
theorem z2c:OpR X (compareOp .Gt) (rI0 fun i j=>.bl (decide (j<i))):=opB0 fun _ _ _ _ _ _ _ q=>gt_int q
theorem z2d:OpR X (compareOp .GtE) (rI0 fun i j=>.bl (decide (j<=i))):=opB0 fun _ _ _ _ _ _ _ q=>ge_int q
theorem OpR.or{r':R2}(h:OpR X f r)(h':OpR X f r'):OpR X f (fun x y H Q=>r x y H Q\/r' x y H Q):=by
 intro pins s σ H x y v u Q I rx ry q;rcases q with q|q
 ·exact h pins s σ H x y v u Q I rx ry q
 ·exact h' pins s σ H x y v u Q I rx ry q
theorem nomark(b:Expr)(h:op≠.In:=by decide)(h2:op≠.NotIn:=by decide):behindInMarks op b=false:=by
 have e1:(op==CmpOp.In)=false:=by cases op<;>first|rfl|exact absurd rfl h
 have e2:(op==CmpOp.NotIn)=false:=by cases op<;>first|rfl|exact absurd rfl h2
 cases b<;>simp[behindInMarks,e1,e2]
theorem y4s(ho:OpR X (compareOp op) r)(ha:PE X a ta)(hb:PE X b tb)(hm:behindInMarks op b=false):PE X (.Compare a [op] [b] pos) (tOp r ta tb):=by
 intro pins s σ H Q I h;exact wpAny_Compare1 (binT ha hb I h fun v u s2 x y H2 I2 rx ry q=>ho pins s2 σ H2 x y v u Q I2 rx ry q) hm
def tTest(t:TE):TT:=fun σ H Q=>t σ H fun x H'=>∃k,x=.bl k/\Q k H'
theorem q8t(ho:OpR X (compareOp op) r)(ha:PE X a ta)(hb:PE X b tb)(hm:behindInMarks op b=false):PT X (.Compare a [op] [b] pos) (tTest (tOp r ta tb)):=by
 intro pins s σ H Q I h
 refine wpAny_isTrue_Compare1 (thn (ha pins s σ H _ I h) fun v s1 ⟨x,H1,I1,r1,q1⟩=>thn (hb pins s1 σ H1 _ I1 q1) fun u s2 ⟨y,H2,I2,r2,q2⟩=>
  thn (ho pins s2 σ H2 x y v u _ I2 r1 r2 q2) fun c s3 ⟨z,H3,I3,r3,k,e,q3⟩=>?_) hm
 subst e;cases r3;exact wpAny_truthy_bool ⟨H3,I3,q3⟩
def TruV(K:PySem.W.Frag)(x:V)(H:Hp)(k:Bool):Prop:=
 match x with
 |.non=>k=false
 |.bl b=>k=b
 |.int i=>k=(i != 0)
 |.str y=>y.length<=sizeLine/\k=((y.length:Int) != 0)
 |.byt y=>y.size<=sizeLine/\k=((y.size:Int) != 0)
 |.ref p=>(∃xs,SqL K H p xs/\k=!xs.isEmpty)\/(∃xs,SqT K H p xs/\k=!xs.isEmpty)\/∃kvs,H p=some (.dK kvs)/\k=!kvs.isEmpty
 |_=>False
theorem x7c{κ:Type}{kvs:List (κ×V)}{vs:List (κ×Value)}(r:KV kvs vs):(!vs.isEmpty)=!kvs.isEmpty:=by
 cases r<;>rfl
theorem x0c{its:List Value}(r:Vals xs its):(!its.toArray.isEmpty)=!xs.isEmpty:=by
 cases r<;>simp
theorem line63:(sizeLine:Nat)<2^63:=by rw[sizeLine_eq];decide
theorem y8t:TruR X (fun x H Q=>∃k,TruV X.K x H k/\Q k H):=by
 intro pins s σ H x v Q I rx h;obtain⟨k,e,q⟩:=h;have hl:=line63;have hs:sizeLine=16777216:=sizeLine_eq;cases x with
 |non=>
  cases rx;have e':k=false:=e;subst e';exact truthy_none ⟨H,I,q⟩
 |bl b=>
  cases rx;have e':k=b:=e;subst e';exact wpAny_truthy_bool ⟨H,I,q⟩
 |int i=>
  obtain⟨t,rfl⟩:=rx;have e':k=(i != 0):=e;subst e';exact PySem.P.truthy_int ⟨H,I,q⟩
 |str y=>
  obtain⟨t,rfl⟩:=rx;obtain⟨hy,e'⟩:y.length<=sizeLine/\k=((y.length:Int) != 0):=e;subst e';exact PySem.P.truthy_str (by omega) ⟨H,I.tok _,q⟩
 |byt y=>
  obtain⟨t,rfl⟩:=rx;obtain⟨hy,e'⟩:y.size<=sizeLine/\k=((y.size:Int) != 0):=e;subst e';exact PySem.W.truthy_bytes (by omega) ⟨H,I.tok _,q⟩
 |ref p=>
  cases rx;have e':(∃xs,SqL X.K H p xs/\k=!xs.isEmpty)\/(∃xs,SqT X.K H p xs/\k=!xs.isEmpty)\/∃kvs,H p=some (.dK kvs)/\k=!kvs.isEmpty:=e;rcases e' with⟨xs,hx,e'⟩|⟨xs,hx,e'⟩|⟨kvs,hx,e'⟩
  ·subst e';obtain⟨its,r,pl,hz⟩:=I.list hx;have hlen:=r.length;exact wpAny_truthy_list pl.isList (by simp only[w0d];omega) ⟨H,I.tok _,by rw[x0c r];exact q⟩
  ·subst e';obtain⟨its,r,pl,hz⟩:=I.tuple hx;have hlen:=r.length;exact truthy_tuple pl (by simp only[w0d];omega) ⟨H,I.tok _,by rw[x0c r];exact q⟩
  ·subst e';obtain⟨hz,hS,vs,r,m⟩:kvs.length<=sizeLine/\(p==sysModules)=false/\∃vs,KV kvs vs/\s.heap.DictOf (mixKind X.prog X.w) p vs:=I.hok p _ hx;have hlen:kvs.length=vs.length:=Paired.length r;exact wpAny_truthy_dict hS m (by omega) ⟨H,I.tok _,by rw[x7c r];exact q⟩
 |_=>exact(show False from e).elim
theorem x3o(ha:PE X a ta)(he:∀whole,isTrue a X.env whole=(do let v <- whole;standAt a.pos;holding [v] (truthy v))):
  PT X a (fun σ H Q=>ta σ H fun x H'=>∃k,TruV X.K x H' k/\Q k H'):=by
 intro pins s σ H Q I h;exact isTrue_plain (thn (ha pins s σ H _ I h) fun v s1 ⟨x,H1,I1,r1,q1⟩=>y8t pins s1 σ H1 x v Q I1 r1 q1) (he _)
theorem op_add_str:OpR X (binaryOp .Add) (fun x y H Q=>∃i j,x=.str i/\y=.str j/\i.length+j.length<=sizeLine/\Q (.str (i++j)) H):=by
 intro pins s σ H x y v u Q I rx ry h;obtain⟨i,j,rfl,rfl,hz,q⟩:=h;obtain⟨t,rfl⟩:=rx;obtain⟨t',rfl⟩:=ry;exact add_str (fun t' tk=>⟨.str (i++j),H,I.tok _,⟨_,rfl⟩,q⟩) hz
theorem vals1{x:V}(r:Vals [x] us):∃u,us=[u]/\RelV x u:=by
 cases r with
 |cons r1 r2=>cases r2;exact⟨_,rfl,r1⟩
theorem vals2{x y:V}(r:Vals [x,y] us):∃u w',us=[u,w']/\RelV x u/\RelV y w':=by
 cases r with
 |cons r1 r2=>
  cases r2 with
  |cons r3 r4=>cases r4;exact⟨_,_,rfl,r1,r3⟩
theorem x8p:CallR X (.type "int") (fun xs H Q=>(∃i,xs=[.int i]/\Q (.int i) H)\/∃k,xs=[.bl k]/\Q (.int (if k then 1 else 0)) H):=by
 intro pins s σ H xs us Q I r h;rcases h with⟨i,rfl,q⟩|⟨k,rfl,q⟩
 ·obtain⟨u,rfl,t,rfl⟩:=vals1 r;exact call_int_int ⟨.int i,H,I,⟨_,rfl⟩,q⟩
 ·obtain⟨u,rfl,r1⟩:=vals1 r;cases r1;exact call_int_bool ⟨.int (if k then 1 else 0),H,I.tok _,⟨_,rfl⟩,q⟩
def LenV(K:PySem.W.Frag)(x:V)(H:Hp)(n:Nat):Prop:=
 match x with
 |.str y=>y.length<=sizeLine/\n=y.length
 |.byt y=>y.size<=sizeLine/\n=y.size
 |.ref p=>(∃xs,SqL K H p xs/\n=xs.length)\/∃xs,SqT K H p xs/\n=xs.length
 |_=>False
theorem q9m:CallR X (.builtin "len") (fun xs H Q=>∃x n,xs=[x]/\LenV X.K x H n/\Q (.int n) H):=by
 intro pins s σ H xs us Q I r h;obtain⟨x,n,rfl,e,q⟩:=h;obtain⟨u,rfl,rx⟩:=vals1 r;have hl:=line63;have hs:sizeLine=16777216:=sizeLine_eq;cases x with
 |str y=>
  obtain⟨t,rfl⟩:=rx;obtain⟨hy,e'⟩:y.length<=sizeLine/\n=y.length:=e;subst e';exact len_str (by omega) ⟨.int _,H,I.tok _,⟨_,rfl⟩,q⟩
 |byt y=>
  obtain⟨t,rfl⟩:=rx;obtain⟨hy,e'⟩:y.size<=sizeLine/\n=y.size:=e;subst e';exact PySem.W.len_bytes (by omega) ⟨.int _,H,I.tok _,⟨_,rfl⟩,q⟩
 |ref p=>
  cases rx;have e':(∃xs,SqL X.K H p xs/\n=xs.length)\/∃xs,SqT X.K H p xs/\n=xs.length:=e;rcases e' with⟨xs,hx,e'⟩|⟨xs,hx,e'⟩
  ·subst e';obtain⟨its,r',pl,hz⟩:=I.list hx;have hlen:=r'.length;exact Calls.call_len_list pl.isList (by simp only[w0d];omega) ⟨.int xs.length,H,I.tok _,⟨_,by simp only[w0d];rw[hlen]⟩,q⟩
  ·subst e';obtain⟨its,r',pl,hz⟩:=I.tuple hx;have hlen:=r'.length;exact len_tuple pl (by simp only[w0d];omega) ⟨.int xs.length,H,I.tok _,⟨_,by simp only[w0d];rw[hlen]⟩,q⟩
 |_=>exact(show False from e).elim
end
structure ObjM(h:Heap)(x dx C:Addr)(mA:Str->Option Value):Prop where
 obj:h.get? x=some (PySem.W.instObj C dx)
 ns:h.Ns1 dx mA
 ne:dx≠x
theorem RelO.some_of{v:V}{o:Option Value}(r:RelO (some v) o):∃u,o=some u/\RelV v u:=by
 cases o with
 |none=>exact(show False from r).elim
 |some u=>exact⟨u,rfl,r⟩
structure Cls(K:PySem.W.Frag)(C:Addr):Prop where
 pg:PySem.W.plainGet K C Str.empty=true
 hd:PySem.W.hasDictIn K C=true
 po:PySem.W.plainOver K C=true
 sa:findIn K (.ref C) "__setattr__"=some (some (.builtin "object.__setattr__"))
structure Con(K:PySem.W.Frag)(C:Addr)(f:Str)(v:V)(u:Value):Prop where
 at_:findIn K (.ref C) f=some (some u)
 rel:RelV v u
 get:specialIn K u "__get__"=some none
 cp:PySem.W.copiedNames.contains f=false
structure Meth(K:PySem.W.Frag)(C:Addr)(m:Str)(f:Addr):Prop where
 at_:findIn K (.ref C) m=some (some (.ref f))
 fn:PySem.W.isFn K (.ref f)=true
 kp:keepIn K (.ref f)=true
section
variable{Q:Value->Shared->Prop}{c:Value}{b:Bool}
inductive TyOf(K:PySem.W.Frag)(H:Hp):V->Value->Prop where
 |non:TyOf K H .non (.type "NoneType")
 |bl (x:Bool):TyOf K H (.bl x) (.type "bool")
 |int (i:Int):TyOf K H (.int i) (.type "int")
 |str (x:Str):TyOf K H (.str x) (.type "str")
 |flt (x:UInt64):TyOf K H (.flt x) (.type "float")
 |lst {a:Addr} {xs:List V} (e:H a=some (.lst xs)):TyOf K H (.ref a) (.type "list")
 |frz {a:Addr} {o:Obj} {xs:List V} (e:H a=some (.frz o (.lst xs))):TyOf K H (.ref a) (.type "list")
 |tup {a:Addr} {xs:List V} (e:H a=some (.tup xs)):TyOf K H (.ref a) (.type "tuple")
 |dK {a:Addr} {kvs:List (Key×V)} (e:H a=some (.dK kvs)):TyOf K H (.ref a) (.type "dict")
 |dT {a:Addr} {sh:Sh} {kvs:List (Kx×V)} {kas:List Addr} (e:H a=some (.dT sh kvs kas)):TyOf K H (.ref a) (.type "dict")
 |ins {a C dx:Addr} {fs:List (Str×V)} (e:H a=some (.ins C dx fs)) (cl:Cls K C) (ha:findIn K (.ref C) "__class__"=some (some (.builtin "object.__class__")))
   (hn:specialIn K (.builtin "object.__class__") "__get__"=some (some (.builtin "getset_descriptor.__get__"))) (htk:takesIn K (.builtin "object.__class__")=some true)
   (hm:PySem.W.mroIn K C (.type "object")=some true):TyOf K H (.ref a) (.ref C)
end
structure Room(k:Nat)(A:Around):Prop where
 hd:A.handled=none
 dp:A.depth+3*k+5<recursionLimit
 un:A.units+16*k+200<cLine
 gd:A.guards=some []
theorem Room.deeper{k:Nat}(r:Room (k+1) A)(env:Env):Room k (A.deeper env):=
 ⟨r.hd,by have:=r.dp;show A.depth+1+3*k+5<_;omega,by have:=r.un;show A.units+3+16*k+200<_;omega,r.gd⟩
theorem Room.depth{k:Nat}(r:Room k A):A.depth<recursionLimit:=by have:=r.dp;omega
def tNil:TA:=fun _ H Q=>Q [] H
def tCons(ta:TE)(tr:TA):TA:=fun σ H Q=>ta σ H fun x H1=>tr σ H1 fun xs H2=>Q (x::xs) H2
section
variable{t:TA}
theorem q1z:PA X [] tNil:=fun _ _ _ _ H Q I h=>Calls.spliced_nil ⟨[],H,I,.nil,h⟩
theorem q0s(ha:PE X e te)(hr:PA X es t)(hs:starEach (e::es) X.env=(false,eval e X.env)::starEach es X.env:=by rfl):PA X (e::es) (tCons te t):=by
 intro pos pins s σ H Q I h;rw[hs];show wpAny _ _ (spliced ((false,eval e X.env)::backTo pos (starEach es X.env))) _ _ s;refine Calls.spliced_cons (thn (ha pins s σ H _ I h) fun u s1 ⟨x,H1,I1,r1,q1⟩=>?_)
 exact thn (hr pos pins s1 σ H1 _ I1 q1) fun us s2 ⟨xs,H2,I2,r2,q2⟩=>⟨x::xs,H2,I2,.cons r1 r2,q2⟩
def tTup(t:TA):TE:=fun σ H Q=>t σ H fun xs H1=>xs.length<=sizeLine/\∀p,H1 p=none->Q (.ref p) (upd H1 p (.tup xs))
def tLst(t:TA):TE:=fun σ H Q=>t σ H fun xs H1=>xs.length<=sizeLine/\∀p,H1 p=none->Q (.ref p) (upd H1 p (.lst xs))
theorem x0d{x1}(h:PA X es t):PE X (.Tuple es x1 pos) (tTup t):=by
 intro pins s σ H Q I hq;refine wpAny_Tuple_spliced (thn (h pos pins s σ H _ I hq) fun us s1 ⟨xs,H1,I1,r,z,q⟩=>⟨by rw[<- r.length];exact z,?_⟩)
 have hf:H1 s1.heap.objs.size=none:=I1.hok.fresh (w0e _);refine⟨.ref s1.heap.objs.size,upd H1 s1.heap.objs.size (.tup xs),I1.laid (t':=s1.toks) (fun b u e=>Heap.get?_push_of_some _ e) (w0e _) ?_,rfl,q _ hf⟩
 exact⟨z,us,r,⟨_,Heap.get?_push_size _ rfl,rfl,_,rfl⟩,⟨_,Heap.get?_push_size _ rfl,rfl⟩⟩
theorem x8q(h:PA X es t):PE X (.List es pos) (tLst t):=by
 intro pins s σ H Q I hq;refine wpAny_List_spliced (thn (h pos pins s σ H _ I hq) fun us s1 ⟨xs,H1,I1,r,z,q⟩=>⟨by rw[<- r.length];exact z,?_⟩)
 have hf:H1 s1.heap.objs.size=none:=I1.hok.fresh (w0e _);refine⟨.ref s1.heap.objs.size,upd H1 s1.heap.objs.size (.lst xs),I1.laid (t':=s1.toks) (fun b u e=>Heap.get?_push_of_some _ e) (w0e _) ?_,rfl,q _ hf⟩
 exact⟨z,us,0,r,Heap.get?_push_size _ rfl⟩
end
abbrev Sp:=List V->Hp->VK->XK->Prop
variable{sp:Sp}
abbrev CXT:=List Env->Hp->Shared->XK->Value->Shared->Prop
variable{CX:CXT}
structure Env0(P:Program)(w:World)(K:PySem.W.Frag)(mg:Str->Option Value)(base:Heap)(A:Around)(outer:List Env)(s:Shared)(H:Hp):Prop where
 frames:A.frames=some outer
 mod:Mod K mg base
 bs:∀b o,base.get? b=some o->s.heap.get? b=some o/\H b=none
 bsz:base.objs.size<=s.heap.objs.size
 funs:s.heap.FunFrames base outer
 frf:∀b∈frs outer,H b=none
 hok:HOk P w H s.heap
 bare:AllBare s.gens
 tab:TabOk K H
def CE(outer:List Env)(P:Program)(w:World)(H:Hp)(s:Shared)(Q:VK)(u:Value)(s':Shared):Prop:=
 ∃v H',s'.os=s.os/\AllBare s'.gens/\Un (frs outer) [] H H' s.heap s'.heap/\HOk P w H' s'.heap/\RelV v u/\Q v H'
def CR(CX:CXT)(outer:List Env)(P:Program)(w:World)(H:Hp)(s:Shared)(Q:VK)(E:XK)(r:Result)(s':Shared):Prop:=
 match r with
 |.ok (.ret u)=>CE outer P w H s Q u s'
 |.ok _=>False
 |.error e=>CX outer H s E e s'
structure FnOk(P:Program)(w:World)(K:PySem.W.Frag)(mg:Str->Option Value)(base:Heap)(CX:CXT)(k:Nat)(f:Addr)(fd:FuncData)(ps:List Str)(sp:Sp):Prop where
 len:∀vs H Q E,sp vs H Q E->vs.length=ps.length
 run:∀(A:Around)(outer:List Env)(s:Shared)(H:Hp)(args:Args)(us:List Value)(vs:List V)(Q:VK)(E:XK),Room k A->Env0 P w K mg base A outer s H->BindsTo s fd args (ps.zip us)->Vals vs us->sp vs H Q E ->
  codeAny (model P w) A (.call (.ref f) args) (CR CX outer P w H s Q E) s
theorem FnOk.imp{k:Nat}{f:Addr}{sp':Sp}(F:FnOk P w K mg base CX k f fd ps sp)
  (h:∀vs H Q E,sp' vs H Q E->sp vs H Q E):FnOk P w K mg base CX k f fd ps sp':=
 ⟨fun vs H Q E q=>F.len vs H Q E (h _ _ _ _ q),fun A outer s H args us vs Q E hr he hb hv hs=>F.run A outer s H args us vs Q E hr he hb hv (h _ _ _ _ hs)⟩
section
variable{s':Shared}
theorem Inv.env0(I:Inv X pins σ H s):Env0 X.prog X.w X.K X.mg X.base X.A X.stack s H:=
 ⟨I.ok.frames,I.ok.mod,I.bs,w1e I.ok.bsz I.sz,I.stack,I.stkFree,I.hok,I.bare,I.ok.tab.un I.base⟩
theorem Inv.after{Q:VK}(I:Inv X pins σ H s)(h:CE X.stack X.prog X.w H s Q u s'):EP X pins σ Q u s':=by
 obtain⟨v,H',os,bare,un,hok,r,q⟩:=h;obtain⟨hh,g,d,t,os'⟩:=s';obtain rfl:os'=s.os:=os;exact⟨v,H',I.call (h':=hh) (g':=g) (d':=d) (t':=t) (ch:=[]) un hok bare (fun b z=>absurd z (by simp)),r,q⟩
end
def tCall(sp:Sp)(dvs:List V)(E:XK)(t:TA):TE:=fun σ H Q=>t σ H fun vs H1=>sp (vs++dvs) H1 Q E
def Binds(K:PySem.W.Frag)(fd:FuncData)(ps:List Str)(ds:List Value):Prop:=
 ∀(s:Shared)(us:List Value),K.In s.heap->(us++ds).length=ps.length->BindsTo s fd ⟨us,[]⟩ (ps.zip (us++ds))
theorem Binds.all(h:∀us:List Value,us.length=ps.length->bindArgs fd ⟨us,[]⟩=pure (ps.zip us)):Binds K fd ps []:=fun s us _ hl=>by
 rw[w1n]at hl |-
 exact .of_eq (h us hl)
section
variable{k:Nat}{f C:Addr}{dvs:List V}{ds:List Value}{E:XK}{m:Str}{apos:Pos}{o:Expr}{t:TA}
structure Mk(K:PySem.W.Frag)(C f:Addr):Prop where
 makes:PySem.W.makesIn K C=true
 init:findIn K (.ref C) "__init__"=some (some (.ref f))
 fn:PySem.W.isFn K (.ref f)=true
 kp:keepIn K (.ref C)=true
end
section
variable{k:Nat}{f C:Addr}{ks:List Str}{E:XK}{m:Str}{apos kpos:Pos}{o:Expr}{kws:List Keyword}{t tk:TA}{nm:Option Str}
structure KBinds(K:PySem.W.Frag)(fd:FuncData)(ps ks:List Str)(g:List Value->List Value->List Value)(gV:List V->List V->List V):Prop where
 to:∀(s:Shared)(us ws:List Value),K.In s.heap->(g us ws).length=ps.length->BindsTo s fd ⟨us,ks.zip ws⟩ (ps.zip (g us ws))
 rel:∀{vs:List V}{us:List Value}{zs:List V}{ws:List Value},Vals vs us->Vals zs ws->Vals (gV vs zs) (g us ws)
variable{g:List Value->List Value->List Value}{gV:List V->List V->List V}
end
structure FnScope(N P:List Str)(sc:Scope):Prop where
 kind:sc.kind=.function
 co:sc.isCoroutine=false
 gen:sc.isGenerator=false
 nd:N.Nodup
 pre:N.take P.length=P
 par:∀x∈P,sc.names.lookup x=some .local\/sc.names.lookup x=some .cell
 nofree:∀y∈sc.names,y.2≠.free
theorem x14{kindOf:Str->Option NameKind}:∀{binds:List (Str×Value)}{m:Str->Option Value},(∀v,(x,v)∉binds)->bindL kindOf binds m x=m x
 |[],_,_=>rfl
 |(n,v)::r,m,h=>by
  unfold bindL;rw[x14 fun w hw=>h w (w1b _ hw)]
  split
  ·have:x≠n:=by rintro rfl;exact h v w1m
   simp[this]
  ·rfl
theorem x15{kindOf:Str->Option NameKind}:∀{binds:List (Str×Value)}{m:Str->Option Value},(∀v,(x,v)∉binds)->bindC kindOf binds m x=m x
 |[],_,_=>rfl
 |(n,v)::r,m,h=>by
  unfold bindC;rw[x15 fun w hw=>h w (w1b _ hw)]
  split
  ·rfl
  ·have:x≠n:=by rintro rfl;exact h v w1m
   simp[this]
theorem x16{kindOf:Str->Option NameKind}{x:Str}{v:Value}:∀{P:List Str}{vs:List Value}{i:Nat}{m:Str->Option Value},P.Nodup->P[i]?=some x->vs[i]?=some v->kindOf x=some .local ->
  bindL kindOf (P.zip vs) m x=some v
 |[],_,_,_,_,h,_,_=>by simp at h
 |_::_,[],_,_,_,_,h,_=>by simp at h
 |p::P,w::vs,0,m,nd,h1,h2,hk=>by
  simp at h1 h2;subst h1;subst h2;show bindL kindOf ((p,w)::P.zip vs) m p=_;unfold bindL;rw[x14 fun v hv=>(w2h.mp nd).1 (w2s hv).1,if_pos hk]
  simp
 |p::P,w::vs,i+1,m,nd,h1,h2,hk=>by
  show bindL kindOf ((p,w)::P.zip vs) m x=_;unfold bindL;exact x16 (i:=i) (w2h.mp nd).2 (by simpa using h1) (by simpa using h2) hk
theorem x17{kindOf:Str->Option NameKind}{x:Str}{v:Value}:∀{P:List Str}{vs:List Value}{i:Nat}{m:Str->Option Value},P.Nodup->P[i]?=some x->vs[i]?=some v->kindOf x≠some .local ->
  bindC kindOf (P.zip vs) m x=some v
 |[],_,_,_,_,h,_,_=>by simp at h
 |_::_,[],_,_,_,_,h,_=>by simp at h
 |p::P,w::vs,0,m,nd,h1,h2,hk=>by
  simp at h1 h2;subst h1;subst h2;show bindC kindOf ((p,w)::P.zip vs) m p=_;unfold bindC;rw[x15 fun v hv=>(w2h.mp nd).1 (w2s hv).1,if_neg hk]
  simp
 |p::P,w::vs,i+1,m,nd,h1,h2,hk=>by
  show bindC kindOf ((p,w)::P.zip vs) m x=_;unfold bindC;exact x17 (i:=i) (w2h.mp nd).2 (by simpa using h1) (by simpa using h2) hk
noncomputable def start(N:List Str)(vs:List V):St:=vs.map some++List.replicate (N.length-vs.length) none
noncomputable def cxOf(CX:CXT)(P:Program)(w:World)(K:PySem.W.Frag)(mg:Str->Option Value)(base:Heap)(N:List Str)(qual:Str)(scope:Scope)(f:Addr)(cd:Value)(A:Around)(outer:List Env)(s:Shared)(H:Hp)(E:XK):Cx where
 prog:=P
 w:=w
 K:=K
 mg:=mg
 base:=base
 A:=A.deeper (envOfC qual scope s.heap.objs.size f cd)
 N:=N
 s₀:=s
 H₀:=H
 env:=envOfC qual scope s.heap.objs.size f cd
 outer:=outer
 stack:=envOfC qual scope s.heap.objs.size f cd::outer
 ex:=[]
 calm:=true
 fn:=fun _=>true
 pn:=[]
 xe:=fun e s'=>wpAny (model P w) (A.deeper (envOfC qual scope s.heap.objs.size f cd)) (leaving (envOfC qual scope s.heap.objs.size f cd) e) (fun _ s''=>CX outer H s E e s'') (fun e' s''=>CX outer H s E e' s'') s'
theorem x3p{sc:Scope}{n:Nat}(h:sc.names.lookup x=some .cell):∃c,(cellsFrom n sc.names []).lookup x=some c:=by
 have q:=cellsFrom_some sc.names n [] (.inl h);exact w3n.mp q
theorem x18{qual:Str}{scope:Scope}{f:Addr}{cd:Value}{outer:List Env}{s1:Shared}{E:XK}{vs:List V}
  (S:FnScope N ps scope)(hd:A.handled=none)(e0:Env0 P w K mg base A outer s H)(hl:vs.length=ps.length)(r:Vals vs us)
  (x:InCallC s s.heap.objs.size (bindL (envOfC qual scope s.heap.objs.size f cd).kindOf (ps.zip us) fun _=>none) (cellsFrom (s.heap.objs.size+1) scope.names []) (bindC (envOfC qual scope s.heap.objs.size f cd).kindOf (ps.zip us) fun _=>none) s1):
  Inv (cxOf CX P w K mg base N qual scope f cd A outer s H E) [] (start N vs) H s1:=by
 have hpl:ps.length<=N.length:=by have:=congrArg List.length S.pre;rw[w1y]at this;omega
 obtain⟨h1,tk,rfl,hk⟩:=x.done;have noA:∀b:Addr,b∉(cxOf CX P w K mg base N qual scope f cd A outer s H E).ex:=fun b z=>absurd (show b∈([]:List Addr)from z) (by simp)
 refine⟨⟨e0.mod,S.kind,rfl,rfl,w0e _,fun y z c h1 h2=>?_,fun y hy=>?_,fun y c _ h=>?_,fun _=>hd,Around.frames_deeper e0.frames,.inr ⟨rfl,rfl⟩,fun b z=>absurd z (noA b),e0.bs,e0.bsz,fun b _ _=>noA b,fun b z=>absurd z (noA b),e0.funs,e0.frf,e0.tab⟩,
  rfl,e0.bare,Un.kept hk,⟨_,x.toInCall.ns,fun i y v h1 h2 h3=>?_⟩,fun y c h=>⟨_,x.cell y c h⟩,e0.hok.fresh (w0e _),fun y c h=>?_,fun p hp=>absurd (show p∈([]:List (Addr×Obj))from hp) (by simp),e0.hok.kept hk,?_⟩
 ·exact name_of_addr x.apart (PySem.mem_of_lookup h1) (PySem.mem_of_lookup h2)
 ·have hy:scope.names.lookup y=some .cell\/scope.names.lookup y=some .free:=hy;rcases hy with hy|hy
  ·exact x3p hy
  ·exact absurd rfl (S.nofree _ (PySem.mem_of_lookup hy))
 ·exact w3u (x.above y c (PySem.mem_of_lookup h))
 ·have hi:i<vs.length:=by
   unfold start at h2
   by_cases hi:i<vs.length
   ·exact hi
   ·rw[w1a (by simpa using hi)]at h2;rw[w2a]at h2;split at h2<;>cases h2
  have ha:vs[i]?=some v:=by
   unfold start at h2;rw[w0w (by simpa using hi),w0h]at h2;cases e:vs[i]? with
   |none=>rw[e]at h2;cases h2
   |some a=>rw[e]at h2;cases h2;rfl
  obtain⟨u,hu,rv⟩:=r.get ha
  have hp:ps[i]?=some y:=by
   rw[<- S.pre,List.getElem?_take_of_lt (by omega)];exact h1
  have ndP:ps.Nodup:=by rw[<- S.pre];exact S.nd.sublist (List.take_sublist _ _)
  refine⟨u,rv,?_⟩;rcases S.par y (w0u hp)with k|k
  ·exact .inl ⟨k,x16 ndP hp hu k⟩
  ·obtain⟨c,e⟩:=x3p (n:=s.heap.objs.size+1) k;refine .inr ⟨.inl k,c,e,?_⟩;have q:=x.cell y c e;rw[x17 ndP hp hu (by show scope.names.lookup y≠_;rw[k];decide)]at q;exact q
 ·exact e0.hok.fresh (w3u (x.above y c (PySem.mem_of_lookup h)))
 ·unfold start;show _=N.length;rw[w0g,w0c,w2k];omega
theorem y35{k:Nat}{f:Addr}{name qual:Str}{params:Arguments}{body:List Stmt}{scope:Scope}{dV kV doc pm cdv ct oc:Value}{an od:Option Addr}
  {osl:Array (Option Value)}(lk:K.lookup f=some ⟨oc,od,.func (PySem.W.fnOf name qual params body scope dV kV doc pm an cdv ct),osl⟩)(hcd:PySem.W.codeIn K cdv qual=true)(S:FnScope N ps scope)
  (len:∀vs H Q E,sp vs H Q E->vs.length=ps.length)
  (hbody:∀(A:Around)(outer:List Env)(s:Shared)(H:Hp)(vs:List V)(Q:VK)(E:XK),Room k (A.deeper (envOfC qual scope s.heap.objs.size f cdv))->sp vs H Q E ->
   ∃t,PSs (cxOf CX P w K mg base N qual scope f cdv A outer s H E) body t/\t {nx:=fun _ H'=>Q .non H',rt:=Q} (start N vs) H):
  FnOk P w K mg base CX (k+1) f (PySem.W.fnOf name qual params body scope dV kV doc pm an cdv ct) ps sp:=by
 refine⟨len,fun A outer s H args us vs Q E hr e0 hb r hsp=>?_⟩
 have hl:=len _ _ _ _ hsp;have KX:K.In s.heap:=e0.mod.kin.keeps fun b o e=>(e0.bs b o e).1
 have lim:s.heap.NoLimit:=e0.mod.nolimit.keeps fun b o e=>(e0.bs b o e).1
 have hkind:∀y∈ps.zip us,scope.names.lookup y.1=some .local\/(scope.names.lookup y.1=some .cell/\((cellsFrom (s.heap.objs.size+1) scope.names []).lookup y.1).isSome=true):=fun⟨n,v⟩ hy=>by
  rcases S.par n (w2s hy).1 with q|q
  ·exact .inl q
  ·exact .inr ⟨q,cellsFrom_some _ _ _ (.inl q)⟩
 refine codeAny_call_function hr.depth (KX _ _ lk) rfl S.co S.gen rfl (PySem.W.codeRec_of KX hcd) (hb _ _ _ _ ?_)
 refine wpAny_newFunctionEnv_cells S.kind hkind fun env he s1 x=>?_
 subst he;refine⟨lim.keeps x.toInCall.keep,codeAny_func ?_⟩
 obtain⟨t,ht,hq⟩:=hbody A outer s H vs Q E (hr.deeper _) hsp;have I:Inv (cxOf CX P w K mg base N qual scope f cdv A outer s H E) [] (start N vs) H s1:=x18 S hr.hd e0 hl r x;refine wpAny_mono (ht [] s1 (start N vs) H _ I hq) (fun fl s' hs=>?_) fun e s' hs=>hs
 have fin:∀{σ':St}{H':Hp}{v:V}{u:Value},Inv (cxOf CX P w K mg base N qual scope f cdv A outer s H E) [] σ' H' s'->RelV v u->Q v H'->CE outer P w H s Q u s':=
  fun {σ' H' v u} J rv q=>⟨v,H',J.os,J.bare,J.base,J.hok,rv,q⟩
 cases fl with
 |ret u=>
  obtain⟨v,σ',H',J,rv,q⟩:=hs;exact fin J rv q
 |next=>
  obtain⟨σ',H',J,q⟩:=hs;exact fin (v:=V.non) (u:=Value.none) J rfl q
 |brk=>
  obtain⟨_,_,_,q⟩:=hs;exact False.elim q
 |cont=>
  obtain⟨_,_,_,q⟩:=hs;exact False.elim q
section
variable{t:TA}{id T:String}{r:List V->Hp->VK->Prop}
def tCB(r:List V->Hp->VK->Prop)(t:TA):TE:=fun σ H Q=>t σ H fun vs H1=>r vs H1 Q
theorem q7l(hc:CallR X (.builtin id) r)(hg:Gl X x)(hm:X.mg x=none)(hv:bootBuiltins x=some (.builtin id))(ha:PA X (e::es) t)(hn:x≠"__name__":=by decide)(hdb:(x==("__debug__":Str))=false:=by decide)
  (he:starEach (e::es) X.env=(false,eval e X.env)::starEach es X.env:=by rfl)(hpl:(backTo pos (starEach es X.env)).any (·.1)=false:=by rfl):PE X (.Call (.Name x p) (e::es) [] pos) (tCB r t):=by
 intro pins s σ H Q I h;refine wpAny_Call_Name_kw (q67 I hg hm hv ?_ hn hdb);exact PyProof.Rows.callWith_builtin1 (thn (ha pos pins s σ H _ I h) fun us s1 ⟨vs,H1,I1,r1,q1⟩=>hc pins s1 σ H1 vs us Q I1 r1 q1) he hpl
theorem x19(hc:CallR X (.type T) r)(hg:Gl X x)(hm:X.mg x=none)(hv:bootBuiltins x=some (.type T))(ha:PA X (e::es) t)(hn:x≠"__name__":=by decide)(hdb:(x==("__debug__":Str))=false:=by decide)
  (he:starEach (e::es) X.env=(false,eval e X.env)::starEach es X.env:=by rfl)(hpl:(backTo pos (starEach es X.env)).any (·.1)=false:=by rfl):PE X (.Call (.Name x p) (e::es) [] pos) (tCB r t):=by
 intro pins s σ H Q I h;refine wpAny_Call_Name_kw (q67 I hg hm hv ?_ hn hdb);exact PyProof.Rows.callWith_type1 (thn (ha pos pins s σ H _ I h) fun us s1 ⟨vs,H1,I1,r1,q1⟩=>hc pins s1 σ H1 vs us Q I1 r1 q1) he hpl
end
end L2
namespace HT
open PySem PyProof.Rows
section
variable{prog:Program}{w:World}{A:Around}{E:Value->Shared->Prop}{s:Shared}
theorem cat_tup{t b:Addr}{vs ws:List Value}{Q:Value->Shared->Prop}(ht:IsTup s.heap t vs.toArray)(hb:IsTup s.heap b ws.toArray)(hv:vs≠[])
  (h1:ws=[]->Q (.ref t) s)(h2:ws≠[]->Q (.ref s.heap.objs.size) {s with heap:=s.heap.push {cls:=.type "tuple", data:=.seq (vs++ws).toArray}})
  (hsz:vs.length+ws.length<=sizeLine):wpAny (model prog w) A (binaryOp .Add (.ref t) (.ref b)) Q E s:=by
 obtain⟨⟨cls,dd,data,sl⟩,ho,hc,n,hd⟩:=id ht;obtain⟨⟨cls2,dd2,data2,sl2⟩,ho2,hc2,n2,hd2⟩:=id hb;simp only at hc hd hc2 hd2;subst hc hd hc2 hd2;have e:vs.toArray++ws.toArray=(vs++ws).toArray:=by simp
 by_cases hw:ws=[]
 ·exact concat_meets ⟨_,ho,rfl⟩ ⟨_,ho2,rfl⟩ noFill_tuple_add seq_tuple_add PySem.F.slot_tuple_add PySem.F.entry_tuple_add (PySem.F.args_tuple_add_2 _ _)
   (tuple_addW1 t b vs.toArray ws.toArray n n2 dd dd2 sl sl2 (by simpa using hv) (by simp[hw])) ⟨ho,ho2,h1 hw⟩
 ·refine concat_meets ⟨_,ho,rfl⟩ ⟨_,ho2,rfl⟩ noFill_tuple_add seq_tuple_add PySem.F.slot_tuple_add PySem.F.entry_tuple_add (PySem.F.args_tuple_add_2 _ _)
   (tuple_addW2 t b vs.toArray ws.toArray n n2 dd dd2 sl sl2 (by simpa using hv) (by simpa using hw) (by rw[w0d,w0d];exact hsz)) ⟨ho,ho2,?_⟩
  rw[e];exact h2 hw
noncomputable def sIx(n d:Nat):Option Int->Nat
 |none=>d
 |some v=>if v<0 then(v+(n:Int)).toNat else min v.toNat n
theorem sIx_none(n d:Nat):sIx n d none=d:=rfl
theorem sIx_nat(n d k:Nat):sIx n d (some (k:Int))=min k n:=by
 show(if(k:Int)<0 then((k:Int)+(n:Int)).toNat else min (k:Int).toNat n)=min k n;rw[if_neg (by omega),w2o]
theorem y8u(n d:Nat)(hd:d<=n)(o:Option Int):sIx n d o<=n:=by
 cases o with
 |none=>exact hd
 |some v=>
  show(if v<0 then(v+(n:Int)).toNat else min v.toNat n)<=n
  by_cases hv:v<0
  ·rw[if_pos hv];omega
  ·rw[if_neg hv];exact w3c _ _
theorem x50(v:Int)(n d:Nat):(if v<0 then max (v+(n:Int)) 0 else min v (n:Int))=((sIx n d (some v):Nat):Int):=by
 show(if v<0 then max (v+(n:Int)) 0 else min v (n:Int))=(((if v<0 then(v+(n:Int)).toNat else min v.toNat n):Nat):Int)
 by_cases hv:v<0
 ·simp only[if_pos hv];omega
 ·simp only[if_neg hv];omega
theorem x7d(lo hi:Option Int)(n:Nat):Builtin.Slice.sliceAdjust lo hi 1 (n:Int)=(((sIx n 0 lo:Nat):Int),((sIx n n hi:Nat):Int)):=by
 have h1:¬((1:Int)<0):=by omega
 unfold Builtin.Slice.sliceAdjust;simp only[h1,if_false];refine Prod.ext ?_ ?_
 ·cases lo with
  |none=>rfl
  |some v=>exact x50 v n 0
 ·cases hi with
  |none=>rfl
  |some v=>exact x50 v n n
theorem x7e(i j:Nat):Builtin.Slice.slicePlaces (i:Int) (j:Int) 1=j-i:=by
 unfold Builtin.Slice.slicePlaces;have h1:(1:Int)>0:=by omega
 simp only[h1,if_true,Int.ediv_one];split<;>omega
theorem x0e{v:Value}{o:Option Int}{Q:Option Int->Shared->Prop}(p:IsPart v o)(h:Q o s):wpAny (model prog w) A (Builtin.Slice.slicePartIndex v) Q E s:=by
 cases p with
 |none=>exact slicePart_none h
 |int i t=>exact slicePart_int h
theorem q9n{sl:Addr}{vl vu:Value}{lo hi:Option Int}{n:Nat}{Q:Int×Int×Nat->Shared->Prop}(hs:s.heap.IsSliceOf sl vl vu .none)(pl:IsPart vl lo)(pu:IsPart vu hi)
  (h:Q (((sIx n 0 lo:Nat):Int),1,sIx n n hi-sIx n 0 lo) s):wpAny (model prog w) A (Builtin.Slice.sliceApplied (.ref sl) (pure (n:Int))) Q E s:=by
 obtain⟨os,hos,hcs,hds⟩:=id hs;unfold Builtin.Slice.sliceApplied Builtin.Slice.sliceFields;refine wpAny_bind (wpAny_bind (wpAny_field hos hds (x:=vl) rfl (wpAny_bind (wpAny_field hos hds (x:=vu) rfl (wpAny_bind (wpAny_field hos hds (x:=.none) rfl (wpAny_pure ?_)))))));refine wpAny_bind (slicePart_none ?_);show wpAny _ _ (if((1:Int)==0)=true then _ else _) _ _ s;rw[if_neg (by decide)];refine wpAny_bind (x0e pl (wpAny_bind (x0e pu (wpAny_bind (wpAny_pure ?_)))));show wpAny _ _ (match Builtin.Slice.sliceAdjust lo hi 1 (n:Int)with|(lo,hi)=>pure (lo,(1:Int),Builtin.Slice.slicePlaces lo hi 1)) _ _ s;rw[x7d lo hi n];show wpAny _ _ (pure (((sIx n 0 lo:Nat):Int),(1:Int),Builtin.Slice.slicePlaces ((sIx n 0 lo:Nat):Int) ((sIx n n hi:Nat):Int) 1)) _ _ s;rw[x7e];exact wpAny_pure h
theorem y1l(xs:Array Value)(i k:Nat):((List.range k).filterMap fun(m:Nat)=>xs[((i:Int)+(m:Int)*1).toNat]?).toArray=((xs.toList.drop i).take k).toArray:=by
 have e:(fun(m:Nat)=>xs[((i:Int)+(m:Int)*1).toNat]?)=fun m=>xs[i+m]?:=by
  funext m
  have:((i:Int)+(m:Int)*1).toNat=i+m:=by omega
  rw[this]
 rw[e];have:=pick_run xs i k;rw[List.filterMap_map]at this;have e2:((fun x=>xs[x]?) ∘ fun x=>i+x)=fun m=>xs[i+m]?:=rfl
 rw[e2]at this;rw[this]
theorem getItem_tuple_cut{t sl:Addr}{items:Array Value}{vl vu:Value}{lo hi:Option Int}{Q:Value->Shared->Prop}(ht:IsTup s.heap t items)(hs:s.heap.IsSliceOf sl vl vu .none)(pl:IsPart vl lo)(pu:IsPart vu hi)
  (hw:¬(sIx items.size 0 lo=0/\sIx items.size items.size hi=items.size))
  (h:Q (.ref s.heap.objs.size) {s with heap:=s.heap.push {cls:=.type "tuple", data:=.seq ((items.toList.drop (sIx items.size 0 lo)).take (sIx items.size items.size hi-sIx items.size 0 lo)).toArray}})
  (hsz:items.size<=sizeLine):wpAny (model prog w) A (getItem (.ref t) (.ref sl)) Q E s:=by
 have htake:sizeOk (.seq ((items.toList.drop (sIx items.size 0 lo)).take (sIx items.size items.size hi-sIx items.size 0 lo)).toArray):=by
  show((items.toList.drop (sIx items.size 0 lo)).take (sIx items.size items.size hi-sIx items.size 0 lo)).toArray.size<=sizeLine;rw[w0d,w1y,w2r,w3g];exact w1e (w3c _ _) (w1e (Nat.sub_le _ _) hsz)
 have hj:sIx items.size items.size hi<=items.size:=y8u _ _ (w0e _) hi;obtain⟨os,hos,hcs,hds⟩:=id hs;have hTs:s.TypeIs (.ref sl) "slice":=⟨os,hos,hcs⟩;unfold getItem;try with_reducible refine wpAny_holding ?_
 first|refine wpAny_bind (wpAny_pure ?_)|skip
 refine wpAny_bind (wpAny_sequenceKey ht.typeIs (by decide) ?_)
 refine wpAny_bind (wpAny_callSpecial?_slot (name:=Str.ofString "__getitem__") ht.typeIs PyProof.Rows.slot_tuple_getitem
  (wpAny_call_entry PyProof.Rows.slot_tuple_getitem ht.typeIs entry_tuple_getitem ?_ (args_tuple_getitem _ _)))
 show wpAny _ _ (Builtin.Tuple.tupleItemsOf (.ref t) >>= _) _ _ s;refine wpAny_bind (tupleItemsOf_ ht ?_);refine wpAny_bind (wpAny_typeOf hTs ?_);rw[if_pos (by decide)];refine wpAny_bind (q9n hs pl pu ?_)
 have hno:¬((((sIx items.size 0 lo:Nat):Int)==0&&(1:Int)==1&&(sIx items.size items.size hi-sIx items.size 0 lo)==items.size)=true):=by
  intro q;rw[w0s,w0s]at q;have q1:((sIx items.size 0 lo:Nat):Int)=0:=eq_of_beq q.1.1;have q2:sIx items.size items.size hi-sIx items.size 0 lo=items.size:=eq_of_beq q.2;exact hw ⟨by omega,by omega⟩
 show wpAny _ _ (if(((sIx items.size 0 lo:Nat):Int)==0&&(1:Int)==1&&(sIx items.size items.size hi-sIx items.size 0 lo)==items.size)=true then _ else _) _ _ s;rw[if_neg hno,y1l]
 first
  |exact wpAny_bind (m:=Builtin.Tuple.tupleExact _) (wpAny_newObj_type (wpAny_pure ⟨_,rfl,wpAny_pure h⟩) htake)
  |exact wpAny_bind (m:=Builtin.Tuple.tupleExact _) (wpAny_newObj_type (wpAny_bind (wpAny_pure (wpAny_pure ⟨_,rfl,wpAny_pure h⟩))) htake)
  |exact wpAny_bind (wpAny_bind (m:=Builtin.Tuple.tupleExact _) (wpAny_newObj_type (wpAny_pure (wpAny_pure ⟨_,rfl,wpAny_pure h⟩)) htake))
  |exact wpAny_bind (wpAny_bind (m:=Builtin.Tuple.tupleExact _) (wpAny_newObj_type (wpAny_pure ⟨_,rfl,wpAny_pure h⟩) htake))
end
end HT
namespace L2
open PySem PySem.Spec PyProof.Rows
variable{A:Around}{X:Cx}{H:Hp}{pins:List (Addr×Obj)}{xs:List V}{its us:List Value}{n:Nat}{s:Shared}{σ:St}{α:Type}{x:V}{v:Value}
abbrev TO:=St->Hp->(Option Int->Hp->Prop)->Prop
def PO(X:Cx)(e:Option Expr)(t:TO):Prop:=
 ∀(pins:List (Addr×Obj))(s:Shared)(σ:St)(H:Hp)(Q:Option Int->Hp->Prop),Inv X pins σ H s->t σ H Q ->
  wpAny (model X.prog X.w) X.A (evalPart e X.env) (fun u s'=>∃o H',Inv X pins σ H' s'/\IsPart u o/\Q o H') X.xe s
def tNoPart:TO:=fun _ H Q=>Q none H
def tPart(t:TE):TO:=fun σ H Q=>t σ H fun x H1=>∃i,x=.int i/\Q (some i) H1
section
variable{e:Expr}{te:TE}{lo hi:Option Expr}{tl th:TO}{pos p2:Pos}
theorem y4t:PO X none tNoPart:=by
 intro pins s σ H Q I h;rw[evalPart_none];exact wpAny_pure ⟨none,H,I,.none,h⟩
theorem y4u(h:PE X e te):PO X (some e) (tPart te):=by
 intro pins s σ H Q I hw;rw[evalPart_some];refine thn (h pins s σ H _ I hw) fun u s1 ⟨x,H1,I1,r1,q1⟩=>?_
 obtain⟨i,rfl,q⟩:=q1;obtain⟨t,rfl⟩:=r1;exact⟨some i,H1,I1,.int i t,q⟩
def SlR(X:Cx)(r:V->Option Int->Option Int->Hp->VK->Prop):Prop:=
 ∀(pins:List (Addr×Obj))(s:Shared)(σ:St)(H:Hp)(x:V)(v vl vu:Value)(lo hi:Option Int)(sl:Addr)(Q:VK),Inv X pins σ H s->RelV x v->s.heap.IsSliceOf sl vl vu .none->IsPart vl lo->IsPart vu hi->r x lo hi H Q ->
  ∃T id,typeLookup (.type T) "__getitem__"=pure (some (.builtin id))/\s.TypeIs v T/\wpAny (model X.prog X.w) X.A (getItem v (.ref sl)) (EP X pins σ Q) X.xe s
theorem SlR.or{r r':V->Option Int->Option Int->Hp->VK->Prop}(h:SlR X r)(h':SlR X r'):SlR X (fun x lo hi H Q=>r x lo hi H Q\/r' x lo hi H Q):=by
 intro pins s σ H x v vl vu lo hi sl Q I rx hs pl pu q;rcases q with q|q
 ·exact h pins s σ H x v vl vu lo hi sl Q I rx hs pl pu q
 ·exact h' pins s σ H x v vl vu lo hi sl Q I rx hs pl pu q
def tSl(r:V->Option Int->Option Int->Hp->VK->Prop)(te:TE)(tl th:TO):TE:=fun σ H Q=>te σ H fun x H1=>tl σ H1 fun l H2=>th σ H2 fun u H3=>r x l u H3 Q
theorem y1m{r:V->Option Int->Option Int->Hp->VK->Prop}(hr:SlR X r)(he:PE X e te)(hl:PO X lo tl)(hu:PO X hi th):PE X (.Subscript e (.Slice lo hi none p2) pos) (tSl r te tl th):=by
 intro pins s σ H Q I h;refine Subscript_ (thn (he pins s σ H _ I h) fun v s1 ⟨x,H1,I1,r1,q1⟩=>?_)
 refine wpAny_Slice (thn (hl pins s1 σ H1 _ I1 q1) fun vl s2 ⟨l,H2,I2,pl,q2⟩=>thn (hu pins s2 σ H2 _ I2 q2) fun vu s3 ⟨u,H3,I3,pu,q3⟩=>?_)
 rw[evalPart_none];refine wpAny_pure ?_;have I4:Inv X pins σ H3 {s3 with heap:=s3.heap.push {cls:=.type "slice", data:=.fields #[vl,vu,.none]}}:=I3.kept (t':=s3.toks) fun b ob q=>Heap.get?_push_of_some _ q
 obtain⟨T,id,hT,ht,hg⟩:=hr pins {s3 with heap:=s3.heap.push {cls:=.type "slice", data:=.fields #[vl,vu,.none]}} σ H3 x v vl vu l u s3.heap.objs.size Q I4 r1 (Heap.IsSliceOf.new ..) pl pu q3;show wpAny (model X.prog X.w) X.A (subscriptTail e (.Slice lo hi none p2) v (.ref s3.heap.objs.size)) (EP X pins σ Q) X.xe {s3 with heap:=s3.heap.push {cls:=.type "slice", data:=.fields #[vl,vu,.none]}};exact tail_any (ops:=[.ref s3.heap.objs.size,v]) ht hT hg (by with_unfolding_all rfl)
noncomputable def cutV(xs:List V)(lo hi:Option Int):List V:=(xs.drop (HT.sIx xs.length 0 lo)).take (HT.sIx xs.length xs.length hi-HT.sIx xs.length 0 lo)
theorem q9e(xs:List V)(lo hi:Option Int):(cutV xs lo hi).length<=xs.length:=by
 unfold cutV;rw[w1y,w2r];exact w1e (w3c _ _) (Nat.sub_le _ _)
def rSlT(K:PySem.W.Frag):V->Option Int->Option Int->Hp->VK->Prop:=fun x lo hi H Q=>∃a xs,x=.ref a/\SqT K H a xs /\
 ¬(HT.sIx xs.length 0 lo=0/\HT.sIx xs.length xs.length hi=xs.length)/\∀p,H p=none->Q (.ref p) (upd H p (.tup (cutV xs lo hi)))
theorem y8v:SlR X (rSlT X.K):=by
 intro pins s σ H x v vl vu lo hi sl Q I rx hs pl pu h;obtain⟨a,xs,rfl,hx,hw,q⟩:=h;cases rx;obtain⟨its,r,ht,hz⟩:=I.tuple hx;have hlen:its.toArray.size=xs.length:=by rw[w0d];exact r.length.symm
 refine⟨"tuple", _,PyProof.Rows.slot_tuple_getitem.lookup,ht.typeIs,?_⟩;refine HT.getItem_tuple_cut ht hs pl pu (by rw[hlen];exact hw) ?_ (by rw[hlen];exact hz);rw[hlen];refine⟨.ref s.heap.objs.size,_,I.laid (t':=s.toks) (o:=.tup (cutV xs lo hi)) (fun b ob q=>Heap.get?_push_of_some _ q) (w0e _) ?_,rfl,q _ (I.hok.fresh (w0e _))⟩
 exact⟨w1e (q9e xs lo hi) hz,_,(r.drop (HT.sIx xs.length 0 lo)).take (HT.sIx xs.length xs.length hi-HT.sIx xs.length 0 lo),IsTup.new _ _,_,Heap.get?_push_size _ rfl,rfl⟩
def rCatT(K:PySem.W.Frag):R2:=fun x y H Q=>∃a b xs ys,x=.ref a/\y=.ref b/\SqT K H a xs/\SqT K H b ys/\xs≠[]/\xs.length+ys.length<=sizeLine /\
 (ys=[]->Q (.ref a) H)/\(ys≠[]->∀p,H p=none->Q (.ref p) (upd H p (.tup (xs++ys))))
theorem Vals.nil_iff(r:Vals xs us):us=[]↔xs=[]:=by
 cases r with
 |nil=>simp
 |cons _ _=>simp
theorem op_catT:OpR X (binaryOp .Add) (rCatT X.K):=by
 intro pins s σ H x y v u Q I rx ry h;obtain⟨a,b,xs,ys,rfl,rfl,ha,hb,hx,hz,q1,q2⟩:=h;cases rx;cases ry;obtain⟨its,r1,p1,_⟩:=I.tuple ha;obtain⟨its2,r2,p2,_⟩:=I.tuple hb;refine HT.cat_tup p1 p2 (fun z=>hx (r1.nil_iff.mp z)) (fun z=>⟨.ref a,H,I,rfl,q1 (r2.nil_iff.mp z)⟩) (fun z=>?_) (by rw[<- r1.length,<- r2.length];exact hz)
 refine⟨.ref s.heap.objs.size,_,I.laid (t':=s.toks) (o:=.tup (xs++ys)) (fun b ob q=>Heap.get?_push_of_some _ q) (w0e _) ?_,rfl,q2 (fun w=>z (r2.nil_iff.mpr w)) _ (I.hok.fresh (w0e _))⟩
 exact⟨by rw[w0g];exact hz,_,r1.append r2,IsTup.new _ _,_,Heap.get?_push_size _ rfl,rfl⟩
end
noncomputable def ixN(n:Nat)(i:Int):Option Nat:=if 0<=i then(if i<n then some i.toNat else none)else if -(n:Int)<=i then some (i+n).toNat else none
noncomputable def atI(xs:List α)(i:Int):Option α:=(ixN xs.length i).bind fun j=>xs[j]?
theorem x51{i:Int}{j:Nat}(h:ixN n i=some j):seqIndex? i n=some j/\j<n/\-(n:Int)<=i/\i<n:=by
 unfold ixN at h
 by_cases h0:0<=i
 ·rw[if_pos h0]at h
  by_cases h1:i<n
  ·rw[if_pos h1]at h;have e:i.toNat=j:=Option.some.inj h;exact⟨by rw[seqIndex_of h0 h1,e],by omega,by omega,h1⟩
  ·rw[if_neg h1]at h;cases h
 ·rw[if_neg h0]at h
  by_cases h1:-(n:Int)<=i
  ·rw[if_pos h1]at h;have e:(i+n).toNat=j:=Option.some.inj h;exact⟨by rw[seqIndex_neg (by omega) h1,e],by omega,h1,by omega⟩
  ·rw[if_neg h1]at h;cases h
theorem x1c{xs:List α}{i:Int}{v:α}(h:atI xs i=some v):∃j,seqIndex? i xs.length=some j/\xs[j]?=some v/\j<xs.length/\-(xs.length:Int)<=i/\i<xs.length:=by
 unfold atI at h;cases e:ixN xs.length i with
 |none=>rw[e]at h;cases h
 |some j=>
  rw[e]at h;obtain⟨h1,h2,h3,h4⟩:=x51 e;exact⟨j,h1,h,h2,h3,h4⟩
theorem q4u{xs:List α}{j:Nat}{v:α}(h:xs[j]?=some v):atI xs (j:Int)=some v:=by
 have hj:j<xs.length:=(w0b.mp h).1
 have e:ixN xs.length (j:Int)=some j:=by
  unfold ixN;rw[if_pos (by omega),if_pos (by omega)];simp
 unfold atI;rw[e];exact h
def PlainIx(b:Expr):Prop:=∀o i,subscripted b false o i=operate [o,i] (getItem o i)
def IxR(X:Cx)(r:R2):Prop:=
 ∀(value slice:Expr)(pins:List (Addr×Obj))(s:Shared)(σ:St)(H:Hp)(x y:V)(v u:Value)(Q:VK),Inv X pins σ H s->RelV x v->RelV y u->r x y H Q ->
  subscripted slice false v u=operate [v,u] (getItem v u)->wpAny (model X.prog X.w) X.A (subscriptTail value slice v u) (EP X pins σ Q) X.xe s
def MtR(X:Cx)(id:String)(r:V->List V->Hp->VK->Prop):Prop:=
 ∀(pins:List (Addr×Obj))(s:Shared)(σ:St)(H:Hp)(x:V)(xs:List V)(v:Value)(us:List Value)(Q:VK),Inv X pins σ H s->RelV x v->Vals xs us->r x xs H Q ->
  wpAny (model X.prog X.w) X.A (call (.builtin id) (v::us)) (EP X pins σ Q) X.xe s
section
variable{a b:Expr}{ta tb:TE}{pos:Pos}
theorem IxR.or{r r':R2}(h:IxR X r)(h':IxR X r'):IxR X (fun x y H Q=>r x y H Q\/r' x y H Q):=by
 intro value slice pins s σ H x y v u Q I rx ry q hs;rcases q with q|q
 ·exact h value slice pins s σ H x y v u Q I rx ry q hs
 ·exact h' value slice pins s σ H x y v u Q I rx ry q hs
theorem pe_ix{r:R2}(hr:IxR X r)(ha:PE X a ta)(hb:PE X b tb)(hs:PlainIx b):PE X (.Subscript a b pos) (tOp r ta tb):=by
 intro pins s σ H Q I h;exact Subscript_ (binT ha hb I h fun v u s2 x y H2 I2 rx ry q=>hr a b pins s2 σ H2 x y v u Q I2 rx ry q (hs _ _))
def rIxL(K:PySem.W.Frag):R2:=fun x y H Q=>∃p xs i v,x=.ref p/\y=.int i/\SqL K H p xs/\atI xs i=some v/\Q v H
def rIxT(K:PySem.W.Frag):R2:=fun x y H Q=>∃p xs i v,x=.ref p/\y=.int i/\SqT K H p xs/\atI xs i=some v/\Q v H
def rIxS:R2:=fun x y H Q=>∃z i c,x=.str z/\y=.int i/\z.length<=sizeLine/\atI z.cps.toList i=some c/\Q (.str ⟨#[c]⟩) H
theorem ix_list:IxR X (rIxL X.K):=by
 intro value slice pins s σ H x y v u Q I rx ry h hs;obtain⟨p,xs,i,z,rfl,rfl,hq,he,q⟩:=h;cases rx;obtain⟨t,rfl⟩:=ry;obtain⟨its,r,pl,hz⟩:=I.list hq;obtain⟨j,h1,h2,h3,h4,h5⟩:=x1c he;obtain⟨w,ew,rw'⟩:=r.get h2;have hl:=r.length;have hn:=line63;have fin:EP X pins σ Q w s:=⟨z,H,I,rw',q⟩
 by_cases h0:0<=i
 ·have hj:i.toNat=j:=by
   rw[seqIndex_of h0 h5]at h1;exact Option.some.inj h1
  exact item_listR pl.isList h0 (by omega) (by rw[hj];simpa using ew) fin hs
 ·have hj:(i+(its.toArray.size:Int)).toNat=j:=by
   rw[seqIndex_neg (by omega) h4]at h1;rw[w0d,<- hl];exact Option.some.inj h1
  exact subscriptTail_builtinR (x:=w) pl.isList.typeIs slot_list_getitem.lookup
   (wpAny_getItem_list_neg (Q:=fun r s'=>r=w/\EP X pins σ Q r s') pl.isList (by omega) (by rw[w0d]<;>omega) (by omega) (by rw[hj];simpa using ew) ⟨rfl,fin⟩) hs
theorem ix_tup:IxR X (rIxT X.K):=by
 intro value slice pins s σ H x y v u Q I rx ry h hs;obtain⟨p,xs,i,z,rfl,rfl,hq,he,q⟩:=h;cases rx;obtain⟨t,rfl⟩:=ry;obtain⟨its,r,pl,hz⟩:=I.tuple hq;obtain⟨j,h1,h2,h3,h4,h5⟩:=x1c he;obtain⟨w,ew,rw'⟩:=r.get h2;have hl:=r.length;have hn:=line63;have fin:EP X pins σ Q w s:=⟨z,H,I,rw',q⟩
 exact subscriptTail_builtinR (x:=w) pl.typeIs slot_tuple_getitem.lookup
  (getItem_tuple (j:=j) (Q:=fun r s'=>r=w/\EP X pins σ Q r s') pl (by omega) (by omega) (by rw[w0d,<- hl];exact h1) (by simpa using ew) ⟨rfl,fin⟩) hs
theorem y8w:IxR X rIxS:=by
 intro value slice pins s σ H x y v u Q I rx ry h hs;obtain⟨z,i,c,rfl,rfl,hz,he,q⟩:=h;obtain⟨t,rfl⟩:=rx;obtain⟨t',rfl⟩:=ry;obtain⟨j,h1,h2,h3,h4,h5⟩:=x1c he;have hl:z.cps.toList.length=z.length:=by simp[Str.length]
 rw[hl]at h1 h4 h5;have hn:=line63
 exact tail_any (typeIs_str s z t) slot_str_getitem.lookup (getItem_str (c:=c) (by
  have e1:decide (i < -(2^63:Int))=false:=decide_eq_false (by omega);have e2:decide (i>=2^63)=false:=decide_eq_false (by omega);rw[e1,e2,Bool.or_false]) (by rw[h1];simpa using h2) ⟨.str ⟨#[c]⟩,H,I.tok _,⟨_,rfl⟩,q⟩) hs
def rIx(K:PySem.W.Frag):R2:=fun x y H Q=>rIxL K x y H Q\/rIxT K x y H Q\/rIxS x y H Q
theorem x8r:IxR X (rIx X.K):=ix_list.or (ix_tup.or y8w)
theorem x7f(its:List Value)(n j:Nat)(u:Value):Obj.mapSeq (·.setIfInBounds j u) {cls:=.type "list", data:=.seq its.toArray n}={cls:=.type "list", data:=.seq (its.set j u).toArray n}:=by
 simp[Obj.mapSeq]
theorem Inv.lst{p:Addr}(I:Inv X pins σ H s)(h:H p=some (.lst xs)):
  ∃(its:List Value)(n:Nat),Vals xs its/\s.heap.get? p=some {cls:=.type "list", data:=.seq its.toArray n}/\xs.length<=sizeLine:=by
 obtain⟨z,its,n,r,e⟩:=I.hok p _ h;exact⟨its,n,r,e,z⟩
theorem Inv.lstUpd{p:Addr}{ys:List V}{its':List Value}{n':Nat}{f:Obj->Obj}(I:Inv X pins σ H s)(h:H p=some (.lst xs))
  (ho:s.heap.get? p=some {cls:=.type "list", data:=.seq its.toArray n})(hf:f {cls:=.type "list", data:=.seq its.toArray n}={cls:=.type "list", data:=.seq its'.toArray n'})(r:Vals ys its')(hz:ys.length<=sizeLine)(t:Nat):
  Inv X pins σ (upd H p (.lst ys)) {s with heap:=s.heap.update p f,toks:=t}:=by
 have e:(s.heap.update p f).get? p=some {cls:=.type "list", data:=.seq its'.toArray n'}:=by
  rw[Heap.get?_update_self f ho (by rw[hf]<;>rfl),hf]
 refine I.write (x:=p) (e:=p) (by rw[h];trivial) (.inl rfl) (fun b u hb q=>(Heap.get?_update_other _ _ (Ne.symm hb)).trans q) ⟨_,e⟩ ?_
 exact⟨hz,its',n',r,e⟩
def rSetL:V->V->V->Hp->(Hp->Prop)->Prop:=fun o i v H Q=>∃p xs k j,o=.ref p/\i=.int k/\H p=some (.lst xs)/\ixN xs.length k=some j/\Q (upd H p (.lst (xs.set j v)))
theorem y1n:PSet X rSetL:=by
 intro pins s σ H o i v ov iv u Q I ro ri rv h;obtain⟨p,xs,k,j,rfl,rfl,hp,hj,q⟩:=h;cases ro;obtain⟨t,rfl⟩:=ri;obtain⟨its,n,r,ho,hz⟩:=I.lst hp;obtain⟨h1,h2,h3,h4⟩:=x51 hj;have hl:=r.length;have hn:=line63
 have I':Inv X pins σ (upd H p (.lst (xs.set j v))) {s with heap:=s.heap.update p (Obj.mapSeq (·.setIfInBounds j u))}:=
  I.lstUpd hp ho (x7f its n j u) (r.set rv j) (by rw[List.length_set];exact hz) s.toks
 by_cases h0:0<=k
 ·have hk:k.toNat=j:=by
   rw[seqIndex_of h0 h4]at h1;exact Option.some.inj h1
  exact PySem.W.ki_setAt ho h0 (by omega) (by rw[w0d,<- hl];exact h4) (by rw[hk];exact⟨_,I',q⟩)
 ·have hk:(k+(its.toArray.size:Int)).toNat=j:=by
   rw[seqIndex_neg (by omega) h3]at h1;rw[w0d,<- hl];exact Option.some.inj h1
  exact PySem.W.ki_setBack ho (by omega) (by rw[w0d,<- hl];exact h3) (by omega) (by rw[hk];exact⟨_,I',q⟩)
theorem x3q(lo hi:Option Int)(n:Nat):(sliceBounds lo hi none n).1=((HT.sIx n 0 lo:Nat):Int)/\(sliceBounds lo hi none n).2.1=((HT.sIx n n hi:Nat):Int)/\(sliceBounds lo hi none n).2.2=1:=by
 refine⟨?_,?_,rfl⟩
 ·cases lo with
  |none=>simp[sliceBounds,HT.sIx]
  |some i=>
   simp only[sliceBounds,HT.sIx,Option.getD_none,show(1:Int)>0 by decide,if_true]
   by_cases h:i<0
   ·simp only[h,if_true]<;>omega
   ·simp only[h,if_false]<;>omega
 ·cases hi with
  |none=>simp[sliceBounds,HT.sIx]
  |some i=>
   simp only[sliceBounds,HT.sIx,Option.getD_none,show(1:Int)>0 by decide,if_true]
   by_cases h:i<0
   ·simp only[h,if_true]<;>omega
   ·simp only[h,if_false]<;>omega
theorem x20(its:List Value)(lo hi:Option Int):slicePick its.toArray lo hi none=((its.drop (HT.sIx its.length 0 lo)).take (HT.sIx its.length its.length hi-HT.sIx its.length 0 lo)).toArray:=by
 obtain⟨h1,h2,h3⟩:=x3q lo hi its.toArray.size;unfold slicePick;rw[h1,h2,h3];simp only[sliceRange_one,pick_run,w0d]<;>rfl
def rSlL(K:PySem.W.Frag):V->Option Int->Option Int->Hp->VK->Prop:=fun x lo hi H Q=>∃a xs,x=.ref a/\SqL K H a xs/\∀p,H p=none->Q (.ref p) (upd H p (.lst (cutV xs lo hi)))
theorem sl_list:SlR X (rSlL X.K):=by
 intro pins s σ H x v vl vu lo hi sl Q I rx hs pl pu h;obtain⟨a,xs,rfl,hx,q⟩:=h;cases rx;obtain⟨its,r,ht,hz⟩:=I.list hx;have hlen:=r.length;refine⟨"list", _,slot_list_getitem.lookup,ht.isList.typeIs,?_⟩;refine wpAny_getItem_list_slice ht.isList hs pl pu .none (by simp) ?_ (by rw[w0d]<;>omega);rw[x20,<- hlen];refine⟨.ref s.heap.objs.size,_,I.laid (t':=s.toks) (o:=.lst (cutV xs lo hi)) (fun b ob q=>Heap.get?_push_of_some _ q) (w0e _) ?_,rfl,q _ (I.hok.fresh (w0e _))⟩
 exact⟨w1e (q9e xs lo hi) hz,_,0,(r.drop (HT.sIx xs.length 0 lo)).take (HT.sIx xs.length xs.length hi-HT.sIx xs.length 0 lo),Heap.get?_push_size _ rfl⟩
noncomputable def flatV:V->Bool
 |.non=>true
 |.bl _=>true
 |.int _=>true
 |.str _=>true
 |_=>false
noncomputable def eqV:V->V->Bool
 |.non,.non=>true
 |.bl a,.bl b=>a==b
 |.bl a,.int b=>(if a then 1 else 0)==b
 |.int a,.bl b=>a==(if b then 1 else 0)
 |.int a,.int b=>a==b
 |.str a,.str b=>a==b
 |_,_=>false
theorem y8x{y:V}{u:Value}(ry:RelV y u)(rx:RelV x v)(fy:flatV y=true)(fx:flatV x=true):SeqAt.EqAt A s u v (eqV y x):=by
 cases y with
 |non=>
  cases ry;cases x with
  |non=>cases rx;exact SeqAt.EqAt.same _
  |bl b=>cases rx;exact SeqAt.EqAt.none_bool b
  |int b=>obtain⟨t,rfl⟩:=rx;exact SeqAt.EqAt.none_int b t
  |str b=>obtain⟨t,rfl⟩:=rx;exact SeqAt.EqAt.none_str b t
  |_=>exact absurd (show false=true from fx) w0t
 |bl a=>
  cases ry;cases x with
  |non=>cases rx;exact SeqAt.EqAt.bool_none a
  |bl b=>cases rx;exact SeqAt.EqAt.bool_bool a b
  |int b=>obtain⟨t,rfl⟩:=rx;exact SeqAt.EqAt.bool_int a b t
  |str b=>obtain⟨t,rfl⟩:=rx;exact SeqAt.EqAt.bool_str a b t
  |_=>exact absurd (show false=true from fx) w0t
 |int a=>
  obtain⟨t',rfl⟩:=ry;cases x with
  |non=>cases rx;exact SeqAt.EqAt.int_none a t'
  |bl b=>cases rx;exact SeqAt.EqAt.int_bool a t' b
  |int b=>obtain⟨t,rfl⟩:=rx;exact SeqAt.EqAt.int_int a t' b t
  |str b=>obtain⟨t,rfl⟩:=rx;exact SeqAt.EqAt.int_str a t' b t
  |_=>exact absurd (show false=true from fx) w0t
 |str a=>
  obtain⟨t',rfl⟩:=ry;cases x with
  |non=>cases rx;exact SeqAt.EqAt.str_none a t'
  |bl b=>cases rx;exact SeqAt.EqAt.str_bool a t' b
  |int b=>obtain⟨t,rfl⟩:=rx;exact SeqAt.EqAt.str_int a t' b t
  |str b=>obtain⟨t,rfl⟩:=rx;exact SeqAt.EqAt.str_str a t' b t
  |_=>exact absurd (show false=true from fx) w0t
 |_=>exact absurd (show false=true from fy) w0t
noncomputable def eqU(x:V)(u:Value):Bool:=match u with
 |.none=>eqV .non x
 |.bool b=>eqV (.bl b) x
 |.int i _=>eqV (.int i) x
 |.str z _=>eqV (.str z) x
 |_=>false
theorem x8s{y:V}{u:Value}(r:RelV y u)(f:flatV y=true):eqU x u=eqV y x:=by
 cases y with
 |non=>cases r;rfl
 |bl b=>cases r;rfl
 |int i=>obtain⟨t,rfl⟩:=r;rfl
 |str z=>obtain⟨t,rfl⟩:=r;rfl
 |_=>exact absurd (show false=true from f) w0t
theorem x1d:∀{xs:List V}{us:List Value},Vals xs us->xs.all flatV=true->us.any (eqU x)=xs.any fun y=>eqV y x
 |_,_,.nil,_=>rfl
 |y::xs,u::us,.cons r t,f=>by
  rw[w2p,w0s]at f;rw[w2q,w2q,x8s r f.1,x1d t f.2]
theorem q9o(rx:RelV x v)(fx:flatV x=true):∀{xs:List V}{us:List Value},Vals xs us->xs.all flatV=true->∀u∈us,SeqAt.EqAt A s u v (eqU x u)
 |_,_,.nil,_=>fun u hu=>by cases hu
 |y::xs,u::us,.cons r t,f=>fun u' hu=>by
  rw[w2p,w0s]at f;rcases w0q.mp hu with rfl|hu
  ·rw[x8s r f.1];exact y8x r rx f.1 fx
  ·exact q9o rx fx t f.2 u' hu
noncomputable def inV(x:V)(xs:List V):Bool:=xs.any fun y=>eqV y x
def rIn(K:PySem.W.Frag)(neg:Bool):R2:=fun x y H Q=>∃p xs,y=.ref p/\(SqL K H p xs\/SqT K H p xs)/\flatV x=true/\xs.all flatV=true/\Q (.bl (if neg then !inV x xs else inV x xs)) H
theorem x3r:OpR X (compareOp .NotIn) (rIn X.K true):=by
 intro pins s σ H x y v u Q I rx ry h;obtain⟨p,xs,rfl,hq,fx,fs,q⟩:=h;cases ry;rcases hq with hq|hq
 ·obtain⟨its,r,pl,hz⟩:=I.list hq;refine SeqAt.notIn_listAt (eqU x) pl.isList (fun w hw=>q9o rx fx r fs w (by simpa using hw)) ⟨.bl _,H,I,rfl,?_⟩
  rw[show its.toArray.any (eqU x)=its.any (eqU x) by simp,x1d r fs];exact q
 ·obtain⟨its,r,pl,hz⟩:=I.tuple hq;refine SeqAt.notIn_tupleAt (eqU x) pl (fun w hw=>q9o rx fx r fs w (by simpa using hw)) ⟨.bl _,H,I,rfl,?_⟩
  rw[show its.toArray.any (eqU x)=its.any (eqU x) by simp,x1d r fs];exact q
theorem x3s:CallR X (.type "list") (fun xs H Q=>∃p ys,xs=[.ref p]/\(SqL X.K H p ys\/SqT X.K H p ys)/\∀l,H l=none->Q (.ref l) (upd H l (.lst ys))):=by
 intro pins s σ H xs us Q I r h;obtain⟨p,ys,rfl,hq,q⟩:=h;obtain⟨u,rfl,rx⟩:=vals1 r;cases rx
 have fin:∀(its:List Value),Vals ys its->ys.length<=sizeLine->∀(h':Heap)(c':Nat),(∀b o',s.heap.get? b=some o'->h'.get? b=some o') ->
   h'.get? s.heap.objs.size=some {cls:=.type "list", dict:=none,data:=.seq its.toArray c',slots:=#[]}->EP X pins σ Q (.ref s.heap.objs.size) {s with heap:=h'}:=fun its r' hz h' c' kp e=>
  ⟨.ref s.heap.objs.size,_,I.laid (t':=s.toks) kp (w0e _) (show ObjOk X.prog X.w _ h' _ (.lst ys)from⟨hz,its,c',r',e⟩),rfl,q _ (I.hok.fresh (w0e _))⟩
 rcases hq with hq|hq
 ·obtain⟨its,r',pl,hz⟩:=I.list hq;have hlen:=r'.length;obtain⟨o,ho,hc,n,hd⟩:=pl.isList;exact call_list_seq p (.inl rfl) ho hc hd (fun h' c' kp e=>fin its r' hz h' c' kp e) (by simp only[w0d]<;>omega)
 ·obtain⟨its,r',pl,hz⟩:=I.tuple hq;have hlen:=r'.length;obtain⟨o,ho,hc,n,hd⟩:=pl;exact call_list_seq p (.inr rfl) ho hc hd (fun h' c' kp e=>fin its r' hz h' c' kp e) (by simp only[w0d]<;>omega)
theorem x21:CallR X (.type "tuple") (fun xs H Q=>∃p ys,xs=[.ref p]/\((SqL X.K H p ys/\∀l,H l=none->Q (.ref l) (upd H l (.tup ys)))\/(SqT X.K H p ys/\Q (.ref p) H))):=by
 intro pins s σ H xs us Q I r h;obtain⟨p,ys,rfl,h⟩:=h;obtain⟨u,rfl,rx⟩:=vals1 r;cases rx;rcases h with⟨hq,q⟩|⟨hq,q⟩
 ·obtain⟨its,r',pl,hz⟩:=I.list hq;have hlen:=r'.length;refine call_tuple_list pl.isList (fun h' kp=>?_) (by simp only[w0d]<;>omega)
  have I1:Inv X pins σ H {s with heap:=h'}:=I.kept (t':=s.toks) kp
  have I2:Inv X pins σ (upd H h'.objs.size (.tup ys)) {s with heap:=h'.push {cls:=.type "tuple", data:=.seq its.toArray}}:=
   I1.laid (t':=s.toks) (fun b o e=>Heap.get?_push_of_some _ e) (w0e _) (show ObjOk X.prog X.w _ _ _ (.tup ys)from⟨hz,its,r',IsTup.new _ _,_,Heap.get?_push_size _ rfl,rfl⟩)
  exact⟨.ref h'.objs.size,_,I2,rfl,q _ (I1.hok.fresh (w0e _))⟩
 ·obtain⟨its,r',pl,hz⟩:=I.tuple hq;exact call_tuple_same pl ⟨.ref p,H,I,rfl,q⟩
def tyV(K:PySem.W.Frag)(T:String)(x:V)(H:Hp):Prop:=match x with
 |.str _=>T="str"
 |.int _=>T="int"
 |.ref p=>(T="list" /\ ∃xs,SqL K H p xs)\/(T="tuple" /\ ∃o,K.lookup p=some o/\o.cls=.type "tuple" /\ o.dict=none) \/
   (T="dict" /\ ((∃kvs,H p=some (.dK kvs))\/∃sh kvs kas,H p=some (.dT sh kvs kas)))\/(T="set" /\ ∃S n,H p=some (.set S n))
 |_=>False
theorem x8t{T:String}(I:Inv X pins σ H s)(r:RelV x v)(ty:tyV X.K T x H):
  s.TypeIs v T/\∀a,v=.ref a->∃ob,s.heap.get? a=some ob/\ob.dict=none:=by
 cases x with
 |str z=>
  obtain⟨t,rfl⟩:=r;cases(show T="str" from ty);exact⟨typeIs_str s z t,fun _ e=>nomatch e⟩
 |int i=>
  obtain⟨t,rfl⟩:=r;cases(show T="int" from ty);exact⟨typeIs_int s i t,fun _ e=>nomatch e⟩
 |ref p=>
  cases r;rcases ty with⟨rfl,xs,hq⟩|⟨rfl,o,hk,hc,hd⟩|⟨rfl,hk⟩|⟨rfl,S,n,hk⟩
  ·obtain⟨its,_,pl,_⟩:=I.list hq;refine⟨pl.isList.typeIs,fun a e=>?_⟩
   cases e;obtain⟨o,n,e,c,hd,_⟩:=pl;exact⟨o,e,hd⟩
  ·refine⟨⟨o,I.kIn p o hk,hc⟩,fun a e=>?_⟩
   cases e;exact⟨o,I.kIn _ o hk,hd⟩
  ·have z:∃o,s.heap.get? p=some o/\o.ExactDict:=by
    rcases hk with⟨kvs,hk⟩|⟨sh,kvs,kas,hk⟩
    ·obtain⟨_,_,_,_,o,_,_,e,ex,_⟩:=I.hok p _ hk;exact⟨o,e,ex⟩
    ·obtain⟨_,_,_,_,_,o,_,_,e,ex,_⟩:=I.hok p _ hk;exact⟨o,e,ex⟩
   obtain⟨o,e,ex⟩:=z;refine⟨⟨o,e,ex.1⟩,fun a e2=>?_⟩
   cases e2;exact⟨o,e,ex.2.1⟩
  ·obtain⟨o,_,_,_,e,ex,_⟩:=I.hok p _ hk;refine⟨⟨o,e,ex.1⟩,fun a e2=>?_⟩
   cases e2;exact⟨o,e,ex.2.1⟩
 |_=>exact False.elim ty
def tBM0(K:PySem.W.Frag)(T:String)(r:V->List V->Hp->VK->Prop)(to:TE):TE:=fun σ H Q=>to σ H fun x H1=>tyV K T x H1/\r x [] H1 Q
def tBM(K:PySem.W.Frag)(T:String)(r:V->List V->Hp->VK->Prop)(to:TE)(t:TA):TE:=fun σ H Q=>to σ H fun x H1=>tyV K T x H1/\t σ H1 fun xs H2=>r x xs H2 Q
variable{o e:Expr}{es:List Expr}{to:TE}{t:TA}{name:Str}{apos cpos:Pos}{T id:String}{r:V->List V->Hp->VK->Prop}
theorem y8y(pa:PlainAttrs T)(slot:Slot T name id)(hty:typeOf (.builtin id)=pure (.type "method_descriptor"))(hm:MtR X id r)(ho:PE X o to)
  (hbase:attributeBase o name X.env (eval o X.env)=eval o X.env:=by rfl)(hline:(apos.endLine==cpos.line)=true:=by rfl):PE X (.Call (.Attribute o name apos) [] [] cpos) (tBM0 X.K T r to):=by
 intro pins s σ H Q I h;refine wpAny_Call_method0_late hbase hline (thn (ho pins s σ H _ I h) fun v s1 ⟨x,H1,I1,r1,ty,q1⟩=>?_)
 obtain⟨h1,h2⟩:=x8t I1 r1 ty;exact⟨T,id,pa,slot,hty,h1,h2,Calls.callWith_builtin rfl (PySem.evalArgs_none (hm pins s1 σ H1 x [] v [] Q I1 r1 .nil q1))⟩
theorem y36(pa:PlainAttrs T)(slot:Slot T name id)(hty:typeOf (.builtin id)=pure (.type "method_descriptor"))(hm:MtR X id r)(ho:PE X o to)(ha:PA X (e::es) t)
  (hbase:attributeBase o name X.env (eval o X.env)=eval o X.env:=by rfl)
  (hfew:((backTo cpos (starEach (e::es) X.env)).all (fun x=>!x.1)&&(backToKw cpos (keywordEach [] X.env)).all (fun x=>x.1.isSome)
   && decide ((e::es).length+([]:List Keyword).length+(if([]:List Keyword).isEmpty then 0 else 1)<30))=true:=by rfl)
  (hline:(apos.endLine==cpos.line)=true:=by rfl)(hs:starEach (e::es) X.env=(false,eval e X.env)::starEach es X.env:=by rfl)(hplain:(backTo cpos (starEach es X.env)).any (·.1)=false:=by rfl):
  PE X (.Call (.Attribute o name apos) (e::es) [] cpos) (tBM X.K T r to t):=by
 intro pins s σ H Q I h;refine wpAny_Call_method_late hbase hfew hline rfl (thn (ho pins s σ H _ I h) fun v s1 ⟨x,H1,I1,r1,ty,q1⟩=>?_)
 obtain⟨h1,h2⟩:=x8t I1 r1 ty;refine⟨T,id,pa,slot,hty,h1,h2,?_⟩;have hA:=ha cpos pins s1 σ H1 _ I1 q1;rw[hs]at hA |-
 refine Calls.callWith_builtin (by show(false||(backTo cpos (starEach es X.env)).any (·.1))=false;rw[hplain]<;>rfl) (Calls.evalArgs_plain ?_);exact thn hA fun us s2 ⟨vs,H2,I2,r2,q2⟩=>hm pins s2 σ H2 x vs v us Q I2 r1 r2 q2
/- xs.append(e),list.index on a module's tuple .. are MtR facts of 06m -/
end
def MtM(X:Cx)(id:String)(r:V->List V->Hp->VK->Prop):Prop:=
 ∀(pins:List (Addr×Obj))(s:Shared)(σ:St)(H:Hp)(x:V)(xs:List V)(v:Value)(us:List Value)(Q:VK),Inv X pins σ H s->RelV x v->Vals xs us->r x xs H Q ->
  wpAny (model X.prog X.w) X.A (call (.builtin id) (v::us)) (EP X pins σ Q) X.xe s
theorem Vals.one(h:Vals [x] us):∃u,us=[u]/\RelV x u:=vals1 h
theorem Vals.zero:∀{us:List Value},Vals [] us->us=[]
 |_,.nil=>rfl
theorem Vals.dropLast(h:Vals xs us):Vals xs.dropLast us.dropLast:=by
 induction h with
 |nil=>exact .nil
 |cons r t ih=>
  cases t with
  |nil=>exact .nil
  |cons q t'=>exact .cons r ih
theorem Vals.rep(h:Vals xs us):∀k:Nat,Vals (List.replicate k xs).flatten (List.replicate k us).flatten
 |0=>.nil
 |k+1=>by
  rw[w0y,w0y,w1w,w1w];exact Vals.append h (Vals.rep h k)
theorem x7g(l:List α):l.eraseIdx (l.length-1)=l.dropLast:=by
 induction l with
 |nil=>rfl
 |cons a r ih=>
  cases r with
  |nil=>rfl
  |cons b r=>
   have e:(a::b::r).length-1=((b::r).length-1)+1:=by
    have h1:(a::b::r).length=r.length+2:=rfl;have h2:(b::r).length=r.length+1:=rfl;omega
   rw[e,List.eraseIdx_cons_succ,ih]
   all_goals rfl
theorem q8d(its:List Value):∀(k:Nat)(acc:List Value),
  List.foldl (fun x1 x2=>x1++x2) acc.toArray (List.replicate k its.toArray)=(acc++(List.replicate k its).flatten).toArray
 |0,acc=>by simp
 |k+1,acc=>by
  have e:acc.toArray++its.toArray=(acc++its).toArray:=by simp
  have e2:(acc++its)++(List.replicate k its).flatten=acc++(List.replicate (k+1) its).flatten:=by
   rw[w0y,w1w,w1h]
  rw[<- e2,<- q8d its k (acc++its),<- e,w0y,List.foldl_cons]
section
variable{l b:Addr}{ys zs:List V}
theorem Inv.lset{its':List Value}{f:Array Value->Array Value}{t':Nat}(I:Inv X pins σ H s)(hH:H l=some (.lst xs))
  (e:s.heap.get? l=some {cls:=.type "list", data:=.seq its.toArray n})(hf:f its.toArray=its'.toArray)(hv:Vals ys its')(hz:ys.length<=sizeLine):
  Inv X pins σ (upd H l (.lst ys)) {s with heap:=s.heap.update l (Obj.mapSeq f),toks:=t'}:=by
 have q:=PySem.IsL.update e f;rw[hf]at q;refine I.write (x:=l) (e:=l) (by rw[hH];exact trivial) (.inl rfl) (fun b' u hb hu=>(Heap.get?_update_other s.heap (Obj.mapSeq f) (Ne.symm hb)).trans hu) ⟨_,q⟩ ?_
 exact⟨hz,its',_,hv,q⟩
theorem Inv.lnew{t':Nat}(I:Inv X pins σ H s)(hv:Vals ys its)(hz:ys.length<=sizeLine):
  Inv X pins σ (upd H s.heap.objs.size (.lst ys)) {s with heap:=s.heap.push {cls:=.type "list", data:=.seq its.toArray},toks:=t'}:=
 I.laid (fun _ _ q=>Heap.get?_push_of_some _ q) (w0e _) ⟨hz,its,0,hv,Heap.get?_push_size _ rfl⟩
theorem Inv.fresh(I:Inv X pins σ H s):H s.heap.objs.size=none:=I.hok.fresh (w0e _)
theorem Inv.lstM(I:Inv X pins σ H s)(hH:H l=some (.lst xs)):xs.length<=sizeLine/\∃(its:List Value)(n:Nat),Vals xs its/\xs.length=its.length/\s.heap.get? l=some {cls:=.type "list", data:=.seq its.toArray n}:=by
 obtain⟨z,its,n,r,e⟩:=I.hok l _ hH;exact⟨z,its,n,r,r.length,e⟩
theorem notLongL(h:n<=sizeLine):Builtin.List.listTooLong n=false:=by
 unfold Builtin.List.listTooLong;exact decide_eq_false (by omega)
end
def rAppend:V->List V->Hp->VK->Prop:=fun x vs H Q=>∃l xs y,x=.ref l/\vs=[y]/\H l=some (.lst xs)/\xs.length<sizeLine/\Q .non (upd H l (.lst (xs++[y])))
theorem q8e:MtM X "list.append" rAppend:=by
 intro pins s σ H x vs v us Q I rx rv h;obtain⟨l,xs,y,rfl,rfl,hH,hz,q⟩:=h;cases rx;obtain⟨u,rfl,ru⟩:=rv.one;obtain⟨z,its,n,r,hl,e⟩:=I.lstM hH;refine call_meets F.slot_list_append ⟨_,e,rfl⟩ F.entry_list_append (F.args_list_append_2 _ _) (PySem.list_append l its.toArray n u (by rw[w0d];omega)) ⟨e,?_⟩;refine⟨.non,_,I.lset (its':=its++[u]) hH e (by simp) (r.append (.cons ru .nil)) ?_,rfl,q⟩;rw[w0g,w2l];omega
def rPop:V->List V->Hp->VK->Prop:=fun x vs H Q=>∃l xs y,x=.ref l/\vs=[]/\H l=some (.lst xs)/\xs[xs.length-1]?=some y/\Q y (upd H l (.lst xs.dropLast))
theorem y8z:MtM X "list.pop" rPop:=by
 intro pins s σ H x vs v us Q I rx rv h;obtain⟨l,xs,y,rfl,rfl,hH,hy,q⟩:=h;cases rx;have hus:=rv.zero;subst hus;obtain⟨z,its,n,r,hl,e⟩:=I.lstM hH;obtain⟨u,hu,ru⟩:=r.get hy
 have hy':its.toArray[its.toArray.size-1]?=some u:=by
  show its.toArray[its.length-1]?=some u;rw[<- Array.getElem?_toList,<- hl];exact hu
 refine call_meets F.slot_list_pop ⟨_,e,rfl⟩ F.entry_list_pop (F.args_list_pop_1 _) (MeetsSeq.list_pop_last l its.toArray n u hy' (by rw[w0d];omega)) ⟨e,?_⟩;refine⟨y,_,I.lset (its':=its.dropLast) hH e ?_ r.dropLast ?_,ru,q⟩
 ·show its.toArray.eraseIdxIfInBounds (its.toArray.size-1)=its.dropLast.toArray;rw[w0d,List.eraseIdxIfInBounds_toArray,x7g]
 ·rw[List.length_dropLast];omega
theorem x1e(xs:List α)(k:Nat):(List.replicate k xs).flatten.length=k*xs.length:=by
 induction k with
 |zero=>simp
 |succ k ih=>rw[w0y,w1w,w0g,ih,Nat.succ_mul,Nat.add_comm]
end L2
namespace Att
open PySem PySem.W PySem.Calls PyProof.Rows
theorem x0f{P:Params}{h:Heap}:∀(ns:List Int)(vs:List Value),WellAll P h vs (ns.map WData.int)->IntsAre vs ns:=by
 intro ns
 induction ns with
 |nil=>
  intro vs w;rw[w2f]at w;cases w;exact .nil
 |cons n ns ih=>
  intro vs w;rw[w0i]at w;cases w with
  |cons a b=>
   cases a;exact .cons _ _ (ih _ b)
theorem x8u{l:OpenLaw}{n:Nat}(hn:l.most=some n){P:Params}{h:Heap}{args:List WData}{vals:List Value}
  (hpre:l.row.toRowW.claim.pre args=true)(hwl:WellAll P h vals args):
  ∃a vs ns,vals=[Value.ref a]/\args=[WData.list (ns.map WData.int)]/\h.get? a=some {cls:=.type "list", data:=.seq vs.toArray}/\IntsAre vs ns/\ns.length<=n:=by
 have hsh:WShape.hasAll [] args [.list .int]=true:=(pre_splitW hpre).1;have hc:l.pre.holds [] {args:=args}=true:=(pre_splitW hpre).2;obtain⟨d,r,rfl,h1,h2⟩:=hasAllW_cons hsh;obtain rfl:=hasAllW_nil h2;obtain⟨xs,rfl,h3⟩:=hasW_list h1;obtain⟨ns,rfl⟩:=items_int h3
 have hlen:ns.length<=n:=by
  unfold OpenLaw.pre at hc
  have h4:(WTm.not (.lt (.lit (.int (n:Int))) (.len (.arg 0)))).holds [] {args:=[.list (ns.map .int)]}=true:=by
   have h4:=(holds_andW hc).1;rw[hn]at h4;exact h4
  have h5:=condW_of h4 (w_not (w_lt w_lit (w_len_list (w_arg rfl))));rw[w0c]at h5;refine Nat.le_of_not_lt fun q=>?_
  have q':(n:Int)<((ns.length:Nat):Int):=by omega
  first
   |(rw[decide_eq_true q']at h5;exact absurd h5 (by decide))
   |(simp at h5;omega)
 cases hwl with
 |cons w1 w2=>
  cases w2;cases w1 with
  |list ho hall=>exact⟨_,_,ns,rfl,rfl,ho,x0f ns _ hall,hlen⟩
theorem x8v(l:OpenLaw)(args:List WData):l.row.toRowW.claim.post args (.bool true) args=true:=
 postW_of (r:=l.row.toRowW) (X:=(true==true))
  (show WShape.has [] (.bool true) .bool=true by first|rfl|decide|simp[WShape.has,WShape.arms,WShape.armsAll])
  (show(WTm.eq .res (.lit (.bool true))).value [] {args:=args,res:=some (.bool true),after:=args}=some (.bool (true==true))from w_eq_bool (w_res rfl) w_lit) rfl
theorem attach_call{l:OpenLaw}{n:Nat}{q:Program}{loose:List Str}{XP:(Str->Option Value)->Heap->Prop}{YP:World->Heap->Prop}{d:DefRec}
  (hn:l.most=some n)(hdf:d.params.defaults=[])
  (call:∀(w:World)(s₀ s₁:Shared)(mg mb:Str->Option Value)(fa:Addr)(o:Obj)(pm cd doc:Value)(a:Addr)(vs:List Value)(ns:List Int),
   Ground q loose [] XP w s₀ mg mb s₁.heap->YP w s₁.heap ->
   s₁.heap.get? fa=some o->o.data=.func (docDef d.name d.params d.body d.scope pm cd doc)->s₁.heap.CodeRec cd d.name->mg d.name=some (.ref fa) ->
   s₁.heap.get? a=some {cls:=.type "list", data:=.seq vs.toArray}->IntsAre vs ns->ns.length<=n->s₁.gens=#[] ->
   codeAny (model l.prog w) callerA (.call (.ref fa) ⟨[.ref a],[]⟩) (fun r s'=>r=.ok (.ret (.bool true))/\OldK s₁.heap s'.heap/\s'.os=s₁.os/\AllBare s'.gens) s₁):
  WalkO q loose XP YP l.row.toRowW d [] (fun f vs=>PySem.call f vs):=by
 intro w s₀ s₁ mg mb G Y fa o pm cd doc dV kV ho hd hcd hD hmg hg args vals as hpre hlay hrd hwl hlo;obtain rfl:dV=.none:=Dflts.none hD hdf;obtain rfl:kV=.none:=Dflts.noKw hD;obtain⟨a,vs,ns,rfl,rfl,hobj,hints,hlen⟩:=x8u hn hpre hwl;refine enter_call (codeAny_mono (call w s₀ s₁ mg mb fa o pm cd doc a vs ns G Y ho (fd_plain hd) hcd hmg hobj hints hlen hg) fun r s' hq=>?_)
 obtain⟨rfl,h2,h3,h4⟩:=hq;exact⟨.inl ⟨.bool true,.bool true,[],rfl,fun _=>rfl,.bool true,x8v l _,fun _=>⟨List.Pairwise.nil,fun _ hm=>(nomatch hm)⟩⟩,h2,h3,h4⟩
section
variable{prog:Program}{w:World}{A:Around}{E:Value->Shared->Prop}{s:Shared}{K:Frag}
noncomputable def ledger(h:Heap)(L d:Addr):List (Addr×Obj):=(List.range h.objs.size).filterMap fun a=>if a=L\/a=d then none else(h.get? a).map fun o=>(a,o)
end
end Att
namespace L2
open PySem PySem.Spec PyProof.Rows
theorem q8f:∀{vs:List Value}{ns:List Int},IntsAre vs ns->Vals (ns.map V.int) vs
 |_,_,.nil=>.nil
 |_,_,.cons n t h=>.cons ⟨t,rfl⟩ (q8f h)
def Only(H:Hp):Prop:=∀b,H b=none\/∃o xs,H b=some (.frz o (.lst xs))
theorem y1o{P:Program}{w:World}{K:PySem.W.Frag}{mg mb:Str->Option Value}{CX:CXT}{k:Nat}{fa a:Addr}{fd:FuncData}{x:Str}{sp:Sp}{s₁:Shared}{vs:List Value}{ns:List Int}
  (KX:K.In s₁.heap)(hns:s₁.heap.Ns mainGlobals mg)(hb:s₁.heap.Ns builtinsNs mb)(hbb:∀x:Str,x≠"__name__"->mb x=bootBuiltins x)(hlim:s₁.heap.NoLimit)(hg:s₁.gens=#[])
  (ha:s₁.heap.get? a=some {cls:=.type "list", data:=.seq vs.toArray})(hi:IntsAre vs ns)(hl:ns.length<=sizeLine)(hr:Room k callerA)
  (F:∀base:Heap,K.In base->base.Ns mainGlobals mg->FnOk P w K mg base CX k fa fd [x] sp)(hbind:∀(s:Shared)(u:Value),BindsTo s fd ⟨[u],[]⟩ [(x,u)])
  (hsp:∀H:Hp,Only H->SqL K H a (ns.map V.int)->sp [.ref a] H (fun v _=>v=.bl true) fun _ _ _=>False)
  (hCX:∀H e s',CX [] H s₁ (fun _ _ _=>False) e s'->False)(hNM:noMark K=true):
  codeAny (model P w) callerA (.call (.ref fa) ⟨[.ref a],[]⟩) (fun r s'=>r=.ok (.ret (.bool true))/\OldK s₁.heap s'.heap/\s'.os=s₁.os/\AllBare s'.gens) s₁:=by
 have rv:=q8f hi;have lenV:=hi.length
 have core:∀H:Hp,Only H->SqL K H a (ns.map V.int)->HOk P w H s₁.heap->(∀b,H b≠none->b=a)->(H a≠none->K.lookup a=none) ->
   codeAny (model P w) callerA (.call (.ref fa) ⟨[.ref a],[]⟩) (fun r s'=>r=.ok (.ret (.bool true))/\OldK s₁.heap s'.heap/\s'.os=s₁.os/\AllBare s'.gens) s₁:=by
  intro H hO hS hok hA hK;have base_of:∀{b:Addr}{o:Obj},s₁.heap.get? b=some o->H b=none->(hidT s₁.heap H).get? b=some o:=fun e n=>x3k e n
  have noA:∀{b:Addr}{o:Obj}{es:Array DictEntry}{ep:Nat},s₁.heap.get? b=some o->o.data=.dict es ep->H b=none:=fun {b o es ep} e d=>by
   cases q:H b with
   |none=>rfl
   |some u=>
    have e':b=a:=hA b (by rw[q];simp);subst e';rw[ha]at e;cases e;have d':Data.seq vs.toArray _=Data.dict es ep:=d;cases d'
  have nsK:∀{b:Addr}{m:Str->Option Value},s₁.heap.Ns b m->(hidT s₁.heap H).Ns b m:=fun {b m} ⟨o,es,ep,e,d,r⟩=>⟨o,es,ep,base_of e (noA e d),d,r⟩
  have hKb:K.In (hidT s₁.heap H):=fun b o e=>base_of (KX b o e) (by
   cases q:H b with
   |none=>rfl
   |some u=>
    have e':b=a:=hA b (by rw[q];simp);subst e';rw[hK (by rw[q];simp)]at e;cases e)
  have hM:Mod K mg (hidT s₁.heap H):=⟨hKb,nsK hns,⟨mb,nsK hb,hbb⟩,let ⟨mc,h1,h2⟩:=hlim;⟨mc,nsK h1,h2⟩⟩;have e0:Env0 P w K mg (hidT s₁.heap H) callerA [] s₁ H:=⟨rfl,hM,fun b o e=>x5z e,Nat.le_of_eq (x13 _ _),trivial,fun b hb=>absurd (show b∈([]:List Addr)from hb) (by simp),hok,.of_eq hg,.vac hNM⟩
  refine codeAny_mono ((F _ hKb (nsK hns)).run callerA [] s₁ H ⟨[.ref a],[]⟩ [.ref a] [.ref a] _ _ hr e0 (hbind s₁ (.ref a)) (.cons rfl .nil) (hsp H hO hS)) fun r s' h=>?_
  cases r with
  |error e=>exact(hCX H e s' h).elim
  |ok fl=>
   cases fl with
   |next=>exact False.elim h
   |brk=>exact False.elim h
   |cont=>exact False.elim h
   |ret u=>
    obtain⟨v,H',os,bare,un,hok',r',q⟩:=h;have q':v=.bl true:=q;subst q';obtain rfl:u=Value.bool true:=r';refine⟨rfl,OldK.of_keep fun b o e=>?_,os,bare⟩
    cases q:H b with
    |none=>exact un.keep b o e q (by intro z;exact absurd (show b∈([]:List Addr)from z) (by simp)) (by simp)
    |some u=>
     rcases hO b with z|⟨ob,xs,z⟩
     ·rw[q]at z;cases z
     ·have z2:=un.frzs b ob _ z;obtain⟨e1,_⟩:=hok b _ z;obtain⟨e2,_⟩:=hok' b _ z2;rw[e]at e1;cases e1;exact e2
 cases hk:K.lookup a with
 |some o=>
  have e:=KX a o hk;rw[ha]at e;cases e;refine core (fun _=>none) (fun _=>.inl rfl) (.inr ⟨_,vs.toArray,_,hk,rfl,rfl,rfl,by rw[w0d,lenV];exact hl,by simpa using rv⟩) (fun b u z=>by have z':(none:Option HO)=some u:=z;cases z') (fun b z=>absurd rfl z) fun z=>absurd rfl z
 |none=>
  refine core (fun b=>if b=a then some (.frz {cls:=.type "list", data:=.seq vs.toArray} (.lst (ns.map V.int)))else none) (fun b=>?_) (.inl (.inr ⟨{cls:=.type "list", data:=.seq vs.toArray},if_pos rfl⟩)) (fun b u z=>?_) (fun b z=>?_) fun _=>hk
  ·by_cases hb:b=a
   ·exact .inr ⟨_,_,if_pos hb⟩
   ·exact .inl (if_neg hb)
  ·by_cases hb:b=a
   ·have z':=(if_pos hb).symm.trans z;cases z';subst hb;exact⟨ha,by rw[w0c];exact hl,vs,_,rv,ha⟩
   ·have z':=(if_neg hb).symm.trans z;cases z'
  ·by_cases hb:b=a
   ·exact hb
   ·exact absurd (if_neg hb) z
noncomputable abbrev KOf{K:PySem.W.Frag}{h:Heap}(_:K.In h):PySem.W.Frag:=K
theorem y4v{l:PySem.W.OpenLaw}{n k:Nat}{q:Program}{loose:List Str}{XP:(Str->Option Value)->Heap->Prop}{YP:World->Heap->Prop}{d:DefRec}{K:Params->PySem.W.Frag}{CX:World->CXT}{sp:World->Sp}{x:Str}
  (hn:l.most=some n)(hn2:n<=sizeLine)(hdf:d.params.defaults=[])(hr:Room k callerA)
  (hY:∀(w:World)(h:Heap),YP w h->(K w.params).In h)
  (F:∀(w:World)(mg:Str->Option Value)(fa:Addr)(h:Heap),(K w.params).In h->h.Ns mainGlobals mg->mg d.name=some (.ref fa) ->
   ∃fd:FuncData,(∀(s:Shared)(u:Value),BindsTo s fd ⟨[u],[]⟩ [(x,u)]) /\
    ∀base:Heap,(K w.params).In base->base.Ns mainGlobals mg->FnOk l.prog w (K w.params) mg base (CX w) k fa fd [x] (sp w))
  (hsp:∀(w:World)(H:Hp)(a:Addr)(ns:List Int),ns.length<=n->Only H->SqL (K w.params) H a (ns.map V.int)->sp w [.ref a] H (fun v _=>v=.bl true) fun _ _ _=>False)
  (hCX:∀(w:World)(H:Hp)(s:Shared)(e:Value)(s':Shared),CX w [] H s (fun _ _ _=>False) e s'->False)(hNM:∀w:World,noMark (K w.params)=true):
  PySem.W.WalkO q loose XP YP l.row.toRowW d [] (fun f vs=>PySem.call f vs):=by
 refine Att.attach_call hn hdf fun w s₀ s₁ mg mb fa o pm cd doc a vs ns G Y ho hd hcd hmg hobj hints hlen hg=>?_
 have KX:=hY w _ Y;obtain⟨fd,hb,hF⟩:=F w mg fa _ KX G.T.g hmg;exact y1o KX G.T.g G.T.b G.T.builtins G.T.nolimit hg hobj hints (w1e hlen hn2) hr hF hb (fun H hO hS=>hsp w H a ns hlen hO hS) (fun H e s'=>hCX w H s₁ e s') (hNM w)
end L2
/- THE LAST THEOREM (shape; LID, My.* are yours):
   My.Adr: a structure of the addresses that your layer names (classes, functions); My.Txt K t: a structure (Prop) of the equations over K;
   My.txt_mk : {K} {implicit addresses ..} (e1 : nsIn K mainGlobals "law" = some (some (.ref f))) (e2 : K.lookup f = some ⟨oc, od, .func (fnOf "law" "law" params body scope dV kV doc pm an cdv ct), sl⟩) (e3 : codeIn K cdv "law" = true) .. : ∃ t, My.Txt K t
set_option maxRecDepth 100000 in
set_option maxHeartbeats 0 in
theorem PySem.Challenge.cw_LID_holds : PySem.Challenge.rw_LID.Holds := by
 w_on; o_law; k_head; (case hw => w_witness2)
 k_fill
 refine L2.y4v (l := PySem.Challenge.rw_LID) (n := 63) (k := 40) (x := "script") (CX := fun w => ..) (sp := fun _ => My.sp_law) rfl (by decide) rfl ⟨rfl, by decide, by decide⟩ (fun w h Y => PySem.W.kIn_of Y) ?F ?S ?C
 case F =>
  intro w mg fa h KX G hmg
  have T : ∃ t, My.Txt (L2.KOf KX) t := by
   dsimp only [L2.KOf]                          -- K must stand as «<heap const> w.params» for k_is;refine' My.txt_mk ?e1 ?e2 ?e3 ..
   (case e1 => PySem.W.k_is)                    -- in the order: a name -> its address -> its object -> its parts
   (case e2 => PySem.W.k_is)
   ..
  obtain ⟨t, T⟩ := T;have e0 := hmg.symm.trans (mg_of KX G T.law);cases e0                                       -- fa is the law's own address;exact ⟨_, fun s u => .of_eq rfl, fun base kb nb => My.law_fn T kb nb⟩     -- if «.of_eq rfl» comes too early: refine' ⟨_, ?b, fun base kb nb => My.law_fn T kb nb⟩; exact fun s u => .of_eq rfl
 case S => exact fun w H a ns hl hO hS => ..
 case C => exact ..
(the tactic k_is has no namespace: write k_is) -/
namespace L2
open PySem PySem.Spec PyProof.Rows
variable{a f:Addr}{A:Around}{X:Cx}{env:Env}{e:Expr}{fd:FuncData}{base h h1:Heap}{H H':Hp}{pins:List (Addr×Obj)}{l:List Env}{es ifs:List Expr}{js:List Nat}{N ps:List Str}{pos:Pos}{P:Program}{K:PySem.W.Frag}{s:Shared}{sp:Sp}{σ:St}{st:Stmt}{qual x:Str}{mg:Str->Option Value}{te:TE}{v:V}{a0 cls:Value}{w:World}
noncomputable def defArgs(s:Stmt):Arguments:=match s with
 |.FunctionDef _ a _ _ _ _ _ _ _ _=>a
 |_=>{posonlyargs:=[],args:=[],vararg:=none,kwonlyargs:=[],kw_defaults:=[],kwarg:=none,defaults:=[]}
noncomputable def defBody(s:Stmt):List Stmt:=match s with
 |.FunctionDef _ _ b _ _ _ _ _ _ _=>b
 |_=>[]
noncomputable def defScope(s:Stmt):Scope:=match s with
 |.FunctionDef _ _ _ _ _ _ sc _ _ _=>sc
 |_=>{kind:=.function,names:=[],isGenerator:=false,isCoroutine:=false}
noncomputable abbrev CX0:CXT:=fun _ _ _ _ _ _=>False
noncomputable abbrev E0:XK:=fun _ _ _=>False
structure Fun(K:PySem.W.Frag)(x qual:Str)(st:Stmt)(f:Addr)(fd:FuncData):Prop where
 ex:∃(oc:Value)(od:Option Addr)(kV doc pm:Value)(an:Option Addr)(cdv ct:Value)(osl:Array (Option Value)),
  fd=PySem.W.fnOf x qual (defArgs st) (defBody st) (defScope st) .none kV doc pm an cdv ct/\K.lookup f=some ⟨oc,od,.func fd,osl⟩/\PySem.W.codeIn K cdv qual=true
 kp:keepIn K (.ref f)=true
theorem Fun.binds{ps:List Str}(F:Fun K x qual st f fd)
  (h:∀(kV doc pm:Value)(an:Option Addr)(cdv ct:Value)(us:List Value),us.length=ps.length->bindArgs (PySem.W.fnOf x qual (defArgs st) (defBody st) (defScope st) .none kV doc pm an cdv ct) ⟨us,[]⟩=pure (ps.zip us)):Binds K fd ps []:=by
 obtain⟨oc,od,kV,doc,pm,an,cdv,ct,osl,rfl,lk,hcd⟩:=F.ex;exact .all (h kV doc pm an cdv ct)
theorem q0i{st:Stmt}{oc:Value}{od an:Option Addr}{osl:Array (Option Value)}{kV doc pm cdv ct:Value}(l:K.lookup f=some ⟨oc,od,.func (PySem.W.fnOf x qual (defArgs st) (defBody st) (defScope st) .none kV doc pm an cdv ct),osl⟩)
  (c:PySem.W.codeIn K cdv qual=true)(k:keepIn K (.ref f)=true):Fun K x qual st f (PySem.W.fnOf x qual (defArgs st) (defBody st) (defScope st) .none kV doc pm an cdv ct):=⟨⟨oc,od,kV,doc,pm,an,cdv,ct,osl,rfl,l,c⟩,k⟩
theorem pv(i:Nat)(hN:X.N[i]?=some x:=by rfl)(hv:Vis X.env.scope x:=by walk_at "1")(hd:(x==("__debug__":Str))=false:=by decide)
  (hcd:(x==("__classdict__":Str))=false:=by decide):PE X (.Name x pos) (tVar i):=y8d hN hv hd hcd
def Same(H H':Hp):Prop:=∀b o,H b=some o->H' b=some o
theorem Same.refl(H:Hp):Same H H:=fun _ _ h=>h
theorem Same.trans{H1 H2:Hp}(a:Same H H1)(b:Same H1 H2):Same H H2:=fun c o h=>b c o (a c o h)
theorem Same.free(e:Same H H'){l:Addr}(h:H' l=Option.none):H l=Option.none:=by
 cases q:H l with
 |none=>rfl
 |some o=>
  rw[e l o q]at h;cases h
theorem Same.seq{xs:List V}(e:Same H H')(h:SqL K H a xs):SqL K H' a xs:=by
 rcases h with(h|⟨o,h⟩)|h
 ·exact .inl (.inl (e _ _ h))
 ·exact .inl (.inr ⟨o,e _ _ h⟩)
 ·exact .inr h
set_option maxHeartbeats 4000000
theorem ObjOk.get{o:HO}(x:ObjOk P w H h a o):∃ob,h.get? a=some ob:=by
 cases o with
 |lst xs=>obtain⟨_,_,_,_,e⟩:=x;exact⟨_,e⟩
 |tup xs=>obtain⟨_,_,_,p,_⟩:=x;obtain⟨o,e,_⟩:=p;exact⟨o,e⟩
 |dK kvs=>obtain⟨_,_,_,_,o,_,_,e,_⟩:=x;exact⟨_,e⟩
 |dT sh kvs kas=>obtain⟨_,_,_,_,_,o,_,_,e,_⟩:=x;exact⟨_,e⟩
 |set S n=>obtain⟨o,_,_,_,e,_⟩:=x;exact⟨_,e⟩
 |ins C dx fs=>obtain⟨_,_,_,e,_⟩:=x;exact⟨_,e⟩
 |own y=>obtain⟨_,e⟩:=x;exact⟨_,e⟩
 |xd fs=>obtain⟨_,⟨_,_,_,e,_⟩,_⟩:=x;exact⟨_,e⟩
 |rng lo hi=>obtain⟨_,_,_,e⟩:=x;exact⟨_,e⟩
 |frz ob u=>obtain⟨e,_⟩:=x;exact⟨_,e⟩
 |tbl ps=>rcases x with⟨_,_,_,_,e,_⟩|⟨_,_,_,_,_,_,_,_,_,_,_,_,e⟩<;>exact⟨_,e⟩
 |met f y=>exact⟨_,(show h.get? a=some _ from x)⟩
 |ext φ=>obtain⟨_,⟨_,e⟩,_⟩:=x;exact⟨_,e⟩
structure Fly(outer:List Env)(H H':Hp)(h h':Heap)(e:Addr)(cls:Value)(B:Heap):Prop where
 fl:∃a0,Heap.FlyingW B outer e cls a0 h'
 old:∀b o,h.get? b=some o->H b=none->b∉frs outer->B.get? b=some o
 trk:∀b u o,H' b=some u->h'.get? b=some o->B.get? b=some o
 all:∀b o,h.get? b=some o->b∈frs outer\/∃o',B.get? b=some o'
 new:h.get? e=none
noncomputable def CX1(P:Program)(w:World):CXT:=fun outer H s E ev s'=>∃(e:Addr)(cls:Value)(H':Hp)(B:Heap),
 ev=.ref e/\s'.os=s.os/\AllBare s'.gens/\Un (frs outer) [] H H' s.heap s'.heap/\HOk P w H' s'.heap/\Fly outer H H' s.heap s'.heap e cls B/\E cls none H'
def PassX(CX:CXT)(X:Cx)(EE:L2.St->XK):Prop:=∀(pins:List (Addr×Obj))(σ:St)(H:Hp)(s:Shared)(e:Value)(s':Shared),Inv X pins σ H s->CX X.stack H s (EE σ) e s'->X.xe e s'
def RaisX(X:Cx)(EE:L2.St->XK):Prop:=∀(pins:List (Addr×Obj))(σ:St)(H:Hp)(s:Shared)(e:Addr)(cls:Value)(vs:List Value)(h':Heap),Inv X pins σ H s->Heap.MadeExcOf s.heap h' e cls vs->EE σ cls none H->X.xe (.ref e) {s with heap:=h'}
section
variable{CX:CXT}{scope:Scope}{cd:Value}{outer:List Env}{s₀:Shared}{H₀:Hp}{E:XK}
theorem x52{s':Shared}{e:Addr}{B h'':Heap}
  (I:Inv (cxOf CX P w K mg base N qual scope f cd A outer s₀ H₀ E) pins σ H s)(J:Inv (cxOf CX P w K mg base N qual scope f cd A outer s₀ H₀ E) pins σ H' s')
  (old:∀b o,s.heap.get? b=some o->H b=none->b∉frs (envOfC qual scope s₀.heap.objs.size f cd::outer)->B.get? b=some o)
  (trk:∀b u o,H' b=some u->s'.heap.get? b=some o->B.get? b=some o)
  (all:∀b o,s.heap.get? b=some o->b∈frs (envOfC qual scope s₀.heap.objs.size f cd::outer)\/∃o',B.get? b=some o')
  (new:s.heap.get? e=none)
  (fl:Heap.FlyingW B outer e cls a0 h'')(up:s'.heap.UpToSlots h'')(hE:E cls none H'):
  CX1 P w outer H₀ s₀ E (.ref e) {s' with heap:=h''}:=by
 have neL:∀b o,s₀.heap.get? b=some o->b∉frs outer->b∉frs (envOfC qual scope s₀.heap.objs.size f cd::outer):=fun b o q nb hb=>by
  rcases w0q.mp (show b∈s₀.heap.objs.size::frs outer from hb)with z|z
  ·exact absurd (Heap.lt_size q) (by rw[z];exact w1o _)
  ·exact nb z
 have ex0:∀b:Addr,b∉([]:List Addr):=fun b z=>nomatch z
 have slot:∀b o,s₀.heap.get? b=some o->b∈frs outer->∃sl,h''.get? b=some {o with slots:=sl}:=fun b o q hb=>by
  obtain⟨sl,e1⟩:=J.base.slot b o q (J.ok.frf b hb) hb (ex0 b);obtain⟨_,o2,e2,nd⟩:=J.funs.mem hb
  rw[e1]at e2;cases e2;obtain⟨sl',e3⟩:=up b _ e1 nd;exact⟨sl',e3⟩
 refine⟨e,cls,H',B,rfl,J.os,J.bare,⟨fun b o q n hb hx=>?_,fun b o q n hb hx=>slot b o q hb,fun b o q n hx=>J.base.free b o q n hx,fun b o q hx=>?_,J.base.tups,J.base.frzs,J.base.tbls⟩,fun a o q=>?_,⟨⟨a0,fl⟩,fun b o q n hb=>?_,fun b u o q z=>?_,fun b o q=>?_,?_⟩,hE⟩
 ·exact fl.1 b o (old b o (I.base.keep b o q n hb hx) (I.base.free b o q n hx) (neL b o q hb))
 ·by_cases hb:b∈frs outer
  ·obtain⟨sl,z⟩:=slot b o q hb;exact⟨_,z⟩
  ·obtain⟨o1,e1⟩:=I.base.there b o q hx;rcases all b o1 e1 with z|⟨o',z⟩
   ·exact absurd z (neL b o q hb)
   ·exact⟨o',fl.1 b o' z⟩
 ·refine(J.hok a o q).stay (fun b u hb z=>?_) (fun _ z=>z) fun _ _ _ z=>z
  rcases hb with rfl|hb
  ·exact fl.1 _ _ (trk b o u q z)
  ·exact fl.1 _ _ (trk b _ u hb z)
 ·exact old b o (I.base.keep b o q n hb (ex0 b)) (I.base.free b o q n (ex0 b)) (neL b o q hb)
 ·obtain⟨o1,e1⟩:=(J.hok b u q).get;have e2:=trk b u o1 q e1;have e3:=fl.1 b o1 e2;rw[e3]at z;cases z;exact e2
 ·obtain⟨o1,e1⟩:=I.base.there b o q (ex0 b);rcases all b o1 e1 with z|z
  ·by_cases hb:b∈frs outer
   ·exact .inl hb
   ·exact absurd z (neL b o q hb)
  ·exact .inr z
 ·cases q:s₀.heap.get? e with
  |none=>rfl
  |some o=>
   obtain⟨o1,e1⟩:=I.base.there e o q (ex0 e);rw[new]at e1;cases e1
theorem pass1:PassX (CX1 P w) (cxOf (CX1 P w) P w K mg base N qual scope f cd A outer s₀ H₀ E) (fun _=>E):=by
 intro pins σ H s ev s' I hx;obtain⟨e,cls,H',B,rfl,hos,hg,un,hok,fly,hE⟩:=hx;have J:=I.call' (ch:=[]) hos un hok hg (fun b hb=>nomatch hb)
 obtain⟨a0,fl⟩:=fly.fl;refine wpAny_leaves_onW (base:=B) I.ok.frames rfl fl fun h'' fl2 up=>?_
 exact x52 I J fly.old fly.trk fly.all fly.new fl2 up hE
theorem rais1:RaisX (cxOf (CX1 P w) P w K mg base N qual scope f cd A outer s₀ H₀ E) (fun _=>E):=by
 intro pins σ H s e cls vs h' I hx hE;have J:Inv (cxOf (CX1 P w) P w K mg base N qual scope f cd A outer s₀ H₀ E) pins σ H {s with heap:=h'}:=I.kept (t':=s.toks) hx.keeps;have hin:∀env∈(envOfC qual scope s₀.heap.objs.size f cd::outer),∀b,env.frame=some b->b∈frs (envOfC qual scope s₀.heap.objs.size f cd::outer):=fun env he b hb=>w2j.mpr ⟨env,he,hb⟩
 refine wpAny_leaves_madeW (base:=PySem.W.hideAll s.heap (frs (envOfC qual scope s₀.heap.objs.size f cd::outer))) (h:=s.heap) I.ok.frames rfl (fun b o q=>PySem.W.of_hideAll _ q) (PySem.W.funFrames_hide I.stack hin) hx fun h'' t fl _ _ up=>?_
 refine x52 I J (fun b o q _ nb=>hideAll_get _ q nb) (fun b u o q z=>?_) (fun b o q=>?_) hx.new fl up hE
 ·obtain⟨o1,e1⟩:=(I.hok b u q).get;have e2:=hx.keeps b o1 e1;have z':h'.get? b=some o:=z;rw[e2]at z';cases z';refine hideAll_get _ e1 fun hb=>?_
  rw[I.stkFree b hb]at q;cases q
 ·by_cases hb:b∈frs (envOfC qual scope s₀.heap.objs.size f cd::outer)
  ·exact .inl hb
  ·exact .inr ⟨o,hideAll_get _ q hb⟩
end
theorem passE:PassX (CX1 P w) X (fun _=>E0):=fun _ _ _ _ _ _ _ h=>by
 obtain⟨_,_,_,_,_,_,_,_,_,_,z⟩:=h;exact False.elim z
def tCallX(sp:Sp)(dvs:List V)(EE:L2.St->XK)(t:TA):TE:=fun σ H Q=>t σ H fun vs H1=>sp (vs++dvs) H1 Q (EE σ)
section
variable{CX:CXT}{k:Nat}{C:Addr}{dvs:List V}{ds:List Value}{EE:L2.St->XK}{m:Str}{p apos:Pos}{o:Expr}{ta:TE}{t:TA}
theorem x53{Q:VK}{us:List Value}{vs:List V}(F:FnOk X.prog X.w X.K X.mg X.base CX k f fd ps sp)(hr:Room k X.A)(hb:Binds X.K fd ps ds)(hd:Vals dvs ds)(hx:PassX CX X EE)
  (I:Inv X pins σ H s)(r:Vals vs us)(h:sp (vs++dvs) H Q (EE σ)):wpAny (model X.prog X.w) X.A (call (.ref f) us) (EP X pins σ Q) X.xe s:=by
 have r2:Vals (vs++dvs) (us++ds):=r.append hd;have hl:(us++ds).length=ps.length:=by rw[<- r2.length];exact F.len _ _ _ _ h
 refine wpAny_call (codeAny_mono (F.run X.A X.stack s H ⟨us,[]⟩ (us++ds) (vs++dvs) Q (EE σ) hr I.env0 (hb s us I.kIn hl) r2 h) fun r s' hq=>?_)
 cases r with
 |error e=>exact hx pins σ H s e s' I hq
 |ok fl=>
  cases fl with
  |ret u=>exact I.after hq
  |next=>exact False.elim hq
  |brk=>exact False.elim hq
  |cont=>exact False.elim hq
theorem y1p(F:FnOk X.prog X.w X.K X.mg X.base CX k f fd ps sp)(hr:Room k X.A)(hg:Gl X x)(hm:X.mg x=some (.ref f))(hk:keepIn X.K (.ref f)=true)(hb:Binds X.K fd ps ds)(hd:Vals dvs ds)(hx:PassX CX X EE)
  (ha:PA X (e::es) t)(hdb:(x==("__debug__":Str))=false:=by decide)(he:starEach (e::es) X.env=(false,eval e X.env)::starEach es X.env:=by rfl)(hpl:(backTo pos (starEach es X.env)).any (·.1)=false:=by rfl):
  PE X (.Call (.Name x p) (e::es) [] pos) (tCallX sp dvs EE t):=by
 intro pins s σ H Q I h;refine wpAny_Call_Name_kw (q5b I hg hm ?_ hdb);refine callWith_K (h₀:=X.base) I.ok.mod.kin hk (thn (ha pos pins s σ H _ I h) fun us s1 ⟨vs,H1,I1,r,q⟩=>⟨I1.kIn,?_⟩) he hpl
 exact x53 F hr hb hd hx I1 r q
end
theorem Fun.okX{k:Nat}(F:Fun K x qual st f fd)(S:FnScope N ps (defScope st))(len:∀vs H Q E,sp vs H Q E->vs.length=ps.length)
  (hbody:∀(cdv:Value)(A:Around)(outer:List Env)(s:Shared)(H:Hp)(vs:List V)(Q:VK)(E:XK),Room k (A.deeper (envOfC qual (defScope st) s.heap.objs.size f cdv))->sp vs H Q E ->
   ∃t,PSs (cxOf (CX1 P w) P w K mg base N qual (defScope st) f cdv A outer s H E) (defBody st) t/\t {nx:=fun _ H'=>Q .non H',rt:=Q} (start N vs) H):FnOk P w K mg base (CX1 P w) (k+1) f fd ps sp:=by
 obtain⟨oc,od,kV,doc,pm,an,cdv,ct,osl,rfl,lk,hcd⟩:=F.ex;exact y35 lk hcd S len fun A outer s H vs Q E hr hsp=>hbody cdv A outer s H vs Q E hr hsp
noncomputable def strKeysIn(K:PySem.W.Frag)(a:Addr):Bool:=match K.lookup a with
 |some ⟨_,_,.dict es _,_⟩=>es.toList.all fun e=>match e.key with|.str _ _=>true|_=>false
 |_=>false
noncomputable def noInitIn(K:PySem.W.Frag)(a:Addr):Bool:=strKeysIn K a&&PySem.W.nsIn K a "__init__"==some none
noncomputable abbrev veMro:List Value:=[.type "ValueError", .type "Exception", .type "BaseException", .type "object"]
noncomputable def excIn(K:PySem.W.Frag)(C A:Addr):Bool:=match K.lookup C,K.lookup A with
 |some ⟨.type "type", _,.cls cd,sl⟩,some ⟨_,_,.cls ca,_⟩=>(match sl.toList with
   |[_,_,_,_,some (.builtin n),_]=>n=="ValueError.__new__"&&cd.mro==(.ref C::.ref A::veMro)&&!cd.hasDel&&noInitIn K cd.ns&&noInitIn K ca.ns
   |_=>false)
 |_,_=>false
theorem x2a(X:K.In h)(q:noInitIn K a=true):∃m,h.Ns a m/\m "__init__"=none:=by
 unfold noInitIn at q;rw[w0s]at q;obtain⟨q1,q2⟩:=q;unfold strKeysIn at q1;split at q1
 ·rename_i c d es n sl hl
  have hs:StrKeys es:=fun e he=>by
   have:=w1c.mp q1 e (by simpa using he);split at this
   ·rename_i k t hk;exact⟨_,_,hk⟩
   ·cases this
  refine⟨nsFind es,⟨_,es,n,X _ _ hl,rfl,hs,fun _=>rfl⟩,?_⟩
  have q2:=beq_iff_eq.mp q2;unfold PySem.W.nsIn at q2;rw[hl]at q2;dsimp only at q2;unfold nsFind findBy;rw[<- Array.find?_toList];split at q2
  ·cases q2
  ·rename_i he;rw[he];rfl
 ·cases q1
theorem q8g{C A:Addr}(X:K.In h)(q:excIn K C A=true):
  ∃nm qn N bs hdct sn sub ab col dd k0 k1 k2 k3 k5 mN,h.get? C=some (excClassObj nm qn C N bs (.ref A::veMro) hdct sn sub ab col dd k0 k1 k2 k3 k5 "ValueError.__new__")/\h.Ns N mN/\mN "__init__"=none/\OwnTail h veMro (.ref A::veMro):=by
 unfold excIn at q;split at q
 ·rename_i dd cd sl ca0 cad ca csl hC hA;split at q
  ·rename_i k0 k1 k2 k3 n k5 hs;simp only[w0s,beq_iff_eq,Bool.not_eq_true']at q;obtain⟨⟨⟨⟨rfl,hm⟩,hdel⟩,hn⟩,hna⟩:=q;obtain⟨nm,bs,mro,ns,qn,hd,sn,sub,ab,col,del⟩:=cd;dsimp only at hm hdel hn;subst hm hdel
   have hsl:sl=#[k0,k1,k2,k3,some (.builtin "ValueError.__new__"),k5]:=by
    obtain⟨l⟩:=sl;simp only at hs;rw[hs]
   subst hsl;obtain⟨mN,hN,hi⟩:=x2a X hn;obtain⟨mA,hNA,hiA⟩:=x2a X hna;exact⟨nm,qn,ns,bs,hd,sn,sub,ab,col,dd,k0,k1,k2,k3,k5,mN,X _ _ hC,hN,hi,.own (X _ _ hA) hNA hiA .base⟩
  ·cases q
 ·cases q
def tRaise(C:Addr)(EE:L2.St->XK)(t:TA):TS:=fun _ σ H=>t σ H fun vs H1=>vs.length<=sizeLine/\EE σ (.ref C) none H1
section
variable{C Ac:Addr}{EE:L2.St->XK}{np cpos:Pos}{t:TA}
theorem y1q(hx:RaisX X EE)(hc:X.calm=true)(hg:Gl X x)(hm:X.mg x=some (.ref C))(hC:excIn X.K C Ac=true)(ha:PA X (e::es) t)
  (hdb:(x==("__debug__":Str))=false:=by decide)(he:starEach (e::es) X.env=(false,eval e X.env)::starEach es X.env:=by rfl)(hpl:(backTo cpos (starEach es X.env)).any (·.1)=false:=by rfl):
  PS X (.Raise (some (.Call (.Name x np) (e::es) [] cpos)) none pos) (tRaise C EE t):=by
 intro pins s σ H D I h;obtain⟨nm,qn,N,bs,hdct,sn,sub,ab,col,dd,k0,k1,k2,k3,k5,mN,hC1,hN,hi,T⟩:=q8g I.kIn hC
 have hpl2:(backTo cpos (starEach (e::es) X.env)).any (·.1)=false:=by
  rw[he];show(false||(backTo cpos (starEach es X.env)).any (·.1))=false;rw[hpl];rfl
 refine wpAny_Raise_call_subT (C:=C) (nm:=nm) (q:=qn) (N:=N) (bs:=bs) (bm:=.ref Ac::veMro) (hdct:=hdct) (sn:=sn) (sub:=sub) (ab:=ab) (col:=col) (dd:=dd) (k0:=k0) (k1:=k1) (k2:=k2) (k3:=k3) (k5:=k5)
  PySem.F.excBase_ValueError (mN:=mN) (by rfl) (I.ok.hd hc) hpl2 hi (q5b I hg hm ⟨rfl,?_⟩ hdb)
 have key:=ha cpos pins s σ H _ I h;rw[he]at key |-
 refine Calls.evalArgs_plain (wpAny_mono key (fun us s1 ⟨vs,H1,I1,r,hz,q⟩=>?_) fun _ _ y=>y)
 obtain⟨nm',qn',N',bs',hdct',sn',sub',ab',col',dd',k0',k1',k2',k3',k5',mN',hC1',hN',hi',T'⟩:=q8g I1.kIn hC;have kk:∀b o,X.base.get? b=some o->s1.heap.get? b=some o:=I1.bk
 have hCb:X.base.get? C=s1.heap.get? C:=by
  obtain⟨_,_,_,_,_,_,_,_,_,_,_,_,_,_,_,_,z,_⟩:=q8g I.ok.mod.kin hC;rw[z];exact(kk _ _ z).symm
 have hCs:s.heap.get? C=s1.heap.get? C:=by
  obtain⟨_,_,_,_,_,_,_,_,_,_,_,_,_,_,_,_,z,_⟩:=q8g I.ok.mod.kin hC;rw[I.bk _ _ z];exact(kk _ _ z).symm
 have hC2:s1.heap.get? C=some (excClassObj nm qn C N bs (.ref Ac::veMro) hdct sn sub ab col dd k0 k1 k2 k3 k5 "ValueError.__new__"):=hCs ▸ hC1;rw[hC2]at hC1';cases hC1';have em:mN' "__init__"=none:=hi'
 have hN2:s1.heap.Ns N mN:=by
  obtain⟨o1,es1,ep1,a1,a2,a3,a4⟩:=hN;obtain⟨_,_,N3,_,_,_,_,_,_,_,_,_,_,_,_,m3,z3,n3,_,_⟩:=q8g I.ok.mod.kin hC;have z4:=I.bk _ _ z3;rw[hC1]at z4;cases z4;obtain⟨o5,es5,ep5,b1,b2,b3,b4⟩:=n3;have c1:=I.bk _ _ b1;rw[a1]at c1;cases c1;exact⟨_,es1,ep1,I1.bk _ _ b1,a2,a3,a4⟩
 exact⟨rfl,by rw[<- r.length];exact hz,hC2,hN2,T',fun h' ea hme=>hx pins σ H1 s1 ea (.ref C) us h' I1 hme q⟩
end
noncomputable def excO(e:Addr)(cls:Value):HO:=.ext fun h=>∃o vs,h.get? e=some o/\o.cls=cls/\o.data=.fields vs
theorem y4w{e:Addr}(x:∃o vs,h.get? e=some o/\o.cls=cls/\o.data=.fields vs):ObjOk P w H h e (excO e cls):=by
 obtain⟨o,vs,h1,h2,h3⟩:=x;refine⟨⟨o,vs,h1,h2,h3⟩,⟨o,h1⟩,fun g1 g2 ⟨o',vs',q1,q2,q3⟩ k=>⟨o',vs',k o' q1,q2,q3⟩⟩
noncomputable abbrev Cx.tr(X:Cx)(pn:List (Addr×Obj))(xe:Value->Shared->Prop):Cx:={X with pn:=pn,xe:=xe}
noncomputable abbrev Cx.hn(X:Cx)(e:Addr):Cx:={X with A:=X.A.mark (some (.ref e)),calm:=false,xe:=fun _ _=>False}
section
variable{pins':List (Addr×Obj)}{xe:Value->Shared->Prop}{e:Addr}
theorem Cx.Ok.tr(ok:X.Ok)(pn:List (Addr×Obj))(xe:Value->Shared->Prop):(X.tr pn xe).Ok:=
 ⟨ok.mod,ok.kind,ok.glob,ok.blt,ok.above,ok.inj,ok.has,ok.cab,ok.hd,ok.frames,ok.stk,ok.exf,ok.bs,ok.bsz,ok.noex,ok.exfs,ok.funs,ok.frf,ok.tab⟩
theorem Cx.Ok.untr{pn:List (Addr×Obj)}(ok:(X.tr pn xe).Ok):X.Ok:=
 ⟨ok.mod,ok.kind,ok.glob,ok.blt,ok.above,ok.inj,ok.has,ok.cab,ok.hd,ok.frames,ok.stk,ok.exf,ok.bs,ok.bsz,ok.noex,ok.exfs,ok.funs,ok.frf,ok.tab⟩
theorem Cx.Ok.hn(ok:X.Ok)(e:Addr):(X.hn e).Ok:=
 ⟨ok.mod,ok.kind,ok.glob,ok.blt,ok.above,ok.inj,ok.has,ok.cab,(fun z=>nomatch z),ok.frames,ok.stk,ok.exf,ok.bs,ok.bsz,ok.noex,ok.exfs,ok.funs,ok.frf,ok.tab⟩
theorem Inv.tr(I:Inv X pins σ H s)(xe:Value->Shared->Prop):Inv (X.tr (X.pn++pins) xe) [] σ H s:=
 ⟨I.ok.tr _ xe,I.os,I.bare,I.base,I.loc,I.cell,I.free,I.freeC,fun p hp=>I.pin p (by simpa using hp),I.hok,I.len⟩
theorem Inv.untr(I:Inv (X.tr (X.pn++pins) xe) pins' σ H s):Inv X pins σ H s:=
 ⟨I.ok.untr,I.os,I.bare,I.base,I.loc,I.cell,I.free,I.freeC,fun p hp=>I.pin p (w3d _ hp),I.hok,I.len⟩
theorem Inv.hn(I:Inv X pins σ H s)(e:Addr):Inv (X.hn e) pins σ H s:=
 ⟨I.ok.hn e,I.os,I.bare,I.base,I.loc,I.cell,I.free,I.freeC,I.pin,I.hok,I.len⟩
theorem Inv.unhn(ok:X.Ok)(I:Inv (X.hn e) pins σ H s):Inv X pins σ H s:=
 ⟨ok,I.os,I.bare,I.base,I.loc,I.cell,I.free,I.freeC,I.pin,I.hok,I.len⟩
theorem Inv.forget{h':Heap}{m':Str->Option Value}{t:Nat}(I:Inv X pins σ H s)(hs:Heap.SameBut X.env.locals s.heap h')(hn':h'.Ns X.env.locals m'):Inv X pins (List.replicate X.N.length none) H {s with heap:=h',toks:=t}:=by
 obtain⟨m,hn,hl⟩:=id I.loc;obtain⟨oL,_,_,hoL,_⟩:=id hn
 have tracked:HOk X.prog X.w H h':=fun b ob e=>by
  refine(I.hok b ob e).stay (fun c w' hc q=>(hs.2 c ?_).trans q) (fun _ q=>q) fun _ _ _ q=>q
  rintro rfl;rcases hc with rfl|hc
  ·rw[I.free]at e;cases e
  ·rw[I.free]at hc;cases hc
 refine⟨I.ok,I.os,I.bare,⟨fun b o e n hb hx=>?_,fun b o e n hb hx=>?_,I.base.free,fun b o e hx=>?_,I.base.tups,I.base.frzs,I.base.tbls⟩,⟨m',hn',fun j y v' e1 e2 e3=>?_⟩,fun y c e=>?_,I.free,I.freeC,fun p hp=>?_,tracked,by simp⟩
 ·exact(hs.2 b (w0p (w0m (Heap.lt_size e) I.ok.above))).trans (I.base.keep b o e n hb hx)
 ·obtain⟨sl,e1⟩:=I.base.slot b o e n hb hx;exact⟨sl,(hs.2 b (w0p (w0m (Heap.lt_size e) I.ok.above))).trans e1⟩
 ·obtain⟨o',e1⟩:=I.base.there b o e hx;exact⟨o',(hs.2 b (w0p (w0m (Heap.lt_size e) I.ok.above))).trans e1⟩
 ·rw[w2a]at e2;split at e2<;>cases e2
 ·obtain⟨w',z⟩:=I.cell y c e;exact⟨w',z.sameBut hs (I.cne y c e)⟩
 ·obtain⟨e,n,ne,nf,d⟩:=I.pin p hp;exact⟨(hs.2 p.1 ne).trans e,n,ne,nf,d⟩
theorem Fly.un{h2 h3:Heap}{B:Heap}(un:Un (frs l) [] H H' h1 h2)(fly:Fly l H H' h1 h2 e cls B)(fl:Heap.FlyingW B l e cls a0 h3)(up:h2.UpToSlots h3):Un (frs l) [] H H' h1 h3:=by
 obtain⟨a1,fl1⟩:=fly.fl;have ex0:∀b:Addr,b∉([]:List Addr):=fun b z=>nomatch z
 have slot:∀b o,h1.get? b=some o->H b=none->b∈frs l->∃sl,h3.get? b=some {o with slots:=sl}:=fun b o q n hb=>by
  obtain⟨sl,e1⟩:=un.slot b o q n hb (ex0 b);obtain⟨_,o2,e2,nd⟩:=fl1.2.2.1.mem hb;rw[e1]at e2;cases e2;obtain⟨sl',e3⟩:=up b _ e1 nd;exact⟨sl',e3⟩
 refine⟨fun b o q n hb hx=>fl.1 b o (fly.old b o q n hb),fun b o q n hb hx=>slot b o q n hb,un.free,fun b o q hx=>?_,un.tups,un.frzs,un.tbls⟩
 rcases fly.all b o q with hb|⟨o',z⟩
 ·obtain⟨_,o2,e2,nd⟩:=fl.2.2.1.mem hb;exact⟨o2,e2⟩
 ·exact⟨o',fl.1 b o' z⟩
theorem Fly.hok{h2 h3:Heap}{B:Heap}(hok:HOk P w H' h2)(fly:Fly l H H' h1 h2 e cls B)(fl:Heap.FlyingW B l e cls a0 h3):HOk P w H' h3:=fun a o q=>by
 refine(hok a o q).stay (fun b u hb z=>?_) (fun _ z=>z) fun _ _ _ z=>z
 rcases hb with rfl|hb
 ·exact fl.1 _ _ (fly.trk b o u q z)
 ·exact fl.1 _ _ (fly.trk b _ u hb z)
theorem Fly.free{h2:Heap}{B:Heap}(hok:HOk P w H' h2)(fly:Fly l H H' h1 h2 e cls B):H' e=none:=by
 obtain⟨a0,fl⟩:=fly.fl;cases q:H' e with
 |none=>rfl
 |some u=>
  obtain⟨o,z⟩:=(hok e u q).get;have:=fly.trk e u o q z;rw[fl.2.1]at this;cases this
theorem Un.taken{fs:List Addr}{h3:Heap}{o:HO}(un:Un fs [] H H' h1 h3)(new:h1.get? e=none)(fr:H' e=none):Un fs [] H (upd H' e o) h1 h3:=by
 refine⟨un.keep,un.slot,fun b ob q n hx=>?_,un.there,fun b xs q=>?_,fun b ob u q=>?_,fun b ps q=>?_⟩
 ·have:b≠e:=fun z=>by rw[z,new]at q;cases q
  rw[q0d this];exact un.free b ob q n hx
 ·have z:=un.tups b xs q;rw[q0d (q0m z fr)];exact z
 ·have z:=un.frzs b ob u q;rw[q0d (q0m z fr)];exact z
 ·obtain⟨more,z⟩:=un.tbls b ps q;exact⟨more,by rw[q0d (q0m z fr)];exact z⟩
theorem HOk.taken{o:HO}(hok:HOk P w H' h)(fr:H' e=none)(new:ObjOk P w (upd H' e o) h e o):HOk P w (upd H' e o) h:=fun b u q=>by
 by_cases hb:b=e
 ·subst hb;rw[q0h]at q;cases q;exact new
 ·rw[q0d hb]at q;exact(hok b u q).stay (fun _ _ _ z=>z) (fun c z=>by rw[q0d (q0m z fr)];exact z) fun c xs _ z=>by rw[q0d (q0m z fr)];exact z
end
def tTry(K:PySem.W.Frag)(c:Addr)(i n:Nat)(tb:(St->XK)->TS)(th:TS):TS:=fun D σ H=>
 tb (fun σ' cls _ H'=>exmOne K cls (.ref c)=some true/\∀e,H' e=none ->
  th {nx:=fun _ H''=>D.nx (List.replicate n none) H'',rt:=D.rt,bk:=fun _ H''=>D.bk (List.replicate n none) H'',ct:=fun _ H''=>D.ct (List.replicate n none) H''} (σ'.set i (some (.ref e))) (upd H' e (excO e cls))) D σ H
theorem y80{body suite:List Stmt}{b₀:Stmt}{c n:Str}{i:Nat}{Cc:Addr}{np hpos:Pos}{tb:(St->XK)->TS}{th:TS}
  (hg:Gl X c)(hm:X.mg c=some (.ref Cc))(hN:X.N.Nodup)(hi:X.N[i]?=some n)(hx:X.env.scope.names.lookup n=some .local)
  (hb:∀(EE:L2.St->XK)(pn:List (Addr×Obj))(xe:Value->Shared->Prop),PassX (CX1 X.prog X.w) (X.tr pn xe) EE->PSs (X.tr pn xe) body (tb EE))
  (hh:∀e:Addr,PSs (X.hn e) (b₀::suite) th)
  (hs:X.stack=X.env::X.outer:=by rfl)(hf:X.env.frame=some X.env.locals:=by rfl)(hdb:(c==("__debug__":Str))=false:=by decide):
  PS X (.Try body [.ExceptHandler (some (.Name c np)) (some n) (b₀::suite) hpos] [] [] pos) (tTry X.K Cc i X.N.length tb th):=by
 intro pins s σ H D I h;refine wpAny_Try_except (wpAny_mono (hb _ (X.pn++pins) _ ?pass [] s σ H D (I.tr _) h) (fun f s1 q=>?_) fun _ _ z=>z)
 case pass=>
  intro pins' σ' H1 s1 ev s2 I1 hx1;obtain⟨e,cls,H2,B,rfl,hos,hgn,un,hok,fly,hmt,hE⟩:=hx1;have I0:Inv X pins σ' H1 s1:=I1.untr;have un:Un (frs X.stack) [] H1 H2 s1.heap s2.heap:=un;have fly:Fly X.stack H1 H2 s1.heap s2.heap e cls B:=fly;have hfr:=fly.free hok;obtain⟨a0,fl⟩:=fly.fl;have fl':Heap.FlyingW B (X.env::X.outer) e cls a0 s2.heap:=hs ▸ fl;have fr':X.A.frames=some (X.env::X.outer):=hs ▸ I0.ok.frames;have noch:∀b∈([]:List Addr),(b∈X.ex\/X.s₀.heap.objs.size<=b)/\b≠X.env.locals/\(∀x c,X.env.cells.lookup x=some c->c≠b)/\∀p∈X.pn++pins,p.1≠b:=fun b z=>nomatch z
  have land:∀h5 tk,Heap.FlyingW B (X.env::X.outer) e cls a0 h5->s2.heap.UpToSlots h5->Inv X pins σ' H2 {s2 with heap:=h5,toks:=tk}:=fun h5 tk fl5 up5=>by
   have fl5':Heap.FlyingW B X.stack e cls a0 h5:=hs.symm ▸ fl5;exact I0.call' (s':={s2 with heap:=h5,toks:=tk}) (ch:=[]) hos (fly.un un fl5' up5) (fly.hok hok fl5') hgn noch
  refine wpAny_looks_onW (base:=B) fr' hf fl' fun h₄ held up₄=>?_
  refine wpAny_landsW held fun h₅ fl₅ up₅'=>?_
  have up₅:s2.heap.UpToSlots h₅:=up₄.trans up₅';have I5:=land h₅ s2.toks fl₅ up₅;refine wpAny_handleBy_cons (codeAny_handlers_test ?_) (by intro q;cases q);refine q5b (X:=X.hn e) (I5.hn e) hg hm ?_ hdb;obtain⟨ob,hob,hoc⟩:=fl₅.there;have LT:PySem.W.Looks (model X.prog X.w) h₅ (typeOf (.ref e)) cls:=hoc ▸ (PySem.W.Looks.ld hob).andThen .now;refine(PySem.W.exm_one (M:=model X.prog X.w) I5.kIn LT hmt).at ?_;show codeAny _ _ _ _ _;refine codeAny_handlers_suite_as ?_;refine lands_againW fl₅ fun h₆ fl₆ up₆'=>?_
  have up₆:s2.heap.UpToSlots h₆:=up₅.trans up₆';obtain⟨oe,ws,hoe,hoec,hoed,_⟩:=fl₆.first
  have fl6':Heap.FlyingW B X.stack e cls a0 h₆:=hs.symm ▸ fl₆
  have I7:Inv X pins σ' (upd H2 e (excO e cls)) {s2 with heap:=h₆}:=
   I0.call' (s':={s2 with heap:=h₆}) (ch:=[]) hos ((fly.un un fl6' up₆).taken fly.new hfr) ((fly.hok hok fl6').taken hfr (y4w ⟨oe,ws,hoe,hoec,hoed⟩)) hgn noch
  refine q9l (X:=X.hn e) (I7.hn e) hN hi (.inl hx) (v:=.ref e) rfl (fun s8 I8=>?_) (.inr hx)
  refine wpAny_mono (hh e pins s8 _ _ _ I8 (hE e hfr)) (fun f s9 q=>?_) fun _ _ z=>z.elim
  show wpAny _ _ _ _ _ _
  have go:∀{σ9:St}{H9:Hp},Inv (X.hn e) pins σ9 H9 s9->∀R:Unit->Shared->Prop,(∀s',Inv X pins (List.replicate X.N.length none) H9 s'->R () s')->wpAny (model X.prog X.w) X.A (do bindName X.env n .none;unbindBehindTheSuite X.env n hpos) R X.xe s9:=fun {σ9 H9} I9 R hR=>by
   obtain⟨m9,hn9,_⟩:=I9.loc;refine wpAny_nameGoes (env:=X.env) hx hn9 (by rw[I0.ok.kind];rfl) fun h' m' hn' hsb=>hR _ ?_
   exact(I9.unhn I0.ok).forget hsb hn'
  cases f with
  |next=>obtain⟨σ9,H9,I9,q⟩:=q;exact go I9 _ fun s' I'=>⟨_,H9,I',q⟩
  |brk=>obtain⟨σ9,H9,I9,q⟩:=q;exact go I9 _ fun s' I'=>⟨_,H9,I',q⟩
  |cont=>obtain⟨σ9,H9,I9,q⟩:=q;exact go I9 _ fun s' I'=>⟨_,H9,I',q⟩
  |ret u=>obtain⟨v,σ9,H9,I9,r,q⟩:=q;exact go I9 _ fun s' I'=>⟨v,_,H9,I',r,q⟩
 ·cases f with
  |next=>obtain⟨σ',H',I',q⟩:=q;exact wpAny_execs_nil ⟨σ',H',I'.untr,q⟩
  |brk=>obtain⟨σ',H',I',q⟩:=q;exact⟨σ',H',I'.untr,q⟩
  |cont=>obtain⟨σ',H',I',q⟩:=q;exact⟨σ',H',I'.untr,q⟩
  |ret u=>obtain⟨v,σ',H',I',r,q⟩:=q;exact⟨v,σ',H',I'.untr,r,q⟩
structure RoomH(k:Nat)(A:Around):Prop where
 dp:A.depth+3*k+5<recursionLimit
 un:A.units+16*k+200<cLine
 gd:A.guards=some []
theorem Room.hm{k:Nat}(r:Room k A)(v:Option Value):RoomH k (A.mark v):=⟨r.dp,r.un,r.gd⟩
theorem RoomH.un0{k:Nat}(r:RoomH k A):Room k {A with handled:=none}:=⟨rfl,r.dp,r.un,r.gd⟩
theorem RoomH.deeper{k:Nat}(r:RoomH (k+1) A)(env:Env):RoomH k (A.deeper env):=by
 have z:=r.un0.deeper env;exact⟨z.dp,z.un,z.gd⟩
structure FnOkH(P:Program)(w:World)(K:PySem.W.Frag)(mg:Str->Option Value)(base:Heap)(k:Nat)(f:Addr)(fd:FuncData)(ps:List Str)(sp:Sp):Prop where
 len:∀vs H Q E,sp vs H Q E->vs.length=ps.length
 run:∀(A:Around)(outer:List Env)(s:Shared)(H:Hp)(args:Args)(us:List Value)(vs:List V)(Q:VK),RoomH k A->Env0 P w K mg base A outer s H->BindsTo s fd args (ps.zip us)->Vals vs us->sp vs H Q E0 ->
  codeAny (model P w) A (.call (.ref f) args) (CR CX0 outer P w H s Q E0) s
noncomputable abbrev cxH(P:Program)(w:World)(K:PySem.W.Frag)(mg:Str->Option Value)(base:Heap)(N:List Str)(qual:Str)(scope:Scope)(f:Addr)(cd:Value)(A:Around)(outer:List Env)(s:Shared)(H:Hp):Cx:=
 {cxOf CX0 P w K mg base N qual scope f cd A outer s H E0 with calm:=false,xe:=fun _ _=>False}
theorem Fun.okH{k:Nat}(F:Fun K x qual st f fd)(S:FnScope N ps (defScope st))(len:∀vs H Q E,sp vs H Q E->vs.length=ps.length)
  (hbody:∀(cdv:Value)(A:Around)(outer:List Env)(s:Shared)(H:Hp)(vs:List V)(Q:VK),RoomH k (A.deeper (envOfC qual (defScope st) s.heap.objs.size f cdv))->sp vs H Q E0 ->
   ∃t,PSs (cxH P w K mg base N qual (defScope st) f cdv A outer s H) (defBody st) t/\t {nx:=fun _ H'=>Q .non H',rt:=Q} (start N vs) H):FnOkH P w K mg base (k+1) f fd ps sp:=by
 obtain⟨oc,od,kV,doc,pm,an,cdv,ct,osl,rfl,lk,hcd⟩:=F.ex;refine⟨len,fun A outer s H args us vs Q hr e0 hb r hsp=>?_⟩
 have hl:=len _ _ _ _ hsp;have KX:K.In s.heap:=e0.mod.kin.keeps fun b o e=>(e0.bs b o e).1
 have lim:s.heap.NoLimit:=e0.mod.nolimit.keeps fun b o e=>(e0.bs b o e).1
 have hkind:∀y∈ps.zip us,(defScope st).names.lookup y.1=some .local\/((defScope st).names.lookup y.1=some .cell/\((cellsFrom (s.heap.objs.size+1) (defScope st).names []).lookup y.1).isSome=true):=fun⟨n,v⟩ hy=>by
  rcases S.par n (w2s hy).1 with q|q
  ·exact .inl q
  ·exact .inr ⟨q,cellsFrom_some _ _ _ (.inl q)⟩
 refine codeAny_call_function (by have:=hr.dp;omega) (KX _ _ lk) rfl S.co S.gen rfl (PySem.W.codeRec_of KX hcd) (hb _ _ _ _ ?_)
 refine wpAny_newFunctionEnv_cells S.kind hkind fun env he s1 x=>?_
 subst he;refine⟨lim.keeps x.toInCall.keep,codeAny_func ?_⟩
 obtain⟨t,ht,hq⟩:=hbody cdv A outer s H vs Q (hr.deeper (envOfC qual (defScope st) s.heap.objs.size f cdv)) hsp;have e0':Env0 P w K mg base {A with handled:=none} outer s H:=⟨e0.frames,e0.mod,e0.bs,e0.bsz,e0.funs,e0.frf,e0.hok,e0.bare,e0.tab⟩
 have I0:Inv (cxOf CX0 P w K mg base N qual (defScope st) f cdv {A with handled:=none} outer s H E0) [] (start N vs) H s1:=x18 S rfl e0' hl r x;have ok0:=I0.ok
 have I:Inv (cxH P w K mg base N qual (defScope st) f cdv A outer s H) [] (start N vs) H s1:=
  ⟨⟨ok0.mod,ok0.kind,ok0.glob,ok0.blt,ok0.above,ok0.inj,ok0.has,ok0.cab,(fun z=>nomatch z),Around.frames_deeper e0.frames,ok0.stk,ok0.exf,ok0.bs,ok0.bsz,ok0.noex,ok0.exfs,ok0.funs,ok0.frf,ok0.tab⟩,
   I0.os,I0.bare,I0.base,I0.loc,I0.cell,I0.free,I0.freeC,I0.pin,I0.hok,I0.len⟩
 refine wpAny_mono (ht [] s1 (start N vs) H _ I hq) (fun fl s' hs=>?_) fun e s' hs=>hs.elim
 have fin:∀{σ':St}{H':Hp}{v:V}{u:Value},Inv (cxH P w K mg base N qual (defScope st) f cdv A outer s H) [] σ' H' s'->RelV v u->Q v H'->CE outer P w H s Q u s':=
  fun {σ' H' v u} J rv q=>⟨v,H',J.os,J.bare,J.base,J.hok,rv,q⟩
 cases fl with
 |ret u=>
  obtain⟨v,σ',H',J,rv,q⟩:=hs;exact fin J rv q
 |next=>
  obtain⟨σ',H',J,q⟩:=hs;exact fin (v:=V.non) (u:=Value.none) J rfl q
 |brk=>
  obtain⟨_,_,_,q⟩:=hs;exact False.elim q
 |cont=>
  obtain⟨_,_,_,q⟩:=hs;exact False.elim q
section
variable{k:Nat}{p:Pos}{t:TA}
theorem y1r(F:FnOkH X.prog X.w X.K X.mg X.base k f fd ps sp)(hr:RoomH k X.A)(hg:Gl X x)(hm:X.mg x=some (.ref f))(hk:keepIn X.K (.ref f)=true)(hb:Binds X.K fd ps [])
  (ha:PA X (e::es) t)(hdb:(x==("__debug__":Str))=false:=by decide)(he:starEach (e::es) X.env=(false,eval e X.env)::starEach es X.env:=by rfl)(hpl:(backTo pos (starEach es X.env)).any (·.1)=false:=by rfl):
  PE X (.Call (.Name x p) (e::es) [] pos) (tCall sp [] E0 t):=by
 intro pins s σ H Q I h;refine wpAny_Call_Name_kw (q5b I hg hm ?_ hdb);refine callWith_K (h₀:=X.base) I.ok.mod.kin hk (thn (ha pos pins s σ H _ I h) fun us s1 ⟨vs,H1,I1,r,q⟩=>⟨I1.kIn,?_⟩) he hpl
 have q':sp (vs++[]) H1 Q E0:=q;have r2:Vals (vs++[]) (us++[]):=r.append .nil;have hl:(us++[]).length=ps.length:=by rw[<- r2.length];exact F.len _ _ _ _ q'
 refine wpAny_call (codeAny_mono (F.run X.A X.stack s1 H1 ⟨us,[]⟩ (us++[]) (vs++[]) Q hr I1.env0 (hb s1 us I1.kIn hl) r2 q') fun r s' hq=>?_)
 cases r with
 |error e=>exact False.elim hq
 |ok fl=>
  cases fl with
  |ret u=>exact I1.after hq
  |next=>exact False.elim hq
  |brk=>exact False.elim hq
  |cont=>exact False.elim hq
end
noncomputable abbrev Cx.cp(X:Cx)(Nc:List Str)(scope:Scope)(cl:List (Str×Addr))(C:Addr)(s₀:Shared)(H₀:Hp)(ex:List Addr):Cx:=
 {X with N:=Nc,s₀:=s₀,H₀:=H₀,env:=compEnvC scope cl C X.env,outer:=X.stack,ex:=ex,fn:=fun _=>false,pn:=[],xe:=fun _ _=>False}
theorem q6h:∀(names:List (Str×NameKind))(acc:List (Str×Addr)),(∀x∈names,x.2=.free->∃c,env.cells.lookup x.1=some c) ->
  ∃cl,(forIn names acc fun(x:Str×NameKind) (r:List (Str×Addr))=>(if(x.2==NameKind.free)=true then(cellOf env x.1 >>= fun a=>pure (ForInStep.yield ((x.1,a)::r)))else pure (ForInStep.yield r):Sem (ForInStep (List (Str×Addr)))))=pure cl /\
   (∀x c,cl.lookup x=some c->acc.lookup x=some c\/env.cells.lookup x=some c)/\(∀x,((x,NameKind.free)∈names\/(acc.lookup x).isSome=true)->(cl.lookup x).isSome=true)
 |[],acc,_=>⟨acc,rfl,fun x c h=>.inl h,fun x h=>h.elim (fun z=>nomatch z) id⟩
 |(n,k)::r,acc,h=>by
  by_cases hk:k=.free
  ·subst hk;obtain⟨c,hc⟩:=h (n,.free) w1m rfl;obtain⟨cl,e1,e2,e3⟩:=q6h r ((n,c)::acc) fun x hx=>h x (w1b _ hx)
   refine⟨cl,?_,fun x d hd=>?_,fun x hx=>?_⟩
   ·rw[w3s];have:cellOf env n=pure c:=by unfold cellOf;rw[hc]
    simp only[beq_self_eq_true,if_true,this,pure_bind];exact e1
   ·rcases e2 x d hd with z|z
    ·rw[w0z]at z
     by_cases hx:(x==n)=true
     ·rw[hx]at z;have:x=n:=by simpa using hx
      subst this;cases z;exact .inr hc
     ·rw[w1j.mpr hx]at z;exact .inl z
    ·exact .inr z
   ·refine e3 x ?_;rcases hx with z|z
    ·rcases w0q.mp z with y|y
     ·cases y;exact .inr (by rw[w0z];simp)
     ·exact .inl y
    ·refine .inr ?_;rw[w0z]
     by_cases hx:(x==n)=true
     ·rw[hx];rfl
     ·rw[w1j.mpr hx];exact z
  ·obtain⟨cl,e1,e2,e3⟩:=q6h r acc fun x hx=>h x (w1b _ hx)
   refine⟨cl,?_,e2,fun x hx=>e3 x ?_⟩
   ·rw[w3s];have:(k==NameKind.free)=false:=by simpa using hk
    simp only[this,w1l,if_false,pure_bind];exact e1
   ·rcases hx with z|z
    ·rcases w0q.mp z with y|y
     ·cases y;exact absurd rfl hk
     ·exact .inl y
    ·exact .inr z
theorem q57{scope:Scope}(h:∀x∈scope.names,x.2=.free->∃c,env.cells.lookup x.1=some c):
  ∃cl,closureFor scope env=pure cl/\(∀x c,cl.lookup x=some c->env.cells.lookup x=some c)/\∀x,(x,NameKind.free)∈scope.names->∃c,cl.lookup x=some c:=by
 obtain⟨cl,e1,e2,e3⟩:=q6h scope.names [] h;refine⟨cl,?_,fun x c hc=>(e2 x c hc).resolve_left (fun z=>nomatch z),fun x hx=>w3n.mp (e3 x (.inl hx))⟩
 unfold closureFor
 first
  |exact e1
  |(rw[e1];rfl)
  |(simp only[e1];rfl)
theorem q8h{env : Env} : ∀ {names : List (Str × NameKind)} {x : Str}, (∀ y ∈ names, y.2 ≠ .cell) ->
    ((names.map fun (n, k) => if (k == NameKind.free && env.scope.kind == .function && env.kindOf n == some .cell) then (n, NameKind.cell) else (n, k)).lookup x = some .cell \/
     (names.map fun (n, k) => if (k == NameKind.free && env.scope.kind == .function && env.kindOf n == some .cell) then (n, NameKind.cell) else (n, k)).lookup x = some .free) -> (x, NameKind.free) ∈ names
  | [], x, _, h => by rcases h with h | h <;> cases h
  | (n, k) :: r, x, hc, h => by
    have ih := @q8h env r x fun y hy => hc y (w1b _ hy)
    rw [w0i] at h;dsimp only at h
    by_cases hx : (x == n) = true
    . have e : x = n := by simpa using hx
      subst e
      by_cases hk : k = .free
      . subst hk; exact w1m
      . exfalso
        have hb : (k == NameKind.free) = false := by simpa using hk
        simp only [hb, Bool.false_and, w1l, if_false, w0z, hx] at h;rcases h with h | h
        . exact hc (x, k) w1m (Option.some.inj h)
        . exact hk (Option.some.inj h)
    . refine w1b _ (ih ?_)
      have hb : (x == n) = false := w1j.mpr hx
      by_cases hq : (k == NameKind.free && env.scope.kind == .function && env.kindOf n == some .cell) = true
      . rw [if_pos hq] at h
        simpa only [w0z, hb] using h
      . rw [if_neg hq] at h
        simpa only [w0z, hb] using h
theorem x2b{prog:Program}{R:Result->Shared->Prop}{elt target iter:Expr}{scope:Scope}{it acc:Value}(I:Nat->Shared->Prop)
  (turn:∀n s,I n s->wpAny (model prog w) A (pyNext it) (fun r s1=>match r with
   |none=>R (.ok .next) s1
   |some v=>wpAny (model prog w) A (letOwnedTupleGo target it v) (fun _ s2=>wpAny (model prog w) A (assign target env v) (fun _ s3=>
     wpAny (model prog w) A (forIn ifs true fun c r=>if r=true then do let ok <- isTrue c env (eval c env);pure (ForInStep.yield ok)else pure (ForInStep.yield r)) (fun ok s4=>
      if ok=true then wpAny (model prog w) A (eval elt env) (fun x s5=>wpAny (model prog w) A (call (.builtin "list.append") [acc,x]) (fun _ s6=>∃m,m<n/\I m s6) (fun _ _=>False) s5) (fun _ _=>False) s4
      else ∃m,m<n/\I m s4) (fun _ _=>False) s3) (fun _ _=>False) s2) (fun _ _=>False) s1) (fun _ _=>False) s)
  (n:Nat)(h:I n s):codeAny (model prog w) A (.compLoop (.ListComp elt [⟨target,iter,ifs,0⟩] scope pos) 0 it acc env) R s:=by
 refine codeAny_loop rfl I (fun n s hI=>?_) n h
 show wpAny _ A ((compTurn (.ListComp elt [⟨target,iter,ifs,0⟩] scope pos) 0 it acc env).onRaise (fun x=>do noteFrame x env;theTreesLotGoes x)) _ _ s
 refine wpAny_noted ?_;rw[compTurn_list];refine wpAny_bind (wpAny_standAt (wpAny_bind (wpAny_mono (turn n s hI) (fun r s1 h1=>?_) fun _ _ z=>z.elim)))
 cases r with
 |none=>exact wpAny_pure h1
 |some v=>
  refine wpAny_bind (wpAny_mono h1 (fun _ s2 h2=>?_) fun _ _ z=>z.elim)
  refine wpAny_bind (wpAny_mono h2 (fun _ s3 h3=>?_) fun _ _ z=>z.elim)
  refine wpAny_bind (wpAny_mono h3 (fun ok s4 h4=>?_) fun _ _ z=>z.elim)
  cases ok with
  |false=>exact wpAny_pure ⟨rfl,h4⟩
  |true=>exact wpAny_bind (wpAny_bind (wpAny_mono h4 (fun x s5 h5=>wpAny_bind (wpAny_mono h5 (fun _ s6 h6=>wpAny_pure (wpAny_pure ⟨rfl,h6⟩)) fun _ _ z=>z.elim)) fun _ _ z=>z.elim))
noncomputable def pj(js:List Nat)(σ:St):St:=js.map fun j=>(σ[j]?).getD none
theorem y81{i:Nat}(h:(pj js σ)[i]?=some (some v)):∃j,js[i]?=some j/\σ[j]?=some (some v):=by
 unfold pj at h;rw[w0h]at h;cases e:js[i]? with
 |none=>rw[e]at h;cases h
 |some j=>
  rw[e]at h;have h:(σ[j]?).getD none=some v:=Option.some.inj h;refine⟨j,rfl,?_⟩;cases e2:σ[j]? with
  |none=>rw[e2]at h;cases h
  |some z=>rw[e2]at h;rw[show z=some v from h]
def PTs(X:Cx)(ifs:List Expr)(t:TT):Prop:=
 ∀(pins:List (Addr×Obj))(s:Shared)(σ:St)(H:Hp)(Q:Bool->Hp->Prop),Inv X pins σ H s->t σ H Q ->
  wpAny (model X.prog X.w) X.A (forIn ifs true fun c r=>if r=true then do let ok <- isTrue c X.env (eval c X.env);pure (ForInStep.yield ok)else pure (ForInStep.yield r)) (TP X pins σ Q) X.xe s
def tYes:TT:=fun _ H Q=>Q true H
theorem y4x:PTs X [] tYes:=fun pins s σ H Q I h=>wpAny_tests_nil ⟨H,I,h⟩
theorem y4y{c:Expr}{t:TT}(h:PT X c t):PTs X [c] t:=fun pins s σ H Q I hq=>wpAny_tests_one (h pins s σ H Q I hq)
def Kp(σ σ':St):Prop:=∀(i:Nat) v,σ[i]?=some (some v)->σ'[i]?=some (some v)
theorem Kp.one:Kp (List.replicate 1 none++σ) (some v::σ):=fun i u h=>by
 cases i with
 |zero=>cases h
 |succ i=>exact h
theorem Kp.two{u:V}:Kp (List.replicate 2 none++σ) (some v::some u::σ):=fun i w h=>by
 match i,h with
 |0,h=>cases h
 |1,h=>cases h
 |i+2,h=>exact h
def tComp(wi:TI)(nl:Nat)(js:List Nat)(g:TG)(tc:TT)(te:TE):TE:=fun σ H Q=>wi σ H fun J H1=>∀D,H1 D=none->∃W:Nat->Nat->Hp->Prop,(∃m,W 0 m (upd H1 D (.lst [])))/\∀i m H2,W i m H2 ->
 (J.stop i H2/\Q (.ref D) H2)\/(J.go i H2/\∀x H3,J.yld i H2 x H3->g x (List.replicate nl none++pj js σ) H3 fun σ4 H4=>Kp (List.replicate nl none++pj js σ) σ4/\tc σ4 H4 fun b H5=>
  if b=true then te σ4 H5 fun y H6=>∃ys,H6 D=some (.lst ys)/\ys.length<sizeLine/\∃m',m'<m/\W (i+1) m' (upd H6 D (.lst (ys++[y])))else ∃m',m'<m/\W (i+1) m' H5)
section
variable{elt target iter:Expr}{scope:Scope}{wi:TI}{g:TG}{tc:TT}
theorem x3t{Nl Nf:List Str}{fp:List Addr}{cl:List (Str×Addr)}{tk:Nat}{mC:Str->Option Value}
  (I:Inv X pins σ H s)(hfp:∀b∈fp,FpOk X pins H b)(hob:∀b∈fp,∃o,s.heap.get? b=some o/\∀v,o.data≠.cell v)
  (hk:scope.kind=.function)(hcell:∀y∈scope.names,y.2≠.cell)(hcl:∀x c,cl.lookup x=some c->X.env.cells.lookup x=some c)(hcf:∀x,(x,NameKind.free)∈scope.names->∃c,cl.lookup x=some c)
  (hj:∀(i j:Nat) y,Nf[i]?=some y->js[i]?=some j->X.N[j]?=some y)(hlen:js.length=Nf.length)
  (hNf:∀y∈Nf,(y,NameKind.free)∈scope.names/\Vis X.env.scope y/\X.env.kindOf y≠some .local)
  (hvis:∀y∈Nf,(relabel scope X.env).names.lookup y=some .cell\/(relabel scope X.env).names.lookup y=some .free)
  (hn:h1.Ns (s.heap.objs.size+1) mC)(hs:Heap.SameBut (s.heap.objs.size+1) ((s.heap.push {cls:=.type "list", dict:=none,data:=.seq ([]:List Value).toArray}).push {cls:=.type "dict", data:=.dict #[]}) h1):
  Inv (X.cp (Nl++Nf) scope cl (s.heap.objs.size+1) {s with heap:=s.heap.push {cls:=.type "list", dict:=none,data:=.seq ([]:List Value).toArray}} (upd H s.heap.objs.size (.lst [])) fp) [] (List.replicate Nl.length none++pj js σ) (upd H s.heap.objs.size (.lst [])) {s with heap:=h1,toks:=tk}:=by
 have fD:H s.heap.objs.size=none:=I.hok.fresh (w0e _);have up1:∀b u,s.heap.get? b=some u->(s.heap.push {cls:=.type "list", dict:=none,data:=.seq ([]:List Value).toArray}).get? b=some u:=fun b u q=>Heap.get?_push_of_some _ q
 have szp:(s.heap.push {cls:=.type "list", dict:=none,data:=.seq ([]:List Value).toArray}).objs.size=s.heap.objs.size+1:=Heap.size_push ..
 have up2:∀b u,(s.heap.push {cls:=.type "list", dict:=none,data:=.seq ([]:List Value).toArray}).get? b=some u->h1.get? b=some u:=fun b u q=>by
  have hlt:=Heap.lt_size q;rw[szp]at hlt;exact(hs.2 b (w0p hlt)).trans (Heap.get?_push_of_some _ q)
 have up:∀b u,s.heap.get? b=some u->h1.get? b=some u:=fun b u q=>up2 b u (up1 b u q)
 have ltOf:∀b o,s.heap.get? b=some o->b≠s.heap.objs.size:=fun b o q=>w0p (Heap.lt_size q)
 have fr0:∀b o,s.heap.get? b=some o->H b=none->upd H s.heap.objs.size (.lst []) b=none:=fun b o q n=>by rw[q0d (ltOf b o q)];exact n
 have hasC:∀x,((relabel scope X.env).names.lookup x=some .cell\/(relabel scope X.env).names.lookup x=some .free)->∃c,cl.lookup x=some c:=fun x hx=>hcf x (q8h hcell hx)
 have hokD:HOk X.prog X.w (upd H s.heap.objs.size (.lst [])) (s.heap.push {cls:=.type "list", dict:=none,data:=.seq ([]:List Value).toArray}):=
  I.hok.laid up1 (w0e _) ⟨w1i _,[],_,.nil,Heap.get?_push_size _ rfl⟩
 have cellK:∀x c,cl.lookup x=some c->∃v,s.heap.IsCell c v:=fun x c e=>I.cell x c (hcl x c e)
 have cellUp:∀c v,s.heap.IsCell c v->h1.IsCell c v:=fun c v ⟨o,q,r⟩=>⟨o,up _ _ q,r⟩
 refine⟨⟨I.ok.mod,hk,I.ok.glob,I.ok.blt,(by show(s.heap.push _).objs.size<=_;rw[szp];exact w0e _),fun x y c e1 e2=>I.ok.inj x y c (hcl x c e1) (hcl y c e2),fun x hx=>hasC x hx,(fun x c z=>nomatch z),I.ok.hd,I.ok.frames,.inl rfl,fun b hb=>⟨?_,fun x c e=>?_⟩,fun b o q=>?_,?_,fun b o q hb=>?_,fun b hb hb2=>?_,?_,fun b hb=>?_,(I.ok.tab.un I.base).laid fD⟩,
  rfl,I.bare,Un.kept up2,⟨mC,hn,fun i y v e1 e2 e3=>?_⟩,fun x c e=>?_,?_,fun x c e=>?_,fun p hp=>(by cases hp),hokD.kept up2,?_⟩
 ·obtain⟨o,q,_⟩:=hob b hb;exact w0p (w2c (Heap.lt_size q))
 ·exact(hfp b hb).2.2.2.2.1 x c (hcl x c e)
 ·obtain⟨q1,q2⟩:=I.bs b o q;exact⟨up1 _ _ q1,fr0 b o q1 q2⟩
 ·show X.base.objs.size<=(s.heap.push _).objs.size;rw[szp];exact Nat.le_succ_of_le (w1e I.ok.bsz I.sz)
 ·rcases(hfp b hb).2.2.2.1 with z|z
  ·exact I.ok.noex b o q z
  ·obtain⟨q1,_⟩:=I.ok.bs b o q;exact absurd (Heap.lt_size q1) (w4c.mpr z)
 ·rcases w0q.mp (I.stkSub b hb2)with z|z
  ·exact(hfp b hb).2.1 z
  ·exact(hfp b hb).2.2.1 z
 ·exact I.stack.of_keeps fun b o q _=>⟨o,up1 _ _ q,rfl⟩
 ·obtain⟨_,o,q,_⟩:=I.stack.mem hb;exact fr0 b o q (I.stkFree b hb)
 ·-- the names
  have e2':(List.replicate Nl.length none++pj js σ)[i]?=some (some v):=e2;have e1':(Nl++Nf)[i]?=some y:=e1
  by_cases hi:i<Nl.length
  ·rw[w0w (by simpa using hi),w2a]at e2';split at e2'<;>cases e2'
  ·have hi':Nl.length<=i:=w4c.mp hi;rw[w1a (by simpa using hi')]at e2';rw[w1a hi']at e1';rw[w2k]at e2';obtain⟨j,ej,eσ⟩:=y81 e2';have hNy:=hj _ _ _ e1' ej;obtain⟨hfr,hv,hnl⟩:=hNf y (w0u e1');obtain⟨m,hm,hl⟩:=I.loc;obtain⟨u,r,l⟩:=hl j y v hNy eσ hv;refine⟨u,r,?_⟩;rcases l with⟨k,_⟩|⟨k,c,ec,z⟩
   ·exact absurd k hnl
   ·obtain⟨c',ec'⟩:=hcf y hfr;have:=hcl y c' ec';rw[ec]at this;cases this;exact .inr ⟨hvis y (w0u e1'),c,ec',cellUp _ _ z⟩
 ·obtain⟨v,z⟩:=cellK x c e;exact⟨v,cellUp _ _ z⟩
 ·show upd H s.heap.objs.size (.lst []) (s.heap.objs.size+1)=none;rw[q0d (Nat.succ_ne_self _)];exact I.hok.fresh (w4f _)
 ·obtain⟨v,o,q,_⟩:=cellK x c e;exact fr0 c o q (I.freeC x c (hcl x c e))
 ·show(List.replicate Nl.length none++pj js σ).length=(Nl++Nf).length;rw[w0g,w0g,w2k];unfold pj;rw[w0c,hlen]
theorem x8w{σ':St}{s':Shared}{Nc:List Str}{fp:List Addr}{cl:List (Str×Addr)}{h':Heap}
  (I:Inv X pins σ H s)(hfp:∀b∈fp,FpOk X pins H b)
  (J:Inv (X.cp Nc scope cl (s.heap.objs.size+1) {s with heap:=s.heap.push {cls:=.type "list", dict:=none,data:=.seq ([]:List Value).toArray}} (upd H s.heap.objs.size (.lst [])) fp) [] σ' H' s')
  (hs:Heap.SameBut (s.heap.objs.size+1) s'.heap h'):Inv X pins σ H' {s' with heap:=h'}:=by
 have fD:H s.heap.objs.size=none:=I.hok.fresh (w0e _);have up1:∀b u,s.heap.get? b=some u->(s.heap.push {cls:=.type "list", dict:=none,data:=.seq ([]:List Value).toArray}).get? b=some u:=fun b u q=>Heap.get?_push_of_some _ q
 have neC:∀b o,s.heap.get? b=some o->b≠s.heap.objs.size+1:=fun b o q=>w0p (w2c (Heap.lt_size q))
 have fr0:∀b o,s.heap.get? b=some o->H b=none->upd H s.heap.objs.size (.lst []) b=none:=fun b o q n=>by rw[q0d (w0p (Heap.lt_size q))];exact n
 have old:∀b u,H b=some u->upd H s.heap.objs.size (.lst []) b=some u:=fun b u q=>by rw[q0d (q0m q fD)];exact q
 have B:Un (frs X.stack) fp (upd H s.heap.objs.size (.lst [])) H' (s.heap.push {cls:=.type "list", dict:=none,data:=.seq ([]:List Value).toArray}) s'.heap:=J.base;have hC:H' (s.heap.objs.size+1)=none:=J.free;refine I.call' (s':={s' with heap:=h'}) (ch:=fp) (J.os.trans rfl) ⟨fun b o q n hb hx=>?_,fun b o q n hb hx=>?_,fun b o q n hx=>B.free b o (up1 _ _ q) (fr0 b o q n) hx,fun b o q hx=>?_,fun b xs q=>B.tups b xs (old _ _ q),fun b o u q=>B.frzs b o u (old _ _ q),fun b ps q=>B.tbls b ps (old _ _ q)⟩ (fun a o q=>?_) J.bare fun b hb=>?_
 ·exact(hs.2 b (neC b o q)).trans (B.keep b o (up1 _ _ q) (fr0 b o q n) hb hx)
 ·obtain⟨sl,z⟩:=B.slot b o (up1 _ _ q) (fr0 b o q n) hb hx;exact⟨sl,(hs.2 b (neC b o q)).trans z⟩
 ·obtain⟨o',z⟩:=B.there b o (up1 _ _ q) hx;exact⟨o',(hs.2 b (neC b o q)).trans z⟩
 ·refine(J.hok a o q).stay (fun c v hc z=>(hs.2 c ?_).trans z) (fun _ z=>z) fun _ _ _ z=>z
  rintro rfl;rcases hc with rfl|hc
  ·rw[hC]at q;cases q
  ·rw[hC]at hc;cases hc
 ·obtain⟨_,f1,f2,f3,f4,f5⟩:=hfp b hb;exact⟨f3,f1,f4,f5⟩
theorem y4z{Nl Nf:List Str}(hc:X.calm=true)(hi:PI X target iter wi)
  (hk:scope.kind=.function)(hcell:∀y∈scope.names,y.2≠.cell)(hnames:∀x∈scope.names,x.2=.local->scope.names.lookup x.1=some .local)
  (hfree:∀x∈scope.names,x.2=.free->X.env.kindOf x.1=some .cell\/X.env.kindOf x.1=some .free)
  (hj:∀(i j:Nat) y,Nf[i]?=some y->js[i]?=some j->X.N[j]?=some y)(hlen:js.length=Nf.length)
  (hNf:∀y∈Nf,(y,NameKind.free)∈scope.names/\Vis X.env.scope y/\X.env.kindOf y≠some .local)
  (hvis:∀y∈Nf,(relabel scope X.env).names.lookup y=some .cell\/(relabel scope X.env).names.lookup y=some .free)
  (hg:∀cl C s₀ H₀ ex,PG (X.cp (Nl++Nf) scope cl C s₀ H₀ ex) target g)(ht:∀cl C s₀ H₀ ex,PTs (X.cp (Nl++Nf) scope cl C s₀ H₀ ex) ifs tc)(he:∀cl C s₀ H₀ ex,PE (X.cp (Nl++Nf) scope cl C s₀ H₀ ex) elt te)
  (hs:∀x,foldedSetIterable iter X.env x=pure x:=by intro _;rfl):
  PE X (.ListComp elt [⟨target,iter,ifs,0⟩] scope pos) (tComp wi Nl.length js g tc te):=by
 intro pins s σ H Q I h;obtain⟨cl,hclos,hcl,hcf⟩:=q57 (scope:=scope) (env:=X.env) fun x hx hf=>I.ok.has x.1 (hfree x hx hf)
 rw[eval_ListComp];refine wpAny_comprehension_free (use:=none) rfl hs hclos hk hnames (thn (hi pins s σ H _ I h) fun v s1 h1=>thn h1 fun itv s2 h2=>?_)
 obtain⟨it,fp,tn,J,H2,e,I2,T,st2,f2,rd⟩:=h2;subst e;refine wpAny_newObj_type (wpAny_newFunctionEnv hcell (by intro y hy;simp at hy) (fun h₁ hns₁ hsb₁=>?_) hk)
 dsimp only at hns₁ hsb₁ |-
 have szp:(s2.heap.push {cls:=.type "list", dict:=none,data:=.seq ([]:List Value).toArray}).objs.size=s2.heap.objs.size+1:=Heap.size_push ..;rw[szp]at hns₁ hsb₁ |-
 have fD:H2 s2.heap.objs.size=none:=I2.hok.fresh (w0e _);obtain⟨W,⟨m0,w0⟩,turn⟩:=rd s2.heap.objs.size fD;have obj2:=T.obj 0 s2.heap st2;have IS:=x3t (Nl:=Nl) (Nf:=Nf) (js:=js) (cl:=cl) (tk:=s2.toks+([]:List (Str×Value)).length) I2 f2 obj2 hk hcell hcl hcf hj hlen hNf hvis hns₁ hsb₁
 have upS:∀b u,s2.heap.get? b=some u->h₁.get? b=some u:=fun b u q=>by
  have hlt:=Heap.lt_size q;exact(hsb₁.2 b (w0p (w2c hlt))).trans (Heap.get?_push_of_some _ (Heap.get?_push_of_some _ q))
 have stS:tn 0 h₁:=T.keep 0 s2.heap h₁ st2 fun b hb o q=>upS b o q
 have noD:∀b∈fp,upd H2 s2.heap.objs.size (.lst []) b=none:=fun b hb=>by
  obtain⟨o,q,_⟩:=obj2 b hb;rw[q0d (w0p (Heap.lt_size q))];exact(f2 b hb).1
 have stat:∀{H':Hp},(∀b∈fp,H' b=none)->∀b∈fp,FpOk (X.cp (Nl++Nf) scope cl (s2.heap.objs.size+1) {s2 with heap:=s2.heap.push {cls:=.type "list", dict:=none,data:=.seq ([]:List Value).toArray}} (upd H2 s2.heap.objs.size (.lst [])) fp) [] H' b:=fun hn b hb=>by
  refine⟨hn b hb,(IS.ok.exf b hb).1,IS.ok.exfs b hb,.inl hb,(IS.ok.exf b hb).2,fun p hp=>(by cases hp)⟩
 have loop:∀s4:Shared,s4={s2 with heap:=h₁,toks:=s2.toks+([]:List (Str×Value)).length} ->
   codeAny (model X.prog X.w) X.A (.compLoop (.ListComp elt [⟨target,iter,ifs,0⟩] scope pos) 0 (.ref it) (.ref s2.heap.objs.size) (compEnvC scope cl (s2.heap.objs.size+1) X.env))
    (compPost (model X.prog X.w) X.A X.xe none (EP X pins σ Q) (.ref s2.heap.objs.size) (s2.heap.objs.size+1)) s4:=by
  rintro s4 rfl;refine x2b (fun n s'=>∃i H',Inv (X.cp (Nl++Nf) scope cl (s2.heap.objs.size+1) {s2 with heap:=s2.heap.push {cls:=.type "list", dict:=none,data:=.seq ([]:List Value).toArray}} (upd H2 s2.heap.objs.size (.lst [])) fp) [] (List.replicate Nl.length none++pj js σ) H' s'/\tn i s'.heap/\(∀b∈fp,H' b=none)/\W i n H') ?_ m0 ⟨0,_,IS,stS,noD,w0⟩
  rintro n s3 ⟨i,H3,I3,st3,fr3,w3⟩;rcases turn i n H3 w3 with⟨stop,qn⟩|⟨go,step⟩
  ·refine thn (T.done (X.cp (Nl++Nf) scope cl (s2.heap.objs.size+1) {s2 with heap:=s2.heap.push {cls:=.type "list", dict:=none,data:=.seq ([]:List Value).toArray}} (upd H2 s2.heap.objs.size (.lst [])) fp) rfl rfl rfl hc i [] s3 _ H3 _ I3 (stat fr3) st3 stop) fun r s5 ⟨hr,I5⟩=>?_
   subst hr;obtain⟨m5,hn5,_⟩:=I5.loc;refine⟨m5,hn5,fun h' hs'=>⟨.ref s2.heap.objs.size,H3,x8w I2 f2 I5 hs',rfl,qn⟩⟩
  ·refine thn (T.item (X.cp (Nl++Nf) scope cl (s2.heap.objs.size+1) {s2 with heap:=s2.heap.push {cls:=.type "list", dict:=none,data:=.seq ([]:List Value).toArray}} (upd H2 s2.heap.objs.size (.lst [])) fp) rfl rfl rfl hc i [] s3 _ H3 _ I3 (stat fr3) st3 go) fun r s5 ⟨u,hr,h5⟩=>?_
   subst hr;refine thn h5 fun _ s6 ⟨x,H6,I6,r6,y6,st6,fr6⟩=>?_
   have I6':=I6.pinned (stat fr6) (T.obj _ _ st6);refine thn (hg _ _ _ _ _ _ s6 _ H6 x u _ I6' r6 (step x H6 y6)) fun _ s7 ⟨σ7,H7,I7,kp,q7⟩=>?_
   refine thn (ht _ _ _ _ _ _ s7 σ7 H7 _ I7 q7) fun ok s8 ⟨H8,I8,q8⟩=>?_
   have again:∀{σ9:St}{H9:Hp}{s9:Shared},Inv (X.cp (Nl++Nf) scope cl (s2.heap.objs.size+1) {s2 with heap:=s2.heap.push {cls:=.type "list", dict:=none,data:=.seq ([]:List Value).toArray}} (upd H2 s2.heap.objs.size (.lst [])) fp) ([]++pinsAt fp s6.heap) σ9 H9 s9 ->
     Kp (List.replicate Nl.length none++pj js σ) σ9->(∃m',m'<n/\W (i+1) m' H9)->∃m,m<n/\∃i H',Inv (X.cp (Nl++Nf) scope cl (s2.heap.objs.size+1) {s2 with heap:=s2.heap.push {cls:=.type "list", dict:=none,data:=.seq ([]:List Value).toArray}} (upd H2 s2.heap.objs.size (.lst [])) fp) [] (List.replicate Nl.length none++pj js σ) H' s9/\tn i s9.heap/\(∀b∈fp,H' b=none)/\W i m H':=fun {σ9 H9 s9} I9 hw ⟨m',hm,w9⟩=>by
    refine⟨m',hm,i+1,H9,I9.unpinned.weak (by rw[I9.len,<- IS.len]) hw,T.keep _ _ _ st6 fun b hb o q=>(I9.pin (b,o) (w0k _ (w0k _ (q28 hb q)))).1,fun b hb=>?_,w9⟩
    obtain⟨o,q,d⟩:=T.obj _ _ st6 b hb;exact(I9.pin (b,o) (w0k _ (w0k _ (q28 hb q)))).2.1
   cases ok with
   |false=>exact again I8 kp (by simpa using q8)
   |true=>
    have q8':=by simpa only[if_true]using q8
    refine thn (he _ _ _ _ _ _ s8 σ7 H8 _ I8 q8') fun y s9 ⟨yv,H9,I9,r9,ys,hD,hz,q9⟩=>?_
    refine thn (q8e _ s9 σ7 H9 (.ref s2.heap.objs.size) [yv] (.ref s2.heap.objs.size) [y] (fun v H'=>v=.non/\H'=upd H9 s2.heap.objs.size (.lst (ys++[yv]))) I9 rfl (.cons r9 .nil) ⟨_,ys,yv,rfl,rfl,hD,hz,rfl,rfl⟩) fun _ s10 ⟨_,H10,I10,_,_,e10⟩=>?_
    subst e10;exact again I10 kp q9
 exact codeAny_compStart_list (loop _ rfl) (T.self X.A 0 _ _ _ stS (loop _ rfl))
end
theorem q6i{env:Env}:∀{names:List (Str×NameKind)}{x:Str},names.lookup x=some .free ->
  (names.map fun(n,k)=>if(k==NameKind.free&&env.scope.kind==.function&&env.kindOf n==some .cell)then(n,NameKind.cell)else(n,k)).lookup x=some .cell \/
  (names.map fun(n,k)=>if(k==NameKind.free&&env.scope.kind==.function&&env.kindOf n==some .cell)then(n,NameKind.cell)else(n,k)).lookup x=some .free
 |[],x,h=>by cases h
 |(n,k)::r,x,h=>by
  have ih:=@q6i env r x;rw[w0i];dsimp only
  by_cases hx:(x==n)=true
  ·simp only[w0z,hx]at h;cases h
   by_cases hq:(NameKind.free==NameKind.free&&env.scope.kind==.function&&env.kindOf n==some .cell)=true
   ·rw[if_pos hq];left;simp[w0z,hx]
   ·rw[if_neg hq];right;simp[w0z,hx]
  ·have hb:(x==n)=false:=w1j.mpr hx;simp only[w0z,hb]at h;have z:=ih h
   by_cases hq:(k==NameKind.free&&env.scope.kind==.function&&env.kindOf n==some .cell)=true
   ·rw[if_pos hq];simpa only[w0z,hb]using z
   ·rw[if_neg hq];simpa only[w0z,hb]using z
noncomputable def compOk(sc scope:Scope)(N Nf:List Str)(js:List Nat):Bool:=
 scope.kind==.function&&scope.names.all (fun y=>y.2 != .cell)&&scope.names.all (fun y=>y.2 != .local||scope.names.lookup y.1==some .local) &&
 scope.names.all (fun y=>y.2 != .free||sc.names.lookup y.1==some .cell||sc.names.lookup y.1==some .free)&&js.length==Nf.length &&
 (List.range js.length).all (fun i=>match js[i]?,Nf[i]? with|some j,some y=>N[j]?==some y|_,_=>true) &&
 Nf.all (fun y=>scope.names.lookup y==some .free&&(sc.names.lookup y==some .cell||sc.names.lookup y==some .free))
theorem q9p{elt target iter:Expr}{scope sc:Scope}{wi:TI}{g:TG}{tc:TT}{Nl Nf:List Str}(hc:X.calm=true)(hi:PI X target iter wi)
  (ok:compOk sc scope N Nf js=true)
  (hg:∀cl C s₀ H₀ ex,PG (X.cp (Nl++Nf) scope cl C s₀ H₀ ex) target g)(ht:∀cl C s₀ H₀ ex,PTs (X.cp (Nl++Nf) scope cl C s₀ H₀ ex) ifs tc)(he:∀cl C s₀ H₀ ex,PE (X.cp (Nl++Nf) scope cl C s₀ H₀ ex) elt te)
  (hsc:X.env.scope=sc:=by rfl)(hN:X.N=N:=by rfl)(hs:∀x,foldedSetIterable iter X.env x=pure x:=by intro _;rfl):
  PE X (.ListComp elt [⟨target,iter,ifs,0⟩] scope pos) (tComp wi Nl.length js g tc te):=by
 unfold compOk at ok;simp only[w0s,w1c,beq_iff_eq,bne_iff_ne,w3v,w1d]at ok;obtain⟨⟨⟨⟨⟨⟨k1,k2⟩,k3⟩,k4⟩,k5⟩,k6⟩,k7⟩:=ok;have kind:∀x,X.env.kindOf x=sc.names.lookup x:=fun x=>by rw[<- hsc];rfl
 refine y4z hc hi k1 k2 (fun x hx hl=>(k3 x hx).resolve_left fun z=>z hl) (fun x hx hf=>?_) (fun i j y e1 e2=>?_) k5 (fun y hy=>?_) (fun y hy=>?_) hg ht he hs
 ·rw[kind];rcases k4 x hx with(z|z)|z
  ·exact absurd hf z
  ·exact .inl z
  ·exact .inr z
 ·have hlt:i<js.length:=(w0b.mp e2).1;have z:=k6 i hlt;rw[e1,e2]at z;rw[hN]
  simpa using z
 ·obtain⟨z1,z2⟩:=k7 y hy;refine⟨PySem.mem_of_lookup z1,?_,?_⟩
  ·rw[hsc];rcases z2 with z|z
   ·exact .inr (.inl z)
   ·exact .inr (.inr z)
  ·rw[kind];rcases z2 with z|z<;>(rw[z];decide)
 ·exact q6i (k7 y hy).1
abbrev TF:=Str->St->Hp->(Str->Hp->Prop)->Prop
def PF(X:Cx)(es:List Expr)(t:TF):Prop:=∀(acc:Str)(pins:List (Addr×Obj))(s:Shared)(σ:St)(H:Hp)(Q:Str->Hp->Prop),Inv X pins σ H s->t acc σ H Q ->
 Joins (model X.prog X.w) X.A X.xe (evalEach es X.env) acc (fun out s'=>out.length<=sizeLine/\∃H',Inv X pins σ H' s'/\Q out H') s
theorem y1s(hc:X.calm=true):CallR X (.builtin "all") (fun xs H Q=>∃p ys,xs=[.ref p]/\SqL X.K H p ys/\(∀y∈ys,∃b,y=.bl b)/\Q (.bl (ys.all fun y=>decide (y=.bl true))) H):=by
 intro pins s σ H xs us Q I r h;obtain⟨p,ys,rfl,hq,hb,q⟩:=h;obtain⟨u,rfl,rx⟩:=vals1 r;cases rx;obtain⟨its,r',pl,hz⟩:=I.list hq;have hl:=pl.isList;have hlt:p<s.heap.objs.size:=by obtain⟨_,e,_⟩:=hl;exact Heap.lt_size e
 have hh:X.A.in1.handled=none:=I.ok.hd hc;refine call_all_walk (wpAny_pyIter_list hl ⟨s.heap.objs.size,[s.heap.objs.size,p],[s.heap.objs.size],_,_,_,fun i=>decide (ys[i]?=some (.bl true)),rfl,Walks.list hh s.heap.objs.size p (w0p hlt) its.toArray,⟨⟨_,Heap.get?_push_size _ rfl,rfl,rfl⟩,hl.push _⟩,?_,fun h' tk kp=>?_⟩)
 ·intro i v s1 Q1 E1 hv hQ;have hv':its[i]?=some v:=by simpa using hv
  have hi:i<ys.length:=by rw[r'.length];exact(w0b.mp hv').1
  obtain⟨u,hu,ru⟩:=r'.get (w0a hi);rw[hv']at hu;cases hu;obtain⟨b,eb⟩:=hb ys[i] (w1p hi);rw[eb]at ru;cases ru;refine wpAny_truthy_bool ?_
  have e:decide (ys[i]?=some (V.bl true))=b:=by
   rw[w0a hi,eb];cases b<;>simp
  rw[<- e];exact hQ
 ·have e:(List.range its.toArray.size).all (fun i=>decide (ys[i]?=some (V.bl true)))=ys.all fun y=>decide (y=.bl true):=by
   rw[w0x,w1c,w1c];constructor
   ·intro hA y hy;obtain⟨i,hi,rfl⟩:=w4g hy;have z:=hA i (by rw[w1d,w0d,<- r'.length];exact hi);rw[w0a hi]at z
    simpa using z
   ·intro hA i hi;rw[w1d,w0d,<- r'.length]at hi;have z:=hA ys[i] (w1p hi);rw[w0a hi]
    simpa using z
  refine⟨.bl _,H,I.kept (t':=tk) fun b o hbo=>kp b o (fun z=>?_) (Heap.get?_push_of_some _ hbo),rfl,e ▸ q⟩
  rw[w0n]at z;exact absurd (Heap.lt_size hbo) (by rw[z];exact w1o _)
namespace RevT
open AutoSeq1 (wpAny_loadPart')
end RevT
open PySem PySem.Spec PyProof.Rows
variable{c f:Addr}{A:Around}{X:Cx}{e:Expr}{h:Heap}{H H':Hp}{EE:L2.St->XK}{es:List Expr}{ps:List Str}{p pos:Pos}{P:Program}{K:PySem.W.Frag}{s:Shared}{x:Str}{w:World}
structure ExcCls(K:PySem.W.Frag)(D:Addr):Prop where
 ga:findIn K (.ref D) "__getattribute__"=some (some (.builtin "BaseException.__getattribute__"))
 gt:findIn K (.ref D) "__getattr__"=some none
 cl:findIn K (.ref D) "__class__"=some (some (.builtin "object.__class__"))
 gs:specialIn K (.builtin "object.__class__") "__get__"=some (some (.builtin "getset_descriptor.__get__"))
 tk:takesIn K (.builtin "object.__class__")=some true
 mo:PySem.W.mroIn K D (.type "object")=some true
 mb:PySem.W.mroIn K D (.type "BaseException")=some true
 cd:(PySem.W.clsIn K D).isSome=true
noncomputable def excClsIn(K:PySem.W.Frag)(D:Addr):Bool:=
 findIn K (.ref D) "__getattribute__"==some (some (.builtin "BaseException.__getattribute__"))&&findIn K (.ref D) "__getattr__"==some none &&
 findIn K (.ref D) "__class__"==some (some (.builtin "object.__class__"))&&specialIn K (.builtin "object.__class__") "__get__"==some (some (.builtin "getset_descriptor.__get__")) &&
 takesIn K (.builtin "object.__class__")==some true&&PySem.W.mroIn K D (.type "object")==some true&&PySem.W.mroIn K D (.type "BaseException")==some true&&(PySem.W.clsIn K D).isSome
theorem ExcCls.of{D:Addr}(h:excClsIn K D=true):ExcCls K D:=by
 unfold excClsIn at h;simp only[w0s,beq_iff_eq]at h;obtain⟨⟨⟨⟨⟨⟨⟨h1,h2⟩,h3⟩,h4⟩,h5⟩,h6⟩,h7⟩,h8⟩:=h;exact⟨h1,h2,h3,h4,h5,h6,h7,h8⟩
def ExcAt(e D:Addr)(h:Heap):Prop:=∃o vs,h.get? e=some o/\o.cls=.ref D/\o.data=.fields vs
section
variable{prog:Program}{E:Value->Shared->Prop}{e D:Addr}
open PySem.W Builtin Builtin.ObjectAttr Builtin.Getset_descriptor
theorem x0g{M:Model}(p:ExcAt e D h):Looks M h (typeOf (.ref e)) (.ref D):=by
 obtain⟨o,vs,h1,h2,h3⟩:=p;exact h2 ▸ (Looks.ld h1).andThen .now
theorem y1t{M:Model}(X:K.In h)(C:ExcCls K D):Looks M h (find (.ref e) (.ref D) "__class__") (.bind (.builtin "getset_descriptor.__get__") (.builtin "object.__class__")):=by
 have L1:=looks_findIn (M:=M) X C.cl;have L2:Looks M h (getOf (some (.builtin "object.__class__"))) (some (.builtin "getset_descriptor.__get__")):=looks_specialIn X C.gs;have L3:=looks_takesIn (M:=M) X C.tk;refine L1.andThen (L2.andThen ?_);exact(show Looks M h (dataDescriptor? (some (.builtin "object.__class__")) (some (.builtin "getset_descriptor.__get__"))) (some (.builtin "getset_descriptor.__get__", .builtin "object.__class__"))from L3.andThen .now).andThen (Looks.tag .now)
theorem y40{tp:Value}{R:Result->Shared->Prop}(X:K.In s.heap)(p:ExcAt e D s.heap)(hm:mroIn K D (.type "object")=some true)
  (h:R (.ok (.ret (.ref D))) s):codeAny (model prog w) A (.call (.builtin "getset_descriptor.__get__") ⟨[.builtin "object.__class__", .ref e,tp],[]⟩) R s:=by
 obtain⟨hh,g,dr,t,os⟩:=s;have L0:=x0g (M:=model prog w) p;have L1:=looks_mroIn (M:=model prog w) X hm;refine codeAny_call_builtin KF.slot_gs.plain KF.entry_gs (KF.slot_gs.check _ _ _ _ _ _ _ _ KF.type_class (KF.args_gs _ _ _) ?_);unfold Builtin.«getset_descriptor.__get__» descrGet;rw[dga_obj];refine wpAny_bind (wpAny_pure ?_);unfold descrGetter descrCheckInstance descrNameAndClass isInstance;simp only[KF.owner_class]
 repeat lk
 refine⟨Code.quiet_builtin _ (by decide +kernel),codeAny_builtin KF.entry_class ?_⟩;unfold Builtin.«object.__class__» shownTypeOf
 repeat lk
 exact h
theorem x8x{M:Model}{nameV:Value}{Q:Unit->Shared->Prop}{g:Array GenState}{d:Drawn}{t:Nat}{os:OsState}(X:K.In h)(p:ExcAt e D h)(hm:mroIn K D (.type "BaseException")=some true)(hq:Q () ⟨h,g,d,t,os⟩):
  wpAny M A (checkBuiltinCall "BaseException.__getattribute__" ⟨[.ref e,nameV],[]⟩) Q E ⟨h,g,d,t,os⟩:=by
 have hk:builtinKind "BaseException.__getattribute__"=some .slot:=by decide +kernel
 have hsplit:splitId "BaseException.__getattribute__"=some ("BaseException", "__getattribute__"):=by decide +kernel
 have L0:=x0g (M:=M) p;have L1:=looks_mroIn (M:=M) X hm;have LI:Looks M h (isInstance (.ref e) (.type "BaseException")) true:=L0.andThen L1;have ha:=PySem.F.args_bexc_ga (.ref e) nameV;simp only[checkBuiltinCall,hk,hsplit];refine wpAny_bind (LI.at ?_);rw[if_neg (by decide)];unfold argsOk at ha;split
 ·rename_i sig hs;rw[hs]at ha;exact wpAny_of_eq ha hq
 ·exact wpAny_pure hq
theorem x8y{Q:Option Value->Shared->Prop}(X:K.In s.heap)(p:ExcAt e D s.heap)(C:ExcCls K D)(h:Q (some (.ref D)) {s with toks:=s.toks+1}):wpAny (model prog w) A (getAttr? (.ref e) "__class__") Q E s:=by
 obtain⟨hh,g,d,t,os⟩:=s;have L0:=x0g (M:=model prog w) p;have L1:=looks_findIn (M:=model prog w) X C.ga;have L2:=looks_findIn (M:=model prog w) X C.gt;have L3:=y1t (M:=model prog w) (e:=e) X C;unfold getAttr? getAttrBy? getAttrBy;refine wpAny_bind (wpAny_mkText (wpAny_bind (wpAny_attempt (wpAny_holding (wpAny_bind (L0.at (wpAny_bind (L1.at ?_))))))));have hx2:(Value.builtin "BaseException.__getattribute__"==Value.builtin "object.__getattribute__")=false:=by decide +kernel
 have hx1:(onTheHeap (Value.ref D)&&Value.builtin "BaseException.__getattribute__"==Value.builtin "object.__getattribute__")=false:=by rw[hx2];rfl
 dsimp only;rw[if_neg (by rw[hx1];decide)];unfold getAttrByItsOwn hookBefore;rw[if_pos (by rfl)];refine wpAny_bind (L2.at ?_);refine wpAny_bind (wpAny_attempt (wpAny_holding ?_));unfold callGetattribute;rw[if_neg (by decide)];unfold boundAndCalled;have f3:=PySem.F.excAttr_ValueError.ga.bind (.ref e);refine wpAny_bind (wpAny_of_eq f3 ?_);refine wpAny_call (codeAny_call_builtin PySem.F.excAttr_ValueError.ga.plain F.entry_bexc_ga (x8x (K:=K) (D:=D) X p C.mb ?_));unfold Builtin.«object.__getattribute__»;refine wpAny_bind (wpAny_of_eq (a:=(Value.ref e,[Value.str (Str.ofString "__class__") t])) (by rfl) ?_);dsimp only;refine wpAny_bind (wpAny_of_eq (a:=Str.ofString "__class__") (by rfl) ?_);refine wpAny_bind (L0.at (wpAny_bind (L3.at ?_)));dsimp only;unfold bindTo;refine wpAny_bind (wpAny_holding (wpAny_call (y40 (K:=K) (D:=D) X p C.mo ?_)));dsimp only;refine wpAny_pure ?_;dsimp only;refine wpAny_of_eq (a:=Value.ref D) (by rfl) ?_;exact wpAny_pure h
theorem y1u(C:ExcCls K D):KitX K (.ref e) (.ref D) (ExcAt e D) where
 ty:=fun _ _ _ p=>x0g p
 it:=fun M h X p=>by
  have hcD:=C.cd;unfold clsIn at hcD;split at hcD
  ·rename_i c' d' cd' sl' ho;intro A' Q' E' s' k q;unfold isType loadHead;exact wpAny_bind (wpAny_loadPart (k _ _ (X _ _ ho)) (wpAny_pure q))
  ·cases hcD
 ne:=fun h tp dd its n sl X htp=>by
  refine w1j.mpr fun q=>?_
  have e1:D=tp:=Value.ref.inj (beq_iff_eq.mp q);subst e1;have hcD:=C.cd;unfold clsIn at hcD;split at hcD
  ·rename_i c' d' cd' sl' ho;have z:=(X _ _ ho).symm.trans htp;cases z
  ·cases hcD
 ca:=fun X p k=>x8y X p C k
end
def ClsV:V->Value->Prop
 |.ty n,c=>c=.type n
 |.ref a,c=>c=.ref a
 |_,_=>False
structure Cal(P:Program)(w:World)(K:PySem.W.Frag)(mg:Str->Option Value)(base:Heap)(k:Nat)(x:Str)(ps:List Str)(sp:Sp):Prop where
 ex:∃f fd,FnOk P w K mg base (CX1 P w) k f fd ps sp/\mg x=some (.ref f)/\keepIn K (.ref f)=true/\Binds K fd ps []
structure CalH(P:Program)(w:World)(K:PySem.W.Frag)(mg:Str->Option Value)(base:Heap)(k:Nat)(x:Str)(ps:List Str)(sp:Sp):Prop where
 ex:∃f fd,FnOkH P w K mg base k f fd ps sp/\mg x=some (.ref f)/\keepIn K (.ref f)=true/\Binds K fd ps []
structure At(K:PySem.W.Frag)(mg:Str->Option Value)(x:Str)(st:Stmt)(ps:List Str):Prop where
 ex:∃f fd,Fun K x x st f fd/\mg x=some (.ref f)/\Binds K fd ps []
section
variable{mg:Str->Option Value}{base:Heap}
theorem At.cal{st:Stmt}{N:List Str}{k:Nat}{sp:Sp}(F:At K mg x st ps)(S:FnScope N ps (defScope st))(len:∀vs H Q E,sp vs H Q E->vs.length=ps.length)
  (hbody:∀(f:Addr)(cdv:Value)(A:Around)(outer:List Env)(s:Shared)(H:Hp)(vs:List V)(Q:VK)(E:XK),Room k (A.deeper (envOfC x (defScope st) s.heap.objs.size f cdv))->sp vs H Q E ->
   ∃t,PSs (cxOf (CX1 P w) P w K mg base N x (defScope st) f cdv A outer s H E) (defBody st) t/\t {nx:=fun _ H'=>Q .non H',rt:=Q} (start N vs) H):Cal P w K mg base (k+1) x ps sp:=by
 obtain⟨f,fd,F,m,b⟩:=F.ex;exact⟨f,fd,F.okX S len (hbody f),m,F.kp,b⟩
theorem At.calH{st:Stmt}{N:List Str}{k:Nat}{sp:Sp}(F:At K mg x st ps)(S:FnScope N ps (defScope st))(len:∀vs H Q E,sp vs H Q E->vs.length=ps.length)
  (hbody:∀(f:Addr)(cdv:Value)(A:Around)(outer:List Env)(s:Shared)(H:Hp)(vs:List V)(Q:VK),RoomH k (A.deeper (envOfC x (defScope st) s.heap.objs.size f cdv))->sp vs H Q E0 ->
   ∃t,PSs (cxH P w K mg base N x (defScope st) f cdv A outer s H) (defBody st) t/\t {nx:=fun _ H'=>Q .non H',rt:=Q} (start N vs) H):CalH P w K mg base (k+1) x ps sp:=by
 obtain⟨f,fd,F,m,b⟩:=F.ex;exact⟨f,fd,F.okH S len (hbody f),m,F.kp,b⟩
end
section
variable{k:Nat}{sp:Sp}{t:TA}
theorem q6j(C:Cal X.prog X.w X.K X.mg X.base k x ps sp)(hr:Room k X.A)(hx:PassX (CX1 X.prog X.w) X EE)(ha:PA X (e::es) t)(hg:Gl X x:=by rfl)
  (hdb:(x==("__debug__":Str))=false:=by decide)(he:starEach (e::es) X.env=(false,eval e X.env)::starEach es X.env:=by rfl)(hpl:(backTo pos (starEach es X.env)).any (·.1)=false:=by rfl):
  PE X (.Call (.Name x p) (e::es) [] pos) (tCallX sp [] EE t):=by
 obtain⟨f,fd,F,m,kp,b⟩:=C.ex;exact y1p F hr hg m kp b .nil hx ha hdb he hpl
theorem y41(C:CalH X.prog X.w X.K X.mg X.base k x ps sp)(hr:RoomH k X.A)(ha:PA X (e::es) t)(hg:Gl X x:=by rfl)
  (hdb:(x==("__debug__":Str))=false:=by decide)(he:starEach (e::es) X.env=(false,eval e X.env)::starEach es X.env:=by rfl)(hpl:(backTo pos (starEach es X.env)).any (·.1)=false:=by rfl):
  PE X (.Call (.Name x p) (e::es) [] pos) (tCall sp [] E0 t):=by
 obtain⟨f,fd,F,m,kp,b⟩:=C.ex;exact y1r F hr hg m kp b ha hdb he hpl
end
section
variable{te:TE}{t:TA}{pos':Pos}
theorem q6w(i:Nat)(hN:X.N.Nodup)(he:PE X e te)(hi:X.N[i]?=some x:=by rfl)(hx:Loc X.env.scope x:=by walk_at "3")(hs:swapsWith e (some (.Name x pos')) pos.line X.env=pure false:=by rfl)(hf:X.fn x=true\/X.env.scope.names.lookup x=some .local:=by walk_at "2"):
  PS X (.Assign [.Name x pos'] e pos) (tAsg te (gName i)):=y8o hN hi hx he hs hf
theorem q29(i:Nat)(hN:X.N.Nodup)(hi:X.N[i]?=some x:=by rfl)(hx:Loc X.env.scope x:=by walk_at "3")(hf:X.fn x=true\/X.env.scope.names.lookup x=some .local:=by walk_at "2"):PG X (.Name x pos) (gName i):=y4l hN hi hx hf
theorem x8z{o:Expr}{to:TE}{apos:Pos}(ho:PE X o to)(ha:PA X (e::es) t)(hbase:attributeBase o "append" X.env (eval o X.env)=eval o X.env:=by rfl)
  (hfew:((backTo pos (starEach (e::es) X.env)).all (fun x=>!x.1)&&(backToKw pos (keywordEach [] X.env)).all (fun x=>x.1.isSome)&&decide ((e::es).length+([]:List Keyword).length+(if([]:List Keyword).isEmpty then 0 else 1)<30))=true:=by rfl)
  (hline:(apos.endLine==pos.line)=true:=by rfl)(hs:starEach (e::es) X.env=(false,eval e X.env)::starEach es X.env:=by rfl)(hplain:(backTo pos (starEach es X.env)).any (·.1)=false:=by rfl):
  PE X (.Call (.Attribute o "append" apos) (e::es) [] pos) (tBM X.K "list" rAppend to t):=y36 PySem.F.plainAttrs_list PySem.F.slot_list_append PySem.F.type_list_append q8e ho ha hbase hfew hline hs hplain
theorem y82{r:List V->Hp->VK->Prop}(hc:CallR X (.builtin "len") r)(hm:X.mg "len"=none)(ha:PA X (e::es) t)(hg:Gl X "len":=by rfl)(he:starEach (e::es) X.env=(false,eval e X.env)::starEach es X.env:=by rfl)(hpl:(backTo pos (starEach es X.env)).any (·.1)=false:=by rfl):
  PE X (.Call (.Name "len" p) (e::es) [] pos) (tCB r t):=q7l hc hg hm PySem.boot_len ha (by decide) (by decide) he hpl
end
theorem q2o{p:Addr}(h:H p=none)(o:HO):Same H (upd H p o):=fun b u q=>by rw[q0d (q0m q h)];exact q
theorem Same.tup{a:Addr}{xs:List V}(e:Same H H')(h:SqT K H a xs):SqT K H' a xs:=by
 rcases h with(h|⟨o,h⟩)|h
 ·exact .inl (.inl (e _ _ h))
 ·exact .inl (.inr ⟨o,e _ _ h⟩)
 ·exact .inr h
noncomputable abbrev rawO(o:Obj):HO:=.frz o (.own 0)
noncomputable abbrev fnO(o:Obj)(q:Str)(c:Addr):HO:=.frz o (.tbl #[.bool false,.str q 0,.ref c])
noncomputable abbrev celO(o:Obj):HO:=.frz o (.ext fun _=>True)
noncomputable abbrev Cs:=List (Addr×Obj)
variable{cs:Cs}
noncomputable def rmC(H:Hp)(cs:Cs):Hp:=fun b=>match cs.lookup b with
 |some _=>none
 |none=>H b
noncomputable def addC(H:Hp)(cs:Cs):Hp:=fun b=>match cs.lookup b with
 |some o=>some (celO o)
 |none=>H b
section
variable{b:Addr}{o:Obj}{u:HO}
theorem q8i(h:cs.lookup b=some o):rmC H cs b=none:=by unfold rmC;rw[h]
theorem q1i(h:cs.lookup b=none):rmC H cs b=H b:=by unfold rmC;rw[h]
theorem q2g(h:cs.lookup b=some o):addC H cs b=some (celO o):=by unfold addC;rw[h]
theorem q0w(h:cs.lookup b=none):addC H cs b=H b:=by unfold addC;rw[h]
theorem q6k(h:H b=none):rmC H cs b=none:=by unfold rmC;split<;>first|rfl|exact h
def CelsIn(H:Hp)(cs:Cs):Prop:=∀b o,cs.lookup b=some o->H b=some (celO o)
theorem CelsIn.out(c:CelsIn H cs)(h:H b=none):cs.lookup b=none:=by
 cases q:cs.lookup b with
 |none=>rfl
 |some o=>rw[c b o q]at h;cases h
theorem CelsIn.out'(c:CelsIn H cs)(h:H b=some u)(n:∀o,u≠celO o):cs.lookup b=none:=by
 cases q:cs.lookup b with
 |none=>rfl
 |some o=>rw[c b o q]at h;cases h;exact absurd rfl (n o)
theorem CelsIn.rm_some(c:CelsIn H cs)(h:H b=some u)(n:∀o,u≠celO o):rmC H cs b=some u:=by rw[q1i (c.out' h n)];exact h
theorem x7h(h:rmC H cs b=some u):H b=some u/\cs.lookup b=none:=by
 unfold rmC at h;split at h
 ·cases h
 ·rename_i q;exact⟨h,q⟩
theorem q9f(t:TupLike u):∀o,u≠celO o:=fun o z=>by subst z;exact t
end
section
variable{h':Heap}{fs ex:List Addr}
theorem HOk.rm(x:HOk P w H h)(c:CelsIn H cs):HOk P w (rmC H cs) h:=fun a u e=>by
 obtain⟨e1,_⟩:=x7h e;exact(x a u e1).stay (fun b v _ q=>q) (fun b q=>c.rm_some q fun o z=>nomatch z) fun b v t q=>c.rm_some q (q9f t)
theorem HOk.add(x:HOk P w H h)(hc:∀b o,cs.lookup b=some o->H b=none/\h.get? b=some o):HOk P w (addC H cs) h:=fun a u e=>by
 cases q:cs.lookup a with
 |some o=>
  rw[q2g q]at e;cases e;exact⟨(hc a o q).2,trivial,⟨o,(hc a o q).2⟩,fun _ _ _ _=>trivial⟩
 |none=>
  rw[q0w q]at e
  have out:∀b v,H b=some v->addC H cs b=some v:=fun b v z=>by
   cases q2:cs.lookup b with
   |some o=>rw[(hc b o q2).1]at z;cases z
   |none=>rw[q0w q2];exact z
  exact(x a u e).stay (fun b v _ q=>q) (fun b q=>out b _ q) fun b v t q=>out b v q
theorem y42{o:Obj}{q:Str}(x:HOk P w H h)(e:H f=some (fnO o q c)):h.get? f=some o/\h.CodeRec (.ref c) q:=by
 obtain⟨h1,h2⟩:=(show h.get? f=some o/\ObjOk P w H h f (.tbl #[.bool false,.str q 0,.ref c])from x f _ e);refine⟨h1,?_⟩;rcases h2 with⟨_,_,p0,_⟩|⟨q',c',oc,ob,vs,t,_,p1,p2,h3,h4,h5,_⟩
 ·cases p0
 ·cases p1;cases p2;exact⟨c,oc,vs,t,rfl,(show h.get? c=some oc/\_ from x c _ h3).1,h4,h5⟩
theorem Un.cells(u:Un fs ex (rmC H cs) H' h h')(c:CelsIn H cs):Un fs ex H (addC H' cs) h h' where
 keep:=fun b o q n hb hx=>u.keep b o q (q6k n) hb hx
 slot:=fun b o q n hb hx=>u.slot b o q (q6k n) hb hx
 free:=fun b o q n hx=>by rw[q0w (c.out n)];exact u.free b o q (q6k n) hx
 there:=u.there
 tups:=fun b xs q=>by
  have z:=c.out' q fun o z=>nomatch z
  rw[q0w z];exact u.tups b xs (by rw[q1i z];exact q)
 frzs:=fun b o v q=>by
  cases z:cs.lookup b with
  |some o'=>
   rw[q2g z];rw[c b o' z]at q;exact q
  |none=>rw[q0w z];exact u.frzs b o v (by rw[q1i z];exact q)
 tbls:=fun b ps q=>by
  have z:=c.out' q fun o z=>nomatch z
  rw[q0w z];exact u.tbls b ps (by rw[q1i z];exact q)
theorem Un.nocells(u:Un fs ex (addC H cs) H' h h')(hok:HOk P w H' h')(hc:∀b o,cs.lookup b=some o->H b=none/\h.get? b=some o):Un fs ex H (rmC H' cs) h h':=by
 have inn:∀b o,cs.lookup b=some o->H' b=some (celO o)/\h'.get? b=some o:=fun b o z=>by
  have q:=u.frzs b o _ (q2g z);exact⟨q,(show h'.get? b=some o/\_ from hok b _ q).1⟩
 refine⟨fun b o q n hb hx=>?_,fun b o q n hb hx=>?_,fun b o q n hx=>?_,u.there,fun b xs q=>?_,fun b o v q=>?_,fun b ps q=>?_⟩
 ·cases z:cs.lookup b with
  |some o'=>
   have:=(hc b o' z).2;rw[q]at this;cases this;exact(inn b _ z).2
  |none=>exact u.keep b o q (by rw[q0w z];exact n) hb hx
 ·cases z:cs.lookup b with
  |some o'=>
   have:=(hc b o' z).2;rw[q]at this;cases this;exact⟨o.slots,(inn b _ z).2⟩
  |none=>exact u.slot b o q (by rw[q0w z];exact n) hb hx
 ·cases z:cs.lookup b with
  |some o'=>exact q8i z
  |none=>rw[q1i z];exact u.free b o q (by rw[q0w z];exact n) hx
 ·have z:cs.lookup b=none:=by
   cases z:cs.lookup b with
   |some o'=>rw[(hc b o' z).1]at q;cases q
   |none=>rfl
  rw[q1i z];exact u.tups b xs (by rw[q0w z];exact q)
 ·have z:cs.lookup b=none:=by
   cases z:cs.lookup b with
   |some o'=>rw[(hc b o' z).1]at q;cases q
   |none=>rfl
  rw[q1i z];exact u.frzs b o v (by rw[q0w z];exact q)
 ·have z:cs.lookup b=none:=by
   cases z:cs.lookup b with
   |some o'=>rw[(hc b o' z).1]at q;cases q
   |none=>rfl
  rw[q1i z];exact u.tbls b ps (by rw[q0w z];exact q)
end
noncomputable abbrev lamEnv(qual:Str)(scope:Scope)(f:Addr)(cd:Value)(cl:List (Str×Addr))(s:Shared):Env:=PySem.W.envX qual scope s.heap.objs.size f cd cl
noncomputable def cxLam(P:Program)(w:World)(K:PySem.W.Frag)(mg:Str->Option Value)(base:Heap)(N:List Str)(qual:Str)(scope:Scope)(f:Addr)(cd:Value)(cl:List (Str×Addr))(A:Around)(outer:List Env)(s:Shared)(H:Hp):Cx where
 prog:=P
 w:=w
 K:=K
 mg:=mg
 base:=base
 A:=A.deeper (lamEnv qual scope f cd cl s)
 N:=N
 s₀:=s
 H₀:=H
 env:=lamEnv qual scope f cd cl s
 outer:=outer
 stack:=lamEnv qual scope f cd cl s::outer
 ex:=[]
 calm:=true
 fn:=fun _=>false
 pn:=[]
 xe:=fun _ _=>False
structure LamScope(ps Nf:List Str)(sc:Scope):Prop where
 kind:sc.kind=.function
 co:sc.isCoroutine=false
 gen:sc.isGenerator=false
 nd:ps.Nodup
 nocell:∀y∈sc.names,y.2≠.cell
 par:∀x∈ps,sc.names.lookup x=some .local
 fr:∀y∈Nf,sc.names.lookup y=some .free
structure LamCells(cl:List (Str×Addr))(Nf:List Str)(sc:Scope)(zs:List V)(h:Heap)(cs:Cs):Prop where
 inj:∀x y c,cl.lookup x=some c->cl.lookup y=some c->x=y
 has:∀x,(x,NameKind.free)∈sc.names->∃c,cl.lookup x=some c
 all:∀x c,cl.lookup x=some c->∃o,cs.lookup c=some o
 cel:∀c o,cs.lookup c=some o->h.get? c=some o/\∃v,o.data=.cell v
 val:∀(i:Nat) y z,Nf[i]?=some y->zs[i]?=some z->∃c o u,cl.lookup y=some c/\cs.lookup c=some o/\o.data=.cell (some u)/\RelV z u
section
variable{mg:Str->Option Value}{base:Heap}{Nf:List Str}{qual:Str}{scope:Scope}{cd:Value}{cl:List (Str×Addr)}{outer:List Env}{us:List Value}{vs zs:List V}
theorem y1v{v:Value}:∀{ps:List Str}{us:List Value}{i:Nat},ps.Nodup->ps[i]?=some x->us[i]?=some v->(ps.zip us).reverse.lookup x=some v:=by
 intro ps us i nd h1 h2;have hm:(x,v)∈(ps.zip us).reverse:=List.mem_reverse.mpr (w0u (i:=i) (by rw[List.getElem?_zip_eq_some];exact⟨h1,h2⟩))
 have hn:((ps.zip us).reverse.map (·.1)).Nodup:=by
  rw[List.map_reverse];show List.Pairwise (·≠·) _;rw[List.pairwise_reverse];refine List.Pairwise.imp (fun h=>Ne.symm h) (show((ps.zip us).map (·.1)).Nodup from ?_)
  exact nd.sublist (by
   clear hm h1 h2
   induction ps generalizing us with
   |nil=>simp
   |cons p ps ih=>cases us with
    |nil=>simp
    |cons u us=>simpa using ih (us:=us) (w2h.mp nd).2)
 generalize (ps.zip us).reverse=l at hm hn
 induction l with
 |nil=>cases hm
 |cons p l ih=>
  obtain⟨y,z⟩:=p;rw[w0z];rcases w0q.mp hm with e|hm2
  ·cases e;simp
  ·have hne:(x==y)=false:=by
    rw[beq_eq_false_iff_ne];rintro rfl;exact(w2h.mp hn).1 (w1u.mpr ⟨(x,v),hm2,rfl⟩)
   rw[hne];exact ih hm2 (w2h.mp hn).2
theorem y43{h₁:Heap}{tk:Nat}(S:LamScope ps Nf scope)(C:LamCells cl Nf scope zs s.heap cs)(hd:A.handled=none)(e0:Env0 P w K mg base A outer s H)(hn:∀c o,cs.lookup c=some o->H c=none)
  (hl:vs.length=ps.length)(hz:zs.length=Nf.length)(r:Vals vs us)
  (ns:h₁.Ns s.heap.objs.size (fun x=>(ps.zip us).reverse.lookup x))(hs:Heap.SameBut s.heap.objs.size (s.heap.push {cls:=.type "frame", data:=.dict #[]}) h₁):
  Inv (cxLam P w K mg base (ps++Nf) qual scope f cd cl A outer s H) [] (vs.map some++zs.map some) H {s with heap:=h₁,toks:=tk}:=by
 have hk:∀b o,s.heap.get? b=some o->h₁.get? b=some o:=fun b o e=>hs.extBut b o (w0p (Heap.lt_size e)) (Heap.get?_push_of_some _ e)
 have noA:∀b:Addr,b∉([]:List Addr):=fun b z=>nomatch z
 have nofree:∀x c,cl.lookup x=some c->H c=none/\∃o,s.heap.get? c=some o/\∃v,o.data=.cell v:=fun x c e=>by
  obtain⟨o,q⟩:=C.all x c e;exact⟨hn c o q,o,C.cel c o q⟩
 refine⟨⟨e0.mod,S.kind,rfl,rfl,w0e _,C.inj,fun y hy=>?_,(fun x c z=>nomatch z),fun _=>hd,Around.frames_deeper e0.frames,.inr ⟨rfl,rfl⟩,fun b z=>absurd z (noA b),e0.bs,e0.bsz,fun b _ _=>noA b,fun b z=>absurd z (noA b),e0.funs,e0.frf,e0.tab⟩,
  rfl,e0.bare,Un.kept hk,⟨_,ns,fun i y v h1 h2 h3=>?_⟩,fun y c h=>?_,e0.hok.fresh (w0e _),fun y c h=>(nofree y c h).1,fun p hp=>absurd (show p∈([]:List (Addr×Obj))from hp) (by simp),e0.hok.kept hk,?_⟩
 ·have hy:scope.names.lookup y=some .cell\/scope.names.lookup y=some .free:=hy;rcases hy with hy|hy
  ·exact absurd rfl (S.nocell _ (PySem.mem_of_lookup hy))
  ·exact C.has y (PySem.mem_of_lookup hy)
 ·have h1:(ps++Nf)[i]?=some y:=h1
  by_cases hi:i<ps.length
  ·rw[w0w (by simpa [hl]using hi),w0h]at h2;rw[w0w hi]at h1
   have ha:vs[i]?=some v:=by
    cases e:vs[i]? with
    |none=>rw[e]at h2;cases h2
    |some a=>rw[e]at h2;cases h2;rfl
   obtain⟨u,hu,rv⟩:=r.get ha;exact⟨u,rv,.inl ⟨S.par y (w0u h1),y1v S.nd h1 hu⟩⟩
  ·have hi':ps.length<=i:=w4c.mp hi;rw[w1a (by simpa [hl]using hi'),w0h,w0c,hl]at h2;rw[w1a hi']at h1
   have ha:zs[i-ps.length]?=some v:=by
    cases e:zs[i-ps.length]? with
    |none=>rw[e]at h2;cases h2
    |some a=>rw[e]at h2;cases h2;rfl
   obtain⟨c,o,u,e1,e2,e3,e4⟩:=C.val _ _ _ h1 ha;exact⟨u,e4,.inr ⟨.inr (S.fr y (w0u h1)),c,e1,o,hk _ _ (C.cel c o e2).1,e3⟩⟩
 ·obtain⟨_,o,q,v,d⟩:=nofree y c h;exact⟨v,o,hk _ _ q,d⟩
 ·show _=(ps++Nf).length;simp[hl,hz]
theorem lam_run{CX:CXT}{k:Nat}{name:Str}{params:Arguments}{body:Expr}{pm ctv:Value}{c':Addr}{t:TE}{Q:VK}{E:XK}
  (hr:Room (k+1) A)(e0:Env0 P w K mg base A outer s H)(hf:H f=some (fnO (kla_obj name qual params body scope cl pm c' ctv) qual c'))
  (S:LamScope ps Nf scope)(CI:CelsIn H cs)(C:LamCells cl Nf scope zs s.heap cs)(hbind:bindArgs (PySem.W.kla_fn name qual params body scope cl pm (.ref c') ctv) ⟨us,[]⟩=pure (ps.zip us))
  (hl:vs.length=ps.length)(hz:zs.length=Nf.length)(r:Vals vs us)
  (hb:PE (cxLam P w K mg base (ps++Nf) qual scope f (.ref c') cl A outer s (rmC H cs)) body t)(hq:t (vs.map some++zs.map some) (rmC H cs) fun v H'=>(∀b o,cs.lookup b=some o->H' b=none)->Q v (addC H' cs)):
  codeAny (model P w) A (.call (.ref f) ⟨us,[]⟩) (CR CX outer P w H s Q E) s:=by
 have lim:s.heap.NoLimit:=e0.mod.nolimit.keeps fun b o e=>(e0.bs b o e).1
 obtain⟨hfo,hcd⟩:=y42 e0.hok hf
 have e1:Env0 P w K mg base A outer s (rmC H cs):=⟨e0.frames,e0.mod,fun b o q=>⟨(e0.bs b o q).1,q6k (e0.bs b o q).2⟩,e0.bsz,e0.funs,fun b hb=>q6k (e0.frf b hb),e0.hok.rm CI,e0.bare,fun a q P m=>by
  obtain⟨ps,e,p⟩:=e0.tab a q P m;exact⟨ps,CI.rm_some e (fun o z=>nomatch z),p⟩⟩
 refine PySem.W.kla_callFunE hr.depth hfo rfl S.co S.gen rfl hcd ?_;rw[hbind];refine wpAny_pure (wpAny_newFunctionEnv S.nocell (fun y hy=>S.par y.1 (w2s hy).1) (fun h₁ hns hsb=>⟨lim.fresh _ hsb,?_⟩) S.kind)
 show codeAny _ _ (.expr body (lamEnv qual scope f (.ref c') cl s)) _ _;have I:=y43 (tk:=s.toks+(ps.zip us).length) (qual:=qual) (f:=f) (cd:=.ref c') S C hr.hd e1 (fun c o q=>q8i q) hl hz r hns hsb
 refine PySem.W.kla_codeExpr (wpAny_mono (hb [] _ _ _ _ I hq) (fun u s' hs'=>?_) fun e s' z=>False.elim z)
 obtain⟨v,H',J,rv,q⟩:=hs';have un:Un (frs outer) [] (rmC H cs) H' s.heap s'.heap:=J.base;refine⟨v,addC H' cs,J.os,J.bare,un.cells CI,J.hok.add fun b o z=>?_,rv,q fun b o z=>un.free b o (C.cel b o z).1 (q8i z) (by simp)⟩
 have nf:b∉frs outer:=fun hb=>by
  have:=e0.frf b hb;rw[CI b o z]at this;cases this
 have g:=(C.cel b o z).1;exact⟨un.free b o g (q8i z) (by simp),un.keep b o g (q8i z) nf (by simp)⟩
end
def FnV(P:Program)(w:World)(K:PySem.W.Frag)(mg:Str->Option Value)(base:Heap)(CX:CXT)(k:Nat)(sp:V->List V->Hp->VK->XK->Prop):Prop:=∀(x:V)(vs:List V)(H:Hp)(Q:VK)(E:XK),sp x vs H Q E ->
 ∃f oc od fd sl u,x=.ref f/\H f=some (.frz ⟨oc,od,.func fd,sl⟩ u)/\∀(A:Around)(outer:List Env)(s:Shared)(us:List Value),Room k A->Env0 P w K mg base A outer s H->Vals vs us ->
  codeAny (model P w) A (.call (.ref f) ⟨us,[]⟩) (CR CX outer P w H s Q E) s
def IsFn(H:Hp)(x:V):Prop:=∃f oc od fd sl u,x=.ref f/\H f=some (.frz ⟨oc,od,.func fd,sl⟩ u)
theorem x7i{pos':Pos}{a b:Int}{c cv:Value}(l:List Value)(h:TriplesOk l)(z:codeAmong pos' (l++[rawInt a,rawInt b,c])=some cv):codeAmong pos' l=some cv\/cv=c:=by
 fun_induction TriplesOk l with
 |case1=>
  simp only[w2m,codeAmong,rawInt]at z;split at z
  ·cases z;exact .inr rfl
  ·cases z
 |case2 x t y u v rest ih=>
  simp only[List.cons_append,codeAmong]at z |-
  split at z
  ·rename_i hc;rw[if_pos hc];exact .inl z
  ·rename_i hc;rw[if_neg hc];exact ih h z
 |case3=>exact h.elim
def BMain(h:Heap)(mg:Str->Option Value):Prop:=∃bm ob,mg "__builtins__"=some (.ref bm)/\bm≠builtinsNs/\h.get? bm=some ob/\ob.cls=.type "module" /\ ob.dict=some builtinsNs/\ob.data=.plain
def LamAt(X:Cx)(params:Arguments)(body:Expr)(scope:Scope)(clos:List (Str×Addr))(f:Addr)(H H':Hp):Prop:=closureFor scope X.env=pure clos/\∃(H1:Hp)(pm ctv:Value)(c':Addr),(H1=H\/∃c oc,H c=none/\H1=upd H c (rawO oc))/\H1 f=none /\
 H'=upd H1 f (fnO (kla_obj "<lambda>" (X.env.qual++"<lambda>") params body scope clos pm c' ctv) (X.env.qual++"<lambda>") c')
def tLam(X:Cx)(params:Arguments)(body:Expr)(scope:Scope):TE:=fun _ H Q=>∀f clos H',LamAt X params body scope clos f H H'->Q (.ref f) H'
structure Maker(X:Cx):Prop where
 ex:∃c P a,X.env.code=.ref c/\codeHdIn X.K c P=true/\(a,markO P (X.env.qual++"<lambda>"))∈X.K
 bm:BMain X.base X.mg
section
variable{params:Arguments}{body:Expr}{scope:Scope}{lpos:Pos}
theorem y83(M:Maker X)(hdef:defaultsOf params X.env=([],[]))(hfree:∀x∈scope.names,x.2=.free->X.env.kindOf x.1=some .cell\/X.env.kindOf x.1=some .free):
  PE X (.Lambda params body scope lpos) (tLam X params body scope):=by
 intro pins s σ H Q I h;obtain⟨clos,hclos,_,_⟩:=q57 (scope:=scope) (env:=X.env) fun x hx hf=>I.ok.has x.1 (hfree x hx hf)
 obtain⟨c,P,a,hcode,hch,hmk⟩:=M.ex;have hhd:=PySem.W.codeHd_of_K I.mod.kin hch;obtain⟨ps,hP,p0,p1⟩:=I.ok.tab a _ P hmk;obtain⟨more,eP⟩:=I.base.tbls P ps hP
 have q0:(ps++more)[0]?=some (.bool true):=by
  rw[w1v (by obtain⟨z,_⟩:=w2d.mp p0;exact z)];exact p0
 have q1:(ps++more)[1]?=some (.str (X.env.qual++"<lambda>") 0):=by
  rw[w1v (by obtain⟨z,_⟩:=w2d.mp p1;exact z)];exact p1
 have oP:ObjOk X.prog X.w H s.heap P (.tbl (ps++more)):=I.hok P _ eP;rcases oP with⟨q,qs,r0,r1,g1,tr,cd⟩|⟨_,_,_,_,_,_,r0,_⟩
 case inr=>rw[q0]at r0;cases r0
 rw[q1]at r1;cases r1;have nP:∀b,H b=none->b≠P:=fun b n z=>by rw[z,eP]at n;cases n
 have hgP:mainGlobals≠P:=by
  obtain⟨o,es,ep,e,_⟩:=I.mod.glob;exact nP _ (I.bs _ o e).2
 have hB:s.heap.BuiltinsAt X.mg P:=by
  obtain⟨bm,ob,b1,b2,b3,b4,b5,b6⟩:=M.bm;refine⟨bm,ob,b1,b2,fun z=>?_,nP _ (I.bs bm ob b3).2,(I.bs bm ob b3).1,b4,b5,b6⟩
  obtain⟨o,es,ep,e,d,_⟩:=I.mod.glob;rw[z,e]at b3;cases b3;rw[d]at b6;cases b6
 have hns:=I.mod.glob.keeps I.bk;refine PySem.W.kla_eval hdef ?_;cases hc:codeAmong lpos qs.toList with
 |some cv=>
  obtain⟨c',oc,vs,t,rfl,k1,k2,k3⟩:=cd lpos cv hc;refine PySem.W.kla_makeFunctionHit (mg:=X.mg) hclos I.ok.glob hns hcode (hhd.keeps I.bk) g1 tr hc hB fun ctv h' tk hk hsz=>?_
  have fr:H h'.objs.size=none:=I.hok.fresh hsz;refine⟨.ref h'.objs.size,_,I.laid (t':=tk) (fun b u e=>Heap.get?_push_of_some _ (hk b u e)) hsz ?_,rfl,h _ clos _ ⟨hclos,H,(X.mg "__name__").getD .none,ctv,c',.inl rfl,fr,rfl⟩⟩
  exact⟨Heap.get?_push_size _ rfl,.inr ⟨_,c',oc,_,vs,t,rfl,rfl,rfl,by rw[q0d (q0m k1 fr)];exact k1,k2,k3,Heap.get?_push_size _ rfl⟩⟩
 |none=>
  refine PySem.W.kla_makeFunction (mg:=X.mg) hclos I.ok.glob hns hcode (hhd.keeps I.bk) g1 tr hc hgP hB fun c' ctv h' tk hx hge hlt hrec htb=>?_
  obtain⟨c2,oc,vs,t,ec,hoc,hd,hv⟩:=hrec;cases ec;have fc:H c'=none:=I.hok.fresh hge;have hne:∀b u,H b=some u->b≠c':=fun b u z=>q0m z fc
  have kp:∀b o,H b=none->s.heap.get? b=some o->h'.get? b=some o:=fun b o n e=>hx b o (nP b n) e
  have hok1:HOk X.prog X.w (upd H c' (rawO oc)) h':=fun a u e=>by
   by_cases ha:a=c'
   ·subst ha;rw[q0h]at e;cases e;exact⟨hoc,oc,hoc⟩
   ·rw[q0d ha]at e
    by_cases haP:a=P
    ·subst haP;rw[eP]at e;cases e;refine .inl ⟨_,_,q0,q1,htb,?_,fun pos cv z=>?_⟩
     ·rw[w4h];exact TriplesOk_snoc _ _ _ _ tr
     ·rw[w4h]at z;rcases x7i _ tr z with z|z
      ·obtain⟨d,od,vd,td,k0,k1,k2,k3⟩:=cd pos cv z;exact⟨d,od,vd,td,k0,by rw[q0d (hne d _ k1)];exact k1,k2,k3⟩
      ·exact⟨c',oc,vs,t,z,q0h,hd,hv⟩
    ·refine(I.hok a u e).stay (fun b v hb q=>hx b v ?_ q) (fun b q=>by rw[q0d (hne b _ q)];exact q) fun b v _ q=>by rw[q0d (hne b _ q)];exact q
     rcases hb with rfl|hb
     ·exact haP
     ·rintro rfl;rw[eP]at hb;cases hb
  have un:Un X.fs [] H (upd H c' (rawO oc)) s.heap h':=by
   refine⟨fun b o q n _ _=>kp b o n q,fun b o q n _ _=>⟨o.slots,kp b o n q⟩,fun b o q n _=>?_,fun b o q _=>?_,fun b xs q=>by rw[q0d (hne b _ q)];exact q,fun b o u q=>by rw[q0d (hne b _ q)];exact q,fun b qs q=>⟨#[],by rw[q0d (hne b _ q),q];simp⟩⟩
   ·rw[q0d (w0p (w0m (Heap.lt_size q) hge))];exact n
   ·by_cases hb:b=P
    ·subst hb;exact⟨_,htb⟩
    ·exact⟨o,hx b o hb q⟩
  have I1:Inv X pins σ (upd H c' (rawO oc)) {s with heap:=h',toks:=tk}:=I.un un hok1;have f1:upd H c' (rawO oc) h'.objs.size=none:=I1.hok.fresh (w0e _);refine⟨.ref h'.objs.size,_,I1.laid (t':=tk) (fun b u e=>Heap.get?_push_of_some _ e) (w0e _) ?_,rfl,h _ clos _ ⟨hclos,_,(X.mg "__name__").getD .none,ctv,c',.inr ⟨c',oc,fc,rfl⟩,f1,rfl⟩⟩
  exact⟨Heap.get?_push_size _ rfl,.inr ⟨_,c',oc,_,vs,t,rfl,rfl,rfl,by rw[q0d (q0m q0h f1)];exact q0h,hd,hv,Heap.get?_push_size _ rfl⟩⟩
end
theorem q9g{α:Type}{k:Addr}{v:α}:∀{l:List (Addr×α)},(k,v)∈l->∃v',l.lookup k=some v'
 |[],h=>nomatch h
 |(a,b)::l,h=>by
  rw[w0z]
  by_cases e:(k==a)=true
  ·rw[e];exact⟨b,rfl⟩
  ·rw[w1j.mpr e];rcases w0q.mp h with z|z
   ·cases z;simp at e
   ·exact q9g z
noncomputable def celsAt(clos:List (Str×Addr))(h:Heap):Cs:=(clos.map (·.1)).filterMap fun x=>(clos.lookup x).bind fun c=>(h.get? c).map fun o=>(c,o)
theorem q9h{clos:List (Str×Addr)}{o:Obj}(e:(celsAt clos h).lookup c=some o):∃x,clos.lookup x=some c/\h.get? c=some o:=by
 obtain⟨x,_,hx⟩:=w2j.mp (PySem.W.mem_of_lookupK e);obtain⟨c',e1,e2⟩:=w3p.mp hx;obtain⟨o',e3,e4⟩:=w0f.mp e2;cases e4;exact⟨x,e1,e3⟩
theorem x0h{clos:List (Str×Addr)}{o:Obj}(e:clos.lookup x=some c)(g:h.get? c=some o):(celsAt clos h).lookup c=some o:=by
 have hm:(c,o)∈celsAt clos h:=w2j.mpr ⟨x,w1u.mpr ⟨(x,c),PySem.mem_of_lookup e,rfl⟩,by rw[e];show(h.get? c).map _=_;rw[g];rfl⟩;obtain⟨o',e'⟩:=q9g hm;obtain⟨_,_,g'⟩:=q9h e';rw[g]at g';cases g';exact e'
structure CellsOf(clos:List (Str×Addr))(Nf:List Str)(scope:Scope)(js:List Nat)(σ:St)(H:Hp)(cs:Cs):Prop where
 inj:∀x y c,clos.lookup x=some c->clos.lookup y=some c->x=y
 has:∀x,(x,NameKind.free)∈scope.names->∃c,clos.lookup x=some c
 all:∀x c,clos.lookup x=some c->∃o,cs.lookup c=some o
 cel:∀c o,cs.lookup c=some o->H c=none/\∃v,o.data=.cell v
 val:∀(i:Nat) y j z,Nf[i]?=some y->js[i]?=some j->σ[j]?=some (some z)->∃c o u,clos.lookup y=some c/\cs.lookup c=some o/\o.data=.cell (some u)/\RelV z u
theorem x5n{outer:List Env}{s':Shared}{E:XK}{e:Value}(hc:∀b o,cs.lookup b=some o->H b=none/\s.heap.get? b=some o)
  (x:CX1 P w outer (addC H cs) s (fun c o H'=>E c o (rmC H' cs)) e s'):CX1 P w outer H s E e s':=by
 obtain⟨e,cls,H',B,rfl,hos,hg,un,hok,fly,hE⟩:=x;have CI:CelsIn H' cs:=fun b o z=>un.frzs b o _ (q2g z)
 refine⟨e,cls,rmC H' cs,B,rfl,hos,hg,un.nocells hok hc,hok.rm CI,⟨fly.fl,fun b o q n nb=>?_,fun b u o q z=>fly.trk b u o (x7h q).1 z,fly.all,fly.new⟩,hE⟩
 cases z:cs.lookup b with
 |some o'=>
  have:=(hc b o' z).2;rw[q]at this;cases this;exact fly.trk b _ o (CI b o z) ((show s'.heap.get? b=some o/\_ from hok b _ (CI b o z)).1)
 |none=>exact fly.old b o q (by rw[q0w z];exact n) nb
theorem pure_inj{α:Type}{a b:α}(h:(pure a:Sem α)=pure b):a=b:=by
 first
  |exact PySem.Sem.pure_inj h
  |(injection h)
  |(cases h;rfl)
section
variable{k:Nat}{fd:FuncData}{sp:Sp}
theorem y44{pins:List (Addr×Obj)}{σ:St}{Q:VK}{us:List Value}{vs:List V}{cs:Cs}(F:FnOk X.prog X.w X.K X.mg X.base (CX1 X.prog X.w) k f fd ps sp)(hr:Room k X.A)(hb:Binds X.K fd ps [])(hx:PassX (CX1 X.prog X.w) X EE)
  (I:Inv X pins σ H s)(hc:∀b o,cs.lookup b=some o->H b=none/\s.heap.get? b=some o)(hv:∀b o,cs.lookup b=some o->b∉frs X.stack)(hn:∀b o,cs.lookup b=some o->X.base.get? b=none)(r:Vals vs us)
  (h:sp vs (addC H cs) (fun v H'=>Q v (rmC H' cs)) fun c o H'=>EE σ c o (rmC H' cs)):wpAny (model X.prog X.w) X.A (call (.ref f) us) (EP X pins σ Q) X.xe s:=by
 have hl:us.length=ps.length:=by rw[<- r.length];exact F.len _ _ _ _ h
 have e0:=I.env0
 have out:∀b,H b=none->(∀o,cs.lookup b≠some o)->addC H cs b=none:=fun b n z=>by
  cases q:cs.lookup b with
  |some o=>exact absurd q (z o)
  |none=>rw[q0w q];exact n
 have e1:Env0 X.prog X.w X.K X.mg X.base X.A X.stack s (addC H cs):=by
  refine⟨e0.frames,e0.mod,fun b o q=>⟨(e0.bs b o q).1,out b (e0.bs b o q).2 fun o' z=>?_⟩,e0.bsz,e0.funs,fun b hb=>out b (e0.frf b hb) fun o z=>?_,e0.hok.add hc,e0.bare,fun a q P m=>?_⟩
  ·rw[hn b o' z]at q;cases q
  ·exact hv b o z hb
  ·obtain⟨ps,e,p⟩:=e0.tab a q P m;refine⟨ps,?_,p⟩;cases z:cs.lookup P with
   |some o=>rw[(hc P o z).1]at e;cases e
   |none=>rw[q0w z];exact e
 have hbb:=hb s us I.kIn (by rw[w1n];exact hl);rw[w1n]at hbb;refine wpAny_call (codeAny_mono (F.run X.A X.stack s (addC H cs) ⟨us,[]⟩ us vs _ _ hr e1 hbb r h) fun r s' hq=>?_)
 cases r with
 |error e=>exact hx pins σ H s e s' I (x5n hc hq)
 |ok fl=>
  cases fl with
  |ret u=>
   obtain⟨v,H',os,bare,un,hok,rv,q⟩:=hq;have CI:CelsIn H' cs:=fun b o z=>un.frzs b o _ (q2g z)
   exact I.after ⟨v,rmC H' cs,os,bare,un.nocells hok hc,hok.rm CI,rv,q⟩
  |next=>exact False.elim hq
  |brk=>exact False.elim hq
  |cont=>exact False.elim hq
def LamQ(sp:Sp)(X:Cx)(scope:Scope)(Nf:List Str)(js:List Nat)(E:XK)(σ:St)(Q:VK)(vs:List V)(H2:Hp):Prop:=∃clos,closureFor scope X.env=pure clos/\∀cs,CellsOf clos Nf scope js σ H2 cs ->
 sp vs (addC H2 cs) (fun v H'=>Q v (rmC H' cs)) fun c o H'=>E c o (rmC H' cs)
def tLamCall(sp:Sp)(X:Cx)(params:Arguments)(body:Expr)(scope:Scope)(Nf:List Str)(js:List Nat)(EE:L2.St->XK)(te:TE):TE:=fun σ H Q=>te σ H fun v1 H1=>∀f clos H2,LamAt X params body scope clos f H1 H2->LamQ sp X scope Nf js (EE σ) σ Q [v1,.ref f] H2
theorem x7j{params:Arguments}{body:Expr}{scope:Scope}{lpos:Pos}{Nf:List Str}{js:List Nat}{te:TE}(F:FnOk X.prog X.w X.K X.mg X.base (CX1 X.prog X.w) k f fd ps sp)(hr:Room k X.A)(hg:Gl X x)(hm:X.mg x=some (.ref f))(hk:keepIn X.K (.ref f)=true)
  (hb:Binds X.K fd ps [])(hx:PassX (CX1 X.prog X.w) X EE)(M:Maker X)(hfn:∀y,X.fn y=true)(he:PE X e te)(hdef:defaultsOf params X.env=([],[]))
  (hfree:∀x∈scope.names,x.2=.free->X.env.kindOf x.1=some .cell\/X.env.kindOf x.1=some .free)
  (hNf:∀(i j:Nat) y,Nf[i]?=some y->js[i]?=some j->X.N[j]?=some y/\(y,NameKind.free)∈scope.names/\Vis X.env.scope y/\X.env.kindOf y≠some .local)
  (hdb:(x==("__debug__":Str))=false:=by decide)(hst:starEach [e,.Lambda params body scope lpos] X.env=(false,eval e X.env)::starEach [.Lambda params body scope lpos] X.env:=by rfl)
  (hst2:starEach [.Lambda params body scope lpos] X.env=(false,eval (.Lambda params body scope lpos) X.env)::starEach [] X.env:=by rfl)(hpl:(backTo pos (starEach [.Lambda params body scope lpos] X.env)).any (·.1)=false:=by rfl):
  PE X (.Call (.Name x p) [e,.Lambda params body scope lpos] [] pos) (tLamCall sp X params body scope Nf js EE te):=by
 intro pins s σ H Q I h;have ha:PA X [e,.Lambda params body scope lpos] (tCons te (tCons (tLam X params body scope) tNil)):=q0s he (q0s (y83 M hdef hfree) q1z hst2) hst;refine wpAny_Call_Name_kw (q5b I hg hm ?_ hdb);refine callWith_K (h₀:=X.base) I.ok.mod.kin hk (thn (ha pos pins s σ H (LamQ sp X scope Nf js (EE σ) σ Q) I h) fun us s1 ⟨vs,H2,I2,r,clos,hclos,q⟩=>⟨I2.kIn,?_⟩) hst hpl
 obtain⟨clos',hclos',hcl,hcf⟩:=q57 (scope:=scope) (env:=X.env) fun x hx hf=>I.ok.has x.1 (hfree x hx hf)
 obtain rfl:clos'=clos:=pure_inj (hclos'.symm.trans hclos)
 have look:∀b o,(celsAt clos' s1.heap).lookup b=some o->∃x,X.env.cells.lookup x=some b/\s1.heap.get? b=some o:=fun b o z=>by
  obtain⟨x,h1,h2⟩:=q9h z;exact⟨x,hcl x b h1,h2⟩
 have hnone:∀b o,(celsAt clos' s1.heap).lookup b=some o->H2 b=none/\s1.heap.get? b=some o:=fun b o z=>by
  obtain⟨x,h1,h2⟩:=look b o z;exact⟨I2.freeC x b h1,h2⟩
 have hab:∀b o,(celsAt clos' s1.heap).lookup b=some o->X.s₀.heap.objs.size<=b:=fun b o z=>by
  obtain⟨x,h1,h2⟩:=look b o z;exact I2.ok.cab x b (hfn x) h1
 refine y44 (cs:=celsAt clos' s1.heap) F hr hb hx I2 hnone (fun b o z hb=>?_) (fun b o z=>Heap.get?_none_of_le (w1e I2.ok.bsz (hab b o z))) r (q _ ⟨fun x y c e1 e2=>I2.ok.inj x y c (hcl x c e1) (hcl y c e2),hcf,fun x c e=>?_,fun c o e=>⟨(hnone c o e).1,?_⟩,fun i y j z e1 e2 e3=>?_⟩)
 ·rcases w0q.mp (I2.stkSub b hb)with e|hb2
  ·obtain⟨x,h1,_⟩:=look b o z;exact I2.cne x b h1 e
  ·obtain⟨_,o',q',_⟩:=I2.ok.funs.mem hb2
   exact absurd (Heap.lt_size q') (w4c.mpr (hab b o z))
 ·obtain⟨v,o,g,_⟩:=I2.cell x c (hcl x c e);exact⟨o,x0h e g⟩
 ·obtain⟨x,h1,h2⟩:=look c o e;obtain⟨v,o',g,d⟩:=I2.cell x c h1;rw[h2]at g;cases g;exact⟨v,d⟩
 ·obtain⟨n1,n2,n3,n4⟩:=hNf i j y e1 e2;obtain⟨m,hm,hl⟩:=I2.loc;obtain⟨u,ru,l⟩:=hl j y z n1 e3 n3;rcases l with⟨k1,_⟩|⟨k1,c,ec,o,g,d⟩
  ·exact absurd k1 n4
  ·obtain⟨c',ec'⟩:=hcf y n2;have e4:=hcl y c' ec';rw[ec]at e4;cases e4;exact⟨c,o,u,ec',x0h ec' g,d,ru⟩
end
end L2
set_option maxHeartbeats 1000000
namespace D
open PySem L2
variable{a:Addr}{X:Cx}{G G' G1 H H' H1:Hp}{EE:L2.St->XK}{es:List Expr}{ps:List Str}{vs xs:List V}{r:List V->Hp->VK->Prop}{i:Nat}{b:Option Nat}{p pos pos':Pos}{K:PySem.W.Frag}{σ:St}{st:Stmt}{x:Str}{α:Type}{v:V}
noncomputable abbrev Sv:=Int ⊕ Bool
inductive Dd where
 |k (kvs:List (Key×Sv))
structure Lm where
 qual:Str
 params:Arguments
 body:Expr
 scope:Scope
 nf:List Str
set_option genInjectivity true in
inductive W where
 |non|bl (b:Bool)|int (i:Int)|str (x:Str)|tup (xs:List W)|lst (xs:List W)|exc (c:Value)|dic (kvs:Dd)|dw (fz:Bool) (sh:Sh) (ks:List Kx) (ws:List W)|fn (i:Nat) (l:Lm) (ws:List W)
variable{ws:List W}{w:W}{f:W->W->Option W}
inductive SK where
 |old (w:W)|new (w:W)|acc (ws:List W)|thro (us ws vs:List W)|tn (us:List W) (wss:List (List W))|pt (us ws:List W) (w:W)
inductive S where
 |no|fr (w:W)|own (io:Option Nat) (ws:List W)|dic (kvs:Dd)|thr (us ws vs:List W)|nest (wss:List (List W))|dw (sh:Sh) (ks:List Kx) (ws:List W)|x (k:SK)
variable{e e1:List S}{E:Value->List S->Prop}
noncomputable def SK.plain:SK->Option W
 |.old w=>some w
 |.new w=>some w
 |_=>none
noncomputable def SK.look:SK->Option W
 |.old w=>some w
 |.new w=>some w
 |.acc ws=>some (.lst ws)
 |_=>none
noncomputable def sV:Sv->V
 |.inl i=>.int i
 |.inr b=>.bl b
noncomputable def kvV{κ:Type}(kvs:List (κ×Sv)):List (κ×V):=kvs.map fun p=>(p.1,sV p.2)
noncomputable def dO:Dd->HO
 |.k kvs=>.dK (kvV kvs)
noncomputable def isDic:HO->Bool
 |.dK _=>true
 |_=>false
theorem q5p{d:Dd}{u:HO}(h:isDic u=false):dO d≠u:=fun z=>by
 subst z;cases d<;>cases h
def KeysG(G:Hp):List Kx->List Addr->Prop
 |[],[]=>True
 |k::ks,b::bs=>KRep G k (.ref b)/\KeysG G ks bs
 |[],_::_=>False
 |_::_,[]=>False
theorem KeysG.mono(e:Same G G'):∀{ks:List Kx}{bs:List Addr},KeysG G ks bs->KeysG G' ks bs
 |[],[],_=>trivial
 |k::ks,b::bs,h=>⟨KRep.keeps (fun _ _ _ z=>e _ _ z) k h.1,KeysG.mono e h.2⟩
 |[],_::_,h=>h.elim
 |_::_,[],h=>h.elim
def DAt(fz:Bool)(G:Hp)(a:Addr)(sh:Sh)(kvs:List (Kx×V))(kas:List Addr):Prop:=if fz=true then ∃o,G a=some (.frz o (.dT sh kvs kas))else G a=some (.dT sh kvs kas)
theorem DAt.mono{fz:Bool}{sh:Sh}{kvs:List (Kx×V)}{kas:List Addr}(e:Same G G')(h:DAt fz G a sh kvs kas):DAt fz G' a sh kvs kas:=by
 cases fz with
 |true=>obtain⟨o,h⟩:=h;exact⟨o,e _ _ h⟩
 |false=>exact e _ _ h
structure FnCells(G:Hp)(cl:List (Str×Addr))(l:Lm)(zs:List V)(cs:Cs):Prop where
 inj:∀x y c,cl.lookup x=some c->cl.lookup y=some c->x=y
 has:∀x,(x,NameKind.free)∈l.scope.names->∃c,cl.lookup x=some c
 all:∀x c,cl.lookup x=some c->∃o,cs.lookup c=some o
 cel:∀c o,cs.lookup c=some o->G c=some (celO o)/\∃v,o.data=.cell v
 val:∀(i:Nat) y z,l.nf[i]?=some y->zs[i]?=some z->∃c o u,cl.lookup y=some c/\cs.lookup c=some o/\o.data=.cell (some u)/\RelV z u
 len:zs.length=l.nf.length
theorem FnCells.mono{cl:List (Str×Addr)}{l:Lm}{zs:List V}{cs:Cs}(e:Same G G')(h:FnCells G cl l zs cs):FnCells G' cl l zs cs:=⟨h.inj,h.has,h.all,fun c o q=>⟨e _ _ (h.cel c o q).1,(h.cel c o q).2⟩,h.val,h.len⟩
def FnAtG(G:Hp)(l:Lm)(cl:List (Str×Addr))(f:Addr):Prop:=∃pm c' ctv,G f=some (fnO (kla_obj "<lambda>" l.qual l.params l.body l.scope cl pm c' ctv) l.qual c')
inductive RefTo(v:V)(P Q:Addr->List V->Prop):Prop where
 |mk (a:Addr) (xs:List V) (h:v=.ref a) (p:P a xs) (q:Q a xs):RefTo v P Q
inductive ConsOf(xs:List V)(P:V->Prop)(Q:List V->Prop):Prop where
 |mk (x:V) (r:List V) (h:xs=x::r) (p:P x) (q:Q r):ConsOf xs P Q
mutual
def Rep(K:PySem.W.Frag)(G:Hp):W->V->Prop
 |.non,v=>v=.non
 |.bl b,v=>v=.bl b
 |.int i,v=>v=.int i
 |.str x,v=>v=.str x
 |.tup ws,v=>RefTo v (SqT K G) fun _ xs=>Reps K G ws xs
 |.lst ws,v=>RefTo v (SqL K G) fun _ xs=>Reps K G ws xs
 |.exc c,v=>∃e,v=.ref e/\G e=some (excO e c)
 |.dic kvs,v=>∃e,v=.ref e/\G e=some (dO kvs)
 |.dw fz sh ks ws,v=>∃a kvs kas,v=.ref a/\DAt fz G a sh kvs kas/\kvs.map (·.1)=ks/\KeysG G ks kas/\Reps K G ws (kvs.map (·.2))
 |.fn _ l ws,v=>∃f cl zs cs,v=.ref f/\FnAtG G l cl f/\FnCells G cl l zs cs/\Reps K G ws zs
def Reps(K:PySem.W.Frag)(G:Hp):List W->List V->Prop
 |[],xs=>xs=[]
 |w::ws,xs=>ConsOf xs (Rep K G w) (Reps K G ws)
end
mutual
theorem Rep.mono{K:PySem.W.Frag}{G G':Hp}(e:Same G G'):∀(w:W){v:V},Rep K G w v->Rep K G' w v
 |.non,v,h=>h
 |.bl b,v,h=>h
 |.int i,v,h=>h
 |.str x,v,h=>h
 |.tup ws,v,h=>by
  obtain⟨a,xs,rfl,q,r⟩:=h;exact⟨a,xs,rfl,e.tup q,Reps.mono e ws r⟩
 |.lst ws,v,h=>by
  obtain⟨a,xs,rfl,q,r⟩:=h;exact⟨a,xs,rfl,e.seq q,Reps.mono e ws r⟩
 |.exc c,v,h=>by
  obtain⟨a,rfl,q⟩:=h;exact⟨a,rfl,e _ _ q⟩
 |.dic kvs,v,h=>by
  obtain⟨a,rfl,q⟩:=h;exact⟨a,rfl,e _ _ q⟩
 |.dw fz sh ks ws,v,h=>by
  obtain⟨a,kvs,kas,rfl,h1,h2,h3,h4⟩:=h;exact⟨a,kvs,kas,rfl,h1.mono e,h2,h3.mono e,Reps.mono e ws h4⟩
 |.fn i l ws,v,h=>by
  obtain⟨f,cl,zs,cs,rfl,⟨pm,c',ctv,h1⟩,h2,h3⟩:=h;exact⟨f,cl,zs,cs,rfl,⟨pm,c',ctv,e _ _ h1⟩,h2.mono e,Reps.mono e ws h3⟩
theorem Reps.mono{K:PySem.W.Frag}{G G':Hp}(e:Same G G'):∀(ws:List W){xs:List V},Reps K G ws xs->Reps K G' ws xs
 |[],xs,h=>h
 |w::ws,xs,h=>by
  obtain⟨x,r,rfl,h1,h2⟩:=h;exact⟨x,r,rfl,Rep.mono e w h1,Reps.mono e ws h2⟩
end
theorem Reps.length:∀{ws:List W}{xs:List V},Reps K G ws xs->xs.length=ws.length
 |[],xs,h=>by cases h;rfl
 |w::ws,xs,h=>by
  obtain⟨x,r,rfl,_,h2⟩:=h;simp[Reps.length h2]
theorem Reps.get:∀{ws:List W}{xs:List V}{i:Nat}{w:W},Reps K G ws xs->ws[i]?=some w->∃x,xs[i]?=some x/\Rep K G w x
 |[],xs,i,w,h,e=>by simp at e
 |w'::ws,xs,0,w,h,e=>by
  obtain⟨x,r,rfl,h1,h2⟩:=h;simp at e;subst e;exact⟨x,rfl,h1⟩
 |w'::ws,xs,i+1,w,h,e=>by
  obtain⟨x,r,rfl,h1,h2⟩:=h;obtain⟨y,e1,e2⟩:=Reps.get (i:=i) h2 (by simpa using e);exact⟨y,by simpa using e1,e2⟩
theorem Reps.getV:∀{ws:List W}{xs:List V}{i:Nat}{x:V},Reps K G ws xs->xs[i]?=some x->∃w,ws[i]?=some w/\Rep K G w x:=fun {ws xs i x} h e=>by
 have hl:=h.length;have hi:i<xs.length:=(w0b.mp e).1;have e2:ws[i]?=some ws[i]:=w0a (by omega);obtain⟨y,e3,r⟩:=h.get e2;rw[e]at e3;cases e3;exact⟨_,e2,r⟩
theorem Reps.append:∀{ws ws':List W}{xs xs':List V},Reps K G ws xs->Reps K G ws' xs'->Reps K G (ws++ws') (xs++xs')
 |[],ws',xs,xs',h,h'=>by cases h;exact h'
 |w::ws,ws',xs,xs',h,h'=>by
  obtain⟨x,r,rfl,h1,h2⟩:=h;exact⟨x,r++xs',rfl,h1,Reps.append h2 h'⟩
theorem Reps.one{x:V}(h:Rep K G w x):Reps K G [w] [x]:=⟨x,[],rfl,h,rfl⟩
theorem Reps.take:∀(n:Nat){ws:List W}{xs:List V},Reps K G ws xs->Reps K G (ws.take n) (xs.take n)
 |0,_,_,_=>rfl
 |n+1,[],_,h=>by cases h;rfl
 |n+1,w::ws,_,h=>by
  obtain⟨x,r,rfl,h1,h2⟩:=h;exact⟨x,r.take n,rfl,h1,Reps.take n h2⟩
theorem Reps.drop:∀(n:Nat){ws:List W}{xs:List V},Reps K G ws xs->Reps K G (ws.drop n) (xs.drop n)
 |0,_,_,h=>h
 |n+1,[],_,h=>by cases h;rfl
 |n+1,w::ws,_,h=>by
  obtain⟨x,r,rfl,h1,h2⟩:=h;exact Reps.drop n h2
theorem Reps.dropLast(h:Reps K G ws xs):Reps K G ws.dropLast xs.dropLast:=by
 rw[w3w,w3w,h.length];exact h.take _
theorem Reps.set:∀(i:Nat){ws:List W}{xs:List V}{w:W}{x:V},Reps K G ws xs->Rep K G w x->Reps K G (ws.set i w) (xs.set i x)
 |_,[],_,_,_,h,_=>by cases h;rfl
 |0,w'::ws,_,w,x,h,q=>by
  obtain⟨y,r,rfl,h1,h2⟩:=h;exact⟨x,r,rfl,q,h2⟩
 |i+1,w'::ws,_,w,x,h,q=>by
  obtain⟨y,r,rfl,h1,h2⟩:=h;exact⟨y,r.set i x,rfl,h1,Reps.set i h2 q⟩
structure Zt where
 H:Hp
 G:Hp
 io:List Addr
variable{Z Z':Zt}
def FzAt(Z:Zt)(G H:Hp)(l:Addr)(o:Obj)(ys:List V):Prop:=H l=some (.frz o (.lst ys))/\G l=none/\Z.H l=none
def NestIn(K:PySem.W.Frag)(Z:Zt)(G H:Hp):List Addr->List (List W)->Prop
 |[],[]=>True
 |l::ls,ws::wss=>(∃o ys,FzAt Z G H l o ys/\Reps K G ws ys)/\NestIn K Z G H ls wss
 |[],_::_=>False
 |_::_,[]=>False
inductive NestOk(K:PySem.W.Frag)(Z:Zt)(G H:Hp)(wss:List (List W))(v:Option V):Prop where
 |mk (a:Addr) (ls:List Addr) (h1:v=some (.ref a)) (h2:G a=some (.lst (ls.map V.ref))) (h3:ls.Nodup) (h4:NestIn K Z G H ls wss):NestOk K Z G H wss v
theorem NestIn.move(sg:Same G G')(hf:∀l o ys,H l=some (.frz o (.lst ys))->G l=none->Z.H l=none->H' l=some (.frz o (.lst ys))/\G' l=none/\Z'.H l=none):∀{ls:List Addr}{wss:List (List W)},NestIn K Z G H ls wss->NestIn K Z' G' H' ls wss
 |[],[],_=>trivial
 |l::ls,ws::wss,⟨⟨o,ys,⟨h1,h2,h3⟩,h4⟩,h⟩=>⟨⟨o,ys,hf l o ys h1 h2 h3,Reps.mono sg ws h4⟩,h.move sg hf⟩
 |[],_::_,h=>h.elim
 |_::_,[],h=>h.elim
theorem NestOk.move{wss:List (List W)}{v:Option V}(q:NestOk K Z G H wss v)(sg:Same G G')(hf:∀l o ys,H l=some (.frz o (.lst ys))->G l=none->Z.H l=none->H' l=some (.frz o (.lst ys))/\G' l=none/\Z'.H l=none):NestOk K Z' G' H' wss v:=by
 obtain⟨a,ls,h1,h2,h3,h4⟩:=q;exact⟨a,ls,h1,sg _ _ h2,h3,h4.move sg hf⟩
inductive DwOk(K:PySem.W.Frag)(Z:Zt)(G H:Hp)(sh:Sh)(ks:List Kx)(ws:List W)(v:Option V):Prop where
 |mk (a:Addr) (kvs:List (Kx×V)) (kas:List Addr) (h1:v=some (.ref a)) (h2:H a=some (.dT sh kvs kas)) (h3:G a=none) (h4:Z.H a=none) (h5:kvs.map (·.1)=ks) (h6:KeysG G ks kas) (h7:Reps K G ws (kvs.map (·.2))):DwOk K Z G H sh ks ws v
theorem DwOk.move{sh:Sh}{ks:List Kx}{v:Option V}(q:DwOk K Z G H sh ks ws v)(sg:Same G G')(hf:∀a kvs kas,H a=some (.dT sh kvs kas)->G a=none->Z.H a=none->H' a=some (.dT sh kvs kas)/\G' a=none/\Z'.H a=none):DwOk K Z' G' H' sh ks ws v:=by
 obtain⟨a,kvs,kas,h1,h2,h3,h4,h5,h6,h7⟩:=q;obtain⟨k1,k2,k3⟩:=hf a kvs kas h2 h3 h4;exact⟨a,kvs,kas,h1,k1,k2,k3,h5,h6.mono sg,Reps.mono sg ws h7⟩
mutual
def RepN(K:PySem.W.Frag)(Z:Zt)(G:Hp):W->V->Prop
 |.non,v=>v=.non
 |.bl b,v=>v=.bl b
 |.int i,v=>v=.int i
 |.str x,v=>v=.str x
 |.tup ws,v=>RefTo v (SqT K G) fun _ xs=>RepNs K Z G ws xs
 |.lst ws,v=>RefTo v (fun a xs=>G a=some (.lst xs)) fun a xs=>Z.H a=none/\RepNs K Z G ws xs
 |.exc _,_=>False
 |.dic _,_=>False
 |.dw _ _ _ _,_=>False
 |.fn _ _ _,_=>False
def RepNs(K:PySem.W.Frag)(Z:Zt)(G:Hp):List W->List V->Prop
 |[],xs=>xs=[]
 |w::ws,xs=>ConsOf xs (RepN K Z G w) (RepNs K Z G ws)
end
mutual
theorem RepN.rep{K:PySem.W.Frag}{Z:Zt}{G:Hp}:∀(w:W){v:V},RepN K Z G w v->Rep K G w v
 |.non,_,h=>h
 |.bl _,_,h=>h
 |.int _,_,h=>h
 |.str _,_,h=>h
 |.tup ws,_,⟨a,xs,e,q,r⟩=>⟨a,xs,e,q,RepNs.reps ws r⟩
 |.lst ws,_,⟨a,xs,e,q,_,r⟩=>⟨a,xs,e,.inl (.inl q),RepNs.reps ws r⟩
 |.exc _,_,h=>h.elim
 |.dic _,_,h=>h.elim
 |.dw _ _ _ _,_,h=>h.elim
 |.fn _ _ _,_,h=>h.elim
theorem RepNs.reps{K:PySem.W.Frag}{Z:Zt}{G:Hp}:∀(ws:List W){vs:List V},RepNs K Z G ws vs->Reps K G ws vs
 |[],_,h=>h
 |w::ws,_,⟨x,r,e,p,q⟩=>⟨x,r,e,RepN.rep w p,RepNs.reps ws q⟩
end
mutual
theorem RepN.move{K:PySem.W.Frag}{Z Z':Zt}{G G':Hp}(sg:Same G G')(hz:∀a xs,G a=some (.lst xs)->Z.H a=none->Z'.H a=none):∀(w:W){v:V},RepN K Z G w v->RepN K Z' G' w v
 |.non,_,h=>h
 |.bl _,_,h=>h
 |.int _,_,h=>h
 |.str _,_,h=>h
 |.tup ws,_,⟨a,xs,e,q,r⟩=>⟨a,xs,e,sg.tup q,RepNs.move sg hz ws r⟩
 |.lst ws,_,⟨a,xs,e,q,n,r⟩=>⟨a,xs,e,sg _ _ q,hz _ _ q n,RepNs.move sg hz ws r⟩
 |.exc _,_,h=>h.elim
 |.dic _,_,h=>h.elim
 |.dw _ _ _ _,_,h=>h.elim
 |.fn _ _ _,_,h=>h.elim
theorem RepNs.move{K:PySem.W.Frag}{Z Z':Zt}{G G':Hp}(sg:Same G G')(hz:∀a xs,G a=some (.lst xs)->Z.H a=none->Z'.H a=none):∀(ws:List W){vs:List V},RepNs K Z G ws vs->RepNs K Z' G' ws vs
 |[],_,h=>h
 |w::ws,_,⟨x,r,e,p,q⟩=>⟨x,r,e,RepN.move sg hz w p,RepNs.move sg hz ws q⟩
end
inductive AccOk(K:PySem.W.Frag)(Z:Zt)(G H:Hp)(ws:List W)(v:Option V):Prop where
 |mk (a:Addr) (o:Obj) (xs:List V) (h1:v=some (.ref a)) (h2:FzAt Z G H a o xs) (h3:RepNs K Z G ws xs):AccOk K Z G H ws v
inductive ThroOk(K:PySem.W.Frag)(Z:Zt)(G H:Hp)(us ws vs:List W)(v:Option V):Prop where
 |mk (t l:Addr) (o:Obj) (xs ys zs:List V) (h1:v=some (.ref t)) (h2:Z.G t=some (.tup (xs++.ref l::zs))) (h3:G t=some (.tup (xs++.ref l::zs))) (h4:FzAt Z G H l o ys) (h5:Reps K Z.G us xs/\Reps K Z.G ws ys/\Reps K Z.G vs zs) (h6:Reps K G us xs/\Reps K G ws ys/\Reps K G vs zs):ThroOk K Z G H us ws vs v
inductive TnOk(K:PySem.W.Frag)(Z:Zt)(G H:Hp)(us:List W)(wss:List (List W))(v:Option V):Prop where
 |mk (t l:Addr) (o:Obj) (ls:List Addr) (xs:List V) (h1:v=some (.ref t)) (h2:G t=some (.tup (xs++[.ref l]))) (h3:FzAt Z G H l o (ls.map V.ref)) (h4:ls.Nodup/\l∉ls) (h5:Reps K G us xs) (h6:NestIn K Z G H ls wss):TnOk K Z G H us wss v
inductive PtOk(K:PySem.W.Frag)(Z:Zt)(G H:Hp)(us ws:List W)(w:W)(v:Option V):Prop where
 |mk (p t l:Addr) (o:Obj) (xs ys:List V) (x:V) (h1:v=some (.ref p)) (h2:G p=some (.tup [.ref t,x])) (h3:G t=some (.tup (xs++[.ref l]))) (h4:FzAt Z G H l o ys) (h5:Reps K G us xs) (h6:Reps K G ws ys) (h7:Rep K G w x):PtOk K Z G H us ws w v
def XOk(K:PySem.W.Frag)(Z:Zt)(G H:Hp):SK->Option V->Prop
 |.old w,v=>∃u,v=some u/\Rep K Z.G w u/\Rep K G w u
 |.new w,v=>∃u,v=some u/\RepN K Z G w u
 |.acc ws,v=>AccOk K Z G H ws v
 |.thro us ws vs,v=>ThroOk K Z G H us ws vs v
 |.tn us wss,v=>TnOk K Z G H us wss v
 |.pt us ws w,v=>PtOk K Z G H us ws w v
theorem XOk.move{k:SK}{v:Option V}(q:XOk K Z G H k v)(sg:Same G G')(hf:∀l o ys,H l=some (.frz o (.lst ys))->G l=none->Z.H l=none->H' l=some (.frz o (.lst ys))/\G' l=none/\Z.H l=none):XOk K Z G' H' k v:=by
 cases k with
 |old w=>obtain⟨u,h1,h2,h3⟩:=q;exact⟨u,h1,h2,Rep.mono sg w h3⟩
 |new w=>obtain⟨u,h1,h2⟩:=q;exact⟨u,h1,RepN.move sg (fun _ _ _ z=>z) w h2⟩
 |acc ws=>obtain⟨a,o,xs,h1,⟨h2,h3,h4⟩,h5⟩:=q;exact⟨a,o,xs,h1,hf _ _ _ h2 h3 h4,RepNs.move sg (fun _ _ _ z=>z) ws h5⟩
 |tn us wss=>obtain⟨t,l,o,ls,xs,h1,h2,⟨h3,h4,h5⟩,h6,h7,h8⟩:=q;exact⟨t,l,o,ls,xs,h1,sg _ _ h2,hf _ _ _ h3 h4 h5,h6,Reps.mono sg us h7,h8.move sg hf⟩
 |pt us ws w=>obtain⟨p,t,l,o,xs,ys,x,h1,h2,h3,⟨h4,h5,h6⟩,h7,h8,h9⟩:=q;exact⟨p,t,l,o,xs,ys,x,h1,sg _ _ h2,sg _ _ h3,hf _ _ _ h4 h5 h6,Reps.mono sg us h7,Reps.mono sg ws h8,Rep.mono sg w h9⟩
 |thro us ws vs=>obtain⟨t,l,o,xs,ys,zs,h1,h2,h3,⟨h4,h5,h6⟩,h7,h8,h9,h10⟩:=q;exact⟨t,l,o,xs,ys,zs,h1,h2,sg _ _ h3,hf _ _ _ h4 h5 h6,h7,Reps.mono sg us h8,Reps.mono sg ws h9,Reps.mono sg vs h10⟩
def IoOk(Z:Zt):Option Nat->Addr->Prop
 |none,a=>Z.H a=none
 |some j,a=>Z.io[j]?=some a
theorem IoOk.io(h:IoOk Z b a):a∈Z.io\/Z.H a=none:=by
 cases b with
 |none=>exact .inr h
 |some j=>exact .inl (w0u h)
inductive OwnOk(K:PySem.W.Frag)(Z:Zt)(G H:Hp)(b:Option Nat)(ws:List W)(v:Option V):Prop where
 |mk (a:Addr) (xs:List V) (h1:v=some (.ref a)) (h2:H a=some (.lst xs)) (h3:G a=none) (h4:IoOk Z b a) (h5:Reps K G ws xs):OwnOk K Z G H b ws v
inductive DicOk(Z:Zt)(G H:Hp)(kvs:Dd)(v:Option V):Prop where
 |mk (a:Addr) (h1:v=some (.ref a)) (h2:H a=some (dO kvs)) (h3:G a=none) (h4:Z.H a=none):DicOk Z G H kvs v
inductive ThrOk(K:PySem.W.Frag)(Z:Zt)(G H:Hp)(us ws vs:List W)(v:Option V):Prop where
 |mk (t l:Addr) (o:Obj) (xs ys zs:List V) (h1:v=some (.ref t)) (h2:G t=some (.tup (xs++.ref l::zs))) (h3:H l=some (.frz o (.lst ys))) (h4:G l=none) (h5:Z.H l=none) (h6:Reps K G us xs/\Reps K G ws ys/\Reps K G vs zs):ThrOk K Z G H us ws vs v
def SlotOk(K:PySem.W.Frag)(Z:Zt)(G H:Hp):S->Option V->Prop
 |.no,_=>True
 |.fr w,v=>∃u,v=some u/\Rep K G w u
 |.own b ws,v=>OwnOk K Z G H b ws v
 |.dic kvs,v=>DicOk Z G H kvs v
 |.thr us ws vs,v=>ThrOk K Z G H us ws vs v
 |.nest wss,v=>NestOk K Z G H wss v
 |.dw sh ks ws,v=>DwOk K Z G H sh ks ws v
 |.x k,v=>XOk K Z G H k v
structure Rel(K:PySem.W.Frag)(Z:Zt)(G:Hp)(σ:St)(H:Hp)(e:List S):Prop where
 sub:Same G H
 slot:∀(i:Nat)(s:S),e[i]?=some s->SlotOk K Z G H s (σ[i]?.getD none)
 len:e.length=σ.length
 dis:∀(i j:Nat)(b b':Option Nat)(ws ws':List W)(a:Addr),e[i]?=some (.own b ws)->e[j]?=some (.own b' ws')->σ[i]?=some (some (.ref a))->σ[j]?=some (some (.ref a))->i=j
 ent:∀a o,Z.H a=some o->a∉Z.io->H a=some o
 ion:∀a∈Z.io,H a≠none
 gen:∀a,Z.H a≠none->G a=Z.G a
inductive AtG(K:PySem.W.Frag)(Z:Zt)(σ:St)(H:Hp)(P:Hp->List S->Prop):Prop where
 |mk (G:Hp) (e:List S) (r:Rel K Z G σ H e) (h:P G e):AtG K Z σ H P
structure Grow(G H G' H':Hp):Prop where
 hh:Same H H'
 gg:Same G G'
 sub:Same G' H'
 new:∀a,H a≠none->G' a=G a
theorem Grow.refl(s:Same G H):Grow G H G H:=⟨.refl _,.refl _,s,fun _ _=>rfl⟩
theorem x80(e:Same H H')(h:H a≠none):H' a≠none:=by
 cases q:H a with
 |none=>exact absurd q h
 |some o=>rw[e a o q];simp
theorem Grow.laid(s:Same G H){D:Addr}(h:H D=none)(o:HO):Grow G H (upd G D o) (upd H D o) where
 hh:=q2o h o
 gg:=q2o (s.free h) o
 sub:=fun b u e=>by
  by_cases hb:b=D
  ·subst hb;rw[q0h]at e |-;exact e
  ·rw[q0d hb]at e |-;exact s b u e
 new:=fun a ha=>by rw[q0d (fun z=>ha (by rw[z];exact h))]
theorem Grow.hid(s:Same G H){D:Addr}(h:H D=none)(o:HO):Grow G H G (upd H D o) where
 hh:=q2o h o
 gg:=.refl _
 sub:=fun b u e=>by
  have:=s b u e;rw[q0d (q0m this h)];exact this
 new:=fun a ha=>rfl
theorem Rel.grow(r:Rel K Z G σ H e)(g:Grow G H G' H'):Rel K Z G' σ H' e where
 sub:=g.sub
 slot:=fun i s h=>by
  have q:=r.slot i s h;cases s with
  |no=>trivial
  |fr w=>
   obtain⟨u,h1,h2⟩:=q;exact⟨u,h1,Rep.mono g.gg w h2⟩
  |own b ws=>
   obtain⟨a,xs,h1,h2,h3,h4,h5⟩:=q;exact⟨a,xs,h1,g.hh _ _ h2,by rw[g.new a (by rw[h2];simp)];exact h3,h4,Reps.mono g.gg ws h5⟩
  |dic kvs=>
   obtain⟨a,h1,h2,h3,h4⟩:=q;exact⟨a,h1,g.hh _ _ h2,by rw[g.new a (by rw[h2];simp)];exact h3,h4⟩
  |thr us ws vs=>
   obtain⟨t,l,o,xs,ys,zs,h1,h2,h3,h4,h5,h6,h7,h8⟩:=q;exact⟨t,l,o,xs,ys,zs,h1,g.gg _ _ h2,g.hh _ _ h3,by rw[g.new l (by rw[h3];simp)];exact h4,h5,Reps.mono g.gg us h6,Reps.mono g.gg ws h7,Reps.mono g.gg vs h8⟩
  |nest wss=>exact NestOk.move q g.gg fun l o ys h1 h2 h3=>⟨g.hh _ _ h1,by rw[g.new l (by rw[h1];simp)];exact h2,h3⟩
  |x k=>exact XOk.move q g.gg fun l o ys h1 h2 h3=>⟨g.hh _ _ h1,by rw[g.new l (by rw[h1];simp)];exact h2,h3⟩
  |dw sh ks ws=>exact DwOk.move q g.gg fun l o ys h1 h2 h3=>⟨g.hh _ _ h1,by rw[g.new l (by rw[h1];simp)];exact h2,h3⟩
 len:=r.len
 dis:=r.dis
 ent:=fun a o h n=>g.hh _ _ (r.ent a o h n)
 ion:=fun a h=>x80 g.hh (r.ion a h)
 gen:=fun a h=>by
  have:H a≠none:=by
   cases q:Z.H a with
   |none=>exact absurd q h
   |some o=>
    by_cases hi:a∈Z.io
    ·exact r.ion a hi
    ·rw[r.ent a o q hi];simp
  rw[g.new a this];exact r.gen a h
theorem Rel.own(r:Rel K Z G σ H e)(h:e[i]?=some (.own b ws)):∃a xs,σ[i]?=some (some (.ref a))/\H a=some (.lst xs)/\G a=none/\(IoOk Z b a)/\Reps K G ws xs:=by
 obtain⟨a,xs,h1,h2,h3,h4,h5⟩:=r.slot i _ h;refine⟨a,xs,?_,h2,h3,h4,h5⟩;cases q:σ[i]? with
 |none=>rw[q]at h1;cases h1
 |some z=>rw[q]at h1;rw[show z=some (V.ref a)from h1]
theorem Rel.fr(r:Rel K Z G σ H e)(h:e[i]?=some (.fr w)):∃v,σ[i]?=some (some v)/\Rep K G w v:=by
 obtain⟨v,h1,h2⟩:=r.slot i _ h;refine⟨v,?_,h2⟩;cases q:σ[i]? with
 |none=>rw[q]at h1;cases h1
 |some z=>rw[q]at h1;rw[show z=some v from h1]
theorem Rel.at(r:Rel K Z G σ H e){s:S}(h:e[i]?=some s)(hs:SlotOk K Z G H s (σ[i]?.getD none)->σ[i]?.getD none=some v):σ[i]?=some (some v):=by
 have h1:=hs (r.slot i _ h);cases q:σ[i]? with
 |none=>rw[q]at h1;cases h1
 |some z=>rw[q]at h1;rw[show z=some v from h1]
theorem Rel.plain(r:Rel K Z G σ H e){k:SK}(h:e[i]?=some (.x k))(hk:k.plain=some w):∃v,σ[i]?=some (some v)/\Rep K G w v:=by
 have q:=r.slot i _ h;cases k with
 |old w'=>cases hk;obtain⟨v,h1,_,h2⟩:=q;exact⟨v,r.at h fun _=>h1,h2⟩
 |new w'=>cases hk;obtain⟨v,h1,h2⟩:=q;exact⟨v,r.at h fun _=>h1,RepN.rep _ h2⟩
 |_=>cases hk
theorem Rel.mut(r:Rel K Z G σ H e){ws':List W}{xs':List V}(h:e[i]?=some (.own b ws))(ha:σ[i]?=some (some (.ref a)))(q:Reps K G ws' xs'):Rel K Z G σ (upd H a (.lst xs')) (e.set i (.own b ws')):=by
 obtain⟨a',xs,h1,h2,h3,h4,h5⟩:=r.own h;rw[ha]at h1;cases h1;have hi:i<e.length:=(w0b.mp h).1;refine⟨fun c o z=>?_,fun j s z=>?_,by simpa using r.len,fun j k b1 b2 w1 w2 c z1 z2 z3 z4=>?_,fun c o z n=>?_,fun c z=>?_,r.gen⟩
 ·rw[q0d (q0m z h3)];exact r.sub c o z
 ·by_cases hj:j=i
  ·subst hj;rw[w0l hi]at z;cases z;exact⟨a,xs',by rw[ha];rfl,q0h,h3,h4,q⟩
  ·rw[w0j (fun z=>hj z.symm)]at z
   have y:=r.slot j s z;cases s with
   |no=>trivial
   |fr w=>exact y
   |own b2 w2=>
    obtain⟨c,ys,y1,y2,y3,y4,y5⟩:=y;refine⟨c,ys,y1,?_,y3,y4,y5⟩;rw[q0d];exact y2;rintro rfl;obtain⟨c',_,z1,_⟩:=r.own z;rw[z1]at y1;cases y1;exact hj (r.dis j i _ _ _ _ _ z h z1 ha)
   |dic kvs=>
    obtain⟨c,y1,y2,y3,y4⟩:=y;refine⟨c,y1,?_,y3,y4⟩;rw[q0d (q06 y2 h2 (q5p rfl))];exact y2
   |thr us w2 vs=>
    obtain⟨t,l,o,xs2,ys,zs,y1,y2,y3,y4,y5,y6⟩:=y;refine⟨t,l,o,xs2,ys,zs,y1,y2,?_,y4,y5,y6⟩;rw[q0d (q06 y3 h2 (fun z=>nomatch z))];exact y3
   |nest wss=>exact NestOk.move y (.refl _) fun l o ys k1 k2 k3=>⟨by rw[q0d (q06 k1 h2 (fun z=>nomatch z))];exact k1,k2,k3⟩
   |x k=>exact XOk.move y (.refl _) fun l o ys k1 k2 k3=>⟨by rw[q0d (q06 k1 h2 (fun z=>nomatch z))];exact k1,k2,k3⟩
   |dw sh ks ws=>exact DwOk.move y (.refl _) fun l o ys k1 k2 k3=>⟨by rw[q0d (q06 k1 h2 (fun z=>nomatch z))];exact k1,k2,k3⟩
 ·have old:∀(k:Nat)(bb:Option Nat)(ww:List W),(e.set i (S.own b ws'))[k]?=some (.own bb ww)->∃b' w',e[k]?=some (.own b' w'):=fun k bb ww z=>by
   by_cases hk:k=i
   ·subst hk;exact⟨_,_,h⟩
   ·rw[w0j (fun z=>hk z.symm)]at z;exact⟨_,_,z⟩
  obtain⟨_,_,q1⟩:=old _ _ _ z1;obtain⟨_,_,q2⟩:=old _ _ _ z2;exact r.dis _ _ _ _ _ _ _ q1 q2 z3 z4
 ·by_cases hc:c=a
  ·subst hc;exfalso;rcases h4.io with h4|h4
   ·exact n h4
   ·rw[h4]at z;cases z
  ·rw[q0d hc];exact r.ent c o z n
 ·by_cases hc:c=a
  ·subst hc;rw[q0h];simp
  ·rw[q0d hc];exact r.ion c z
theorem Rel.freeze(r:Rel K Z G σ H e)(h:e[i]?=some (.own none ws)):∃v G',σ[i]?=some (some v)/\Same G G'/\Rep K G' (.lst ws) v/\Rel K Z G' σ H (e.set i (.fr (.lst ws))):=by
 obtain⟨a,xs,h1,h2,h3,h4,h5⟩:=r.own h;have h4:Z.H a=none:=h4;have sg:Same G (upd G a (.lst xs)):=q2o h3 _;have hi:i<e.length:=(w0b.mp h).1;have rp:Rep K (upd G a (.lst xs)) (.lst ws) (.ref a):=⟨a,xs,rfl,SqL.of q0h,Reps.mono sg ws h5⟩;refine⟨.ref a,upd G a (.lst xs),h1,sg,rp,⟨fun c o z=>?_,fun j s z=>?_,by simpa using r.len,fun j k b1 b2 w1 w2 c z1 z2 z3 z4=>?_,r.ent,r.ion,fun c z=>?_⟩⟩
 ·by_cases hc:c=a
  ·subst hc;rw[q0h]at z;cases z;exact h2
  ·rw[q0d hc]at z;exact r.sub c o z
 ·by_cases hj:j=i
  ·subst hj;rw[w0l hi]at z;cases z;exact⟨.ref a,by rw[h1];rfl,rp⟩
  ·rw[w0j (fun z=>hj z.symm)]at z
   have y:=r.slot j s z;cases s with
   |no=>trivial
   |fr w=>
    obtain⟨u,y1,y2⟩:=y;exact⟨u,y1,Rep.mono sg w y2⟩
   |own b2 w2=>
    obtain⟨c,ys,y1,y2,y3,y4,y5⟩:=y;refine⟨c,ys,y1,y2,?_,y4,Reps.mono sg w2 y5⟩;rw[q0d];exact y3;rintro rfl;obtain⟨c',_,z1,_⟩:=r.own z;rw[z1]at y1;cases y1;exact hj (r.dis j i _ _ _ _ _ z h z1 h1)
   |dic kvs=>
    obtain⟨c,y1,y2,y3,y4⟩:=y;refine⟨c,y1,y2,?_,y4⟩;rw[q0d (q06 y2 h2 (q5p rfl))];exact y3
   |thr us w2 vs=>
    obtain⟨t,l,o,xs2,ys,zs,y1,y2,y3,y4,y5,y6,y7,y8⟩:=y;refine⟨t,l,o,xs2,ys,zs,y1,sg _ _ y2,y3,?_,y5,Reps.mono sg us y6,Reps.mono sg w2 y7,Reps.mono sg vs y8⟩;rw[q0d (q06 y3 h2 (fun z=>nomatch z))];exact y4
   |nest wss=>exact NestOk.move y sg fun l o ys k1 k2 k3=>⟨k1,by rw[q0d (q06 k1 h2 (fun z=>nomatch z))];exact k2,k3⟩
   |x k=>exact XOk.move y sg fun l o ys k1 k2 k3=>⟨k1,by rw[q0d (q06 k1 h2 (fun z=>nomatch z))];exact k2,k3⟩
   |dw sh ks ws=>exact DwOk.move y sg fun l o ys k1 k2 k3=>⟨k1,by rw[q0d (q06 k1 h2 (fun z=>nomatch z))];exact k2,k3⟩
 ·have old:∀(k:Nat)(bb:Option Nat)(ww:List W),(e.set i (S.fr (W.lst ws)))[k]?=some (.own bb ww)->e[k]?=some (.own bb ww):=fun k bb ww z=>by
   by_cases hk:k=i
   ·subst hk;rw[w0l hi]at z;cases z
   ·rw[w0j (fun z=>hk z.symm)]at z;exact z
  exact r.dis _ _ _ _ _ _ _ (old _ _ _ z1) (old _ _ _ z2) z3 z4
 ·by_cases hc:c=a
  ·subst hc;exact absurd h4 z
  ·rw[q0d hc];exact r.gen c z
def Free(σ:St)(e:List S)(a:Addr):Prop:=∀(j:Nat)(b:Option Nat)(ws:List W),e[j]?=some (.own b ws)->σ[j]?≠some (some (.ref a))
theorem Rel.set(r:Rel K Z G σ H e){v:V}(q:Rep K G w v):Rel K Z G (σ.set i (some v)) H (e.set i (.fr w)):=by
 refine⟨r.sub,fun j s z=>?_,by simpa using r.len,fun j k b1 b2 w1 w2 c z1 z2 z3 z4=>?_,r.ent,r.ion,r.gen⟩
 ·by_cases hj:j=i
  ·subst hj
   have hi:j<e.length:=by
    have:=(w0b.mp z).1;simpa using this
   rw[w0l hi]at z;cases z;rw[w0l (by rw[<- r.len];exact hi)];exact⟨v,rfl,q⟩
  ·rw[w0j (fun z=>hj z.symm)]at z |-
   exact r.slot j s z
 ·have old:∀(k:Nat)(bb:Option Nat)(ww:List W),(e.set i (S.fr w))[k]?=some (.own bb ww)->k≠i/\e[k]?=some (.own bb ww):=fun k bb ww z=>by
   by_cases hk:k=i
   ·subst hk
    have hi:k<e.length:=by
     have:=(w0b.mp z).1;simpa using this
    rw[w0l hi]at z;cases z
   ·rw[w0j (fun z=>hk z.symm)]at z;exact⟨hk,z⟩
  obtain⟨n1,q1⟩:=old _ _ _ z1;obtain⟨n2,q2⟩:=old _ _ _ z2;rw[w0j (fun z=>n1 z.symm)]at z3
  rw[w0j (fun z=>n2 z.symm)]at z4
  exact r.dis _ _ _ _ _ _ _ q1 q2 z3 z4
theorem Rel.setOwn(r:Rel K Z G σ H e)(h2:H a=some (.lst xs))(h3:G a=none)(h4:Z.H a=none)(hf:Free σ e a)(q:Reps K G ws xs):Rel K Z G (σ.set i (some (.ref a))) H (e.set i (.own none ws)):=by
 refine⟨r.sub,fun j s z=>?_,by simpa using r.len,fun j k b1 b2 w1 w2 c z1 z2 z3 z4=>?_,r.ent,r.ion,r.gen⟩
 ·by_cases hj:j=i
  ·subst hj
   have hi:j<e.length:=by
    have:=(w0b.mp z).1;simpa using this
   rw[w0l hi]at z;cases z;rw[w0l (by rw[<- r.len];exact hi)];exact⟨a,xs,rfl,h2,h3,h4,q⟩
  ·rw[w0j (fun z=>hj z.symm)]at z |-
   exact r.slot j s z
 ·have both:∀(k:Nat)(bb:Option Nat)(ww:List W),(e.set i (S.own none ws))[k]?=some (.own bb ww)->(σ.set i (some (.ref a)))[k]?=some (some (.ref c))->(k=i/\c=a)\/(k≠i/\e[k]?=some (.own bb ww)/\σ[k]?=some (some (.ref c))/\c≠a):=fun k bb ww z y=>by
   by_cases hk:k=i
   ·subst hk
    have hi:k<e.length:=by
     have:=(w0b.mp z).1;simpa using this
    rw[w0l (by rw[<- r.len];exact hi)]at y;cases y;exact .inl ⟨rfl,rfl⟩
   ·rw[w0j (fun z=>hk z.symm)]at z y
    exact .inr ⟨hk,z,y,fun e=>hf k bb ww z (by rw[y,e])⟩
  rcases both _ _ _ z1 z3 with⟨e1,c1⟩|⟨n1,q1,p1,c1⟩<;>rcases both _ _ _ z2 z4 with⟨e2,c2⟩|⟨n2,q2,p2,c2⟩
  ·rw[e1,e2]
  ·exact absurd c1 c2
  ·exact absurd c2 c1
  ·exact r.dis _ _ _ _ _ _ _ q1 q2 p1 p2
theorem Rel.forget(r:Rel K Z G σ H e){e':List S}(hl:e'.length=e.length)(h:∀(i:Nat)(s:S),e'[i]?=some s->s=.no\/e[i]?=some s):Rel K Z G σ H e':=by
 refine⟨r.sub,fun j s z=>?_,by rw[hl];exact r.len,fun j k b1 b2 w1 w2 c z1 z2 z3 z4=>?_,r.ent,r.ion,r.gen⟩
 ·rcases h j s z with rfl|q
  ·trivial
  ·exact r.slot j s q
 ·rcases h _ _ z1 with q1|q1
  ·cases q1
  ·rcases h _ _ z2 with q2|q2
   ·cases q2
   ·exact r.dis _ _ _ _ _ _ _ q1 q2 z3 z4
inductive R(α:Type) where
 |ok (a:α) (e:List S)|ex (c:Value) (e:List S)|no
noncomputable abbrev Den(α:Type):=List S->R α
variable{dA:Den (List W)}
noncomputable def R.bind{β:Type}:R α->(α->List S->R β)->R β
 |.ok a e,k=>k a e
 |.ex c e,_=>.ex c e
 |.no,_=>.no
def R.holds(r:R α)(P:α->List S->Prop)(E:Value->List S->Prop):Prop:=match r with
 |.ok a e=>P a e
 |.ex c e=>E c e
 |.no=>False
theorem R.holds_bind{β:Type}{r:R α}{k:α->List S->R β}{P:β->List S->Prop}:(r.bind k).holds P E↔r.holds (fun a e=>(k a e).holds P E) E:=by
 cases r<;>rfl
theorem R.holds.imp{r:R α}{P P':α->List S->Prop}{E':Value->List S->Prop}(h:r.holds P E)(p:∀a e,P a e->P' a e)(x:∀c e,E c e->E' c e):r.holds P' E':=by
 cases r with
 |ok a e=>exact p a e h
 |ex c e=>exact x c e h
 |no=>exact h
noncomputable def ofOpt(o:Option α)(e:List S):R α:=match o with
 |some a=>.ok a e
 |none=>.no
theorem ofOpt_holds{o:Option α}{P:α->List S->Prop}:(ofOpt o e).holds P E↔∃a,o=some a/\P a e:=by
 cases o with
 |none=>exact⟨fun h=>h.elim,fun⟨_,h,_⟩=>nomatch h⟩
 |some a=>exact⟨fun h=>⟨a,rfl,h⟩,fun⟨_,h,q⟩=>by cases h;exact q⟩
inductive SR where
 |nx (e:List S)|rt (s:S) (e:List S)|bk (e:List S)|ct (e:List S)|ex (c:Value) (e:List S)|no
section
variable(K:PySem.W.Frag)(Z:Zt)(EE:L2.St->XK)
abbrev XH(σ:St)(G:Hp):Value->List S->Prop:=fun c e'=>∀G' H',Rel K Z G' σ H' e'->Same G G'->EE σ c none H'
def liftE(d:Den W):TE:=fun σ H Q=>AtG K Z σ H fun G e=>(d e).holds (fun w e'=>∀G' v H',Rel K Z G' σ H' e'->Same G G'->Rep K G' w v->Q v H') (XH K Z EE σ G)
def liftA(d:Den (List W)):TA:=fun σ H Q=>AtG K Z σ H fun G e=>(d e).holds (fun ws e'=>∀G' vs H',Rel K Z G' σ H' e'->Same G G'->Reps K G' ws vs->Q vs H') (XH K Z EE σ G)
def liftT(d:Den Bool):TT:=fun σ H Q=>AtG K Z σ H fun G e=>(d e).holds (fun b e'=>∀G' H',Rel K Z G' σ H' e'->Same G G'->Q b H') (XH K Z EE σ G)
def liftF(d:Den (List W)):TE:=fun σ H Q=>AtG K Z σ H fun G e=>(d e).holds (fun ws e'=>∀G' a xs H',Rel K Z G' σ H' e'->Same G G'->H' a=some (.lst xs)->G' a=none->Z.H a=none->Free σ e' a->Reps K G' ws xs->Q (.ref a) H') (XH K Z EE σ G)
def PostS(D:Ends)(G:Hp):SR->Prop
 |.nx e'=>∀G' σ' H',Rel K Z G' σ' H' e'->Same G G'->D.nx σ' H'
 |.bk e'=>∀G' σ' H',Rel K Z G' σ' H' e'->Same G G'->D.bk σ' H'
 |.ct e'=>∀G' σ' H',Rel K Z G' σ' H' e'->Same G G'->D.ct σ' H'
 |.rt s e'=>∀G' σ' v H',Rel K Z G' σ' H' e'->Same G G'->SlotOk K Z G' H' s (some v)->D.rt v H'
 |.ex c e'=>∀G' σ' H',Rel K Z G' σ' H' e'->Same G G'->EE σ' c none H'
 |.no=>False
def liftS(d:List S->SR):TS:=fun D σ H=>AtG K Z σ H fun G e=>PostS K Z EE D G (d e)
end
section
variable(Z:Zt)(X:Cx)(EE:L2.St->XK)
def DE(e:Expr)(d:Den W):Prop:=PE X e (liftE X.K Z EE d)
def DF(e:Expr)(d:Den (List W)):Prop:=PE X e (liftF X.K Z EE d)
def DT(e:Expr)(d:Den Bool):Prop:=PT X e (liftT X.K Z EE d)
def DW(e:Expr)(d:Den Bool):Prop:=PW X e (liftT X.K Z EE d)
def DA(es:List Expr)(d:Den (List W)):Prop:=PA X es (liftA X.K Z EE d)
def DS(st:Stmt)(d:List S->SR):Prop:=PS X st (liftS X.K Z EE d)
def DSs(sts:List Stmt)(d:List S->SR):Prop:=PSs X sts (liftS X.K Z EE d)
end
theorem PE.mono{e:Expr}{t t':TE}(h:PE X e t)(i:∀σ H Q,t' σ H Q->t σ H Q):PE X e t':=fun pins s σ H Q I q=>h pins s σ H Q I (i σ H Q q)
theorem PT.mono{e:Expr}{t t':TT}(h:PT X e t)(i:∀σ H Q,t' σ H Q->t σ H Q):PT X e t':=fun pins s σ H Q I q=>h pins s σ H Q I (i σ H Q q)
theorem PW.mono{e:Expr}{t t':TT}(h:PW X e t)(i:∀σ H Q,t' σ H Q->t σ H Q):PW X e t':=fun wh pins s σ H Q I q=>h wh pins s σ H Q I (i σ H Q q)
theorem PA.mono{t t':TA}(h:PA X es t)(i:∀σ H Q,t' σ H Q->t σ H Q):PA X es t':=fun p pins s σ H Q I q=>h p pins s σ H Q I (i σ H Q q)
theorem PS.mono{t t':TS}(h:PS X st t)(i:∀D σ H,t' D σ H->t D σ H):PS X st t':=fun pins s σ H D I q=>h pins s σ H D I (i D σ H q)
theorem PSs.mono{st:List Stmt}{t t':TS}(h:PSs X st t)(i:∀D σ H,t' D σ H->t D σ H):PSs X st t':=fun pins s σ H D I q=>h pins s σ H D I (i D σ H q)
section
variable(K:PySem.W.Frag)
def Op2(r:R2)(f:W->W->Option W):Prop:=∀(G H:Hp)(x y:V)(wx wy w:W)(Q:VK),Same G H->Rep K G wx x->Rep K G wy y->f wx wy=some w->(∀G' v H',Grow G H G' H'->Rep K G' w v->Q v H')->r x y H Q
def OpN(r:List V->Hp->VK->Prop)(f:List W->Option W):Prop:=∀(G H:Hp)(xs:List V)(ws:List W)(w:W)(Q:VK),Same G H->Reps K G ws xs->f ws=some w->(∀G' v H',Grow G H G' H'->Rep K G' w v->Q v H')->r xs H Q
end
noncomputable def dC(w:W):Den W:=fun e=>.ok w e
noncomputable def dVar(i:Nat):Den W:=fun e=>match e[i]? with
 |some (.fr w)=>.ok w e
 |some (.own none ws)=>.ok (.lst ws) (e.set i (.fr (.lst ws)))
 |some (.x k)=>match k.plain with
  |some w=>.ok w e
  |none=>.no
 |_=>.no
noncomputable def dOp(f:W->W->Option W)(da db:Den W):Den W:=fun e=>(da e).bind fun x e1=>(db e1).bind fun y e2=>ofOpt (f x y) e2
noncomputable def dTest(da:Den W):Den Bool:=fun e=>(da e).bind fun x e1=>match x with
 |.bl k=>.ok k e1
 |_=>.no
noncomputable def truW:W->Option Bool
 |.non=>some false
 |.bl b=>some b
 |.int i=>some (i != 0)
 |.str x=>if x.length<=16777216 then some ((x.length:Int) != 0)else none
 |.tup xs=>some (!xs.isEmpty)
 |.lst xs=>some (!xs.isEmpty)
 |.exc _=>none
 |.dic _=>none
 |.dw _ _ _ _=>none
 |.fn _ _ _=>none
noncomputable def dTru(da:Den W):Den Bool:=fun e=>(da e).bind fun x e1=>ofOpt (truW x) e1
noncomputable def dAnd(a b:Den Bool):Den Bool:=fun e=>(a e).bind fun x e1=>if x=true then b e1 else .ok false e1
noncomputable def dOr(a b:Den Bool):Den Bool:=fun e=>(a e).bind fun x e1=>if x=true then .ok true e1 else b e1
noncomputable def dNot(a:Den Bool):Den Bool:=fun e=>(a e).bind fun x e1=>.ok (!x) e1
noncomputable def dAndV(a b:Den W):Den W:=fun e=>(a e).bind fun x e1=>match x with
 |.bl true=>b e1
 |.bl false=>.ok (.bl false) e1
 |_=>.no
noncomputable def dNotV(a:Den W):Den W:=fun e=>(a e).bind fun x e1=>match x with
 |.bl k=>.ok (.bl (!k)) e1
 |_=>.no
noncomputable def dIf(c:Den Bool)(a b:Den W):Den W:=fun e=>(c e).bind fun x e1=>if x=true then a e1 else b e1
noncomputable def dNil:Den (List W):=fun e=>.ok [] e
noncomputable def dCons(a:Den W)(r:Den (List W)):Den (List W):=fun e=>(a e).bind fun x e1=>(r e1).bind fun xs e2=>.ok (x::xs) e2
noncomputable def dTup(a:Den (List W)):Den W:=fun e=>(a e).bind fun xs e1=>if xs.length<=16777216 then .ok (.tup xs) e1 else .no
noncomputable def dLst(a:Den (List W)):Den (List W):=fun e=>(a e).bind fun xs e1=>if xs.length<=16777216 then .ok xs e1 else .no
noncomputable def dFz(a:Den (List W)):Den W:=fun e=>(a e).bind fun xs e1=>.ok (.lst xs) e1
noncomputable def dFn(f:List W->Option W)(a:Den (List W)):Den W:=fun e=>(a e).bind fun xs e1=>ofOpt (f xs) e1
section
variable{a b c e:Expr}{da db:Den W}{dc ta tb:Den Bool}
theorem XH.trans(s:Same G G1){c:Value}{e:List S}(h:XH K Z EE σ G c e):XH K Z EE σ G1 c e:=fun G' H' r q=>h G' H' r (s.trans q)
theorem q0b{i:Int}{j pos}:DE Z X EE (.Constant (.int i) j pos) (dC (.int i)):=PE.mono q39 fun σ H Q ⟨G,e,r,h⟩=>h G (.int i) H r (.refl _) rfl
theorem q1s{i:Bool}{j pos}:DE Z X EE (.Constant (.bool i) j pos) (dC (.bl i)):=PE.mono x67 fun σ H Q ⟨G,e,r,h⟩=>h G (.bl i) H r (.refl _) rfl
theorem y84{j pos}:DE Z X EE (.Constant .none j pos) (dC .non):=PE.mono y8e fun σ H Q ⟨G,e,r,h⟩=>h G .non H r (.refl _) rfl
theorem q01{i:Str}{j pos}:DE Z X EE (.Constant (.str i) j pos) (dC (.str i)):=PE.mono y8f fun σ H Q ⟨G,e,r,h⟩=>h G (.str i) H r (.refl _) rfl
theorem y1w:∀σ H Q,liftE K Z EE (dVar i) σ H Q->tVar i σ H Q:=by
 rintro σ H Q ⟨G,e,r,h⟩;unfold dVar at h;split at h
 ·rename_i w hw;obtain⟨v,h1,h2⟩:=r.fr hw;exact⟨v,h1,h G v H r (.refl _) h2⟩
 ·rename_i ws hw;obtain⟨v,G',h1,h2,h3,h4⟩:=r.freeze hw;exact⟨v,h1,h G' v H h4 h2 h3⟩
 ·rename_i k hw;cases q:k.plain with
  |some w=>
   rw[q]at h;obtain⟨v,h1,h2⟩:=r.plain hw q;exact⟨v,h1,h G v H r (.refl _) h2⟩
  |none=>rw[q]at h;exact h.elim
 ·exact h.elim
theorem dv(i:Nat)(hN:X.N[i]?=some x:=by rfl)(hv:Vis X.env.scope x:=by walk_at "1")(hd:(x==("__debug__":Str))=false:=by decide)
  (hcd:(x==("__classdict__":Str))=false:=by decide):DE Z X EE (.Name x pos) (dVar i):=PE.mono (pv i hN hv hd hcd) y1w
theorem q8u{r:R2}(hf:Op2 K r f):∀σ H Q,liftE K Z EE (dOp f da db) σ H Q->tOp r (liftE K Z EE da) (liftE K Z EE db) σ H Q:=by
 rintro σ H Q ⟨G,e,rel,h⟩;simp only[dOp,R.holds_bind,ofOpt_holds]at h;refine⟨G,e,rel,h.imp (fun x e1 h G1 v1 H1 r1 s1 p1=>?_) fun _ _ h=>h⟩
 refine⟨G1,e1,r1,h.imp (fun y e2 h G2 v2 H2 r2 s2 p2=>?_) fun _ _ h=>XH.trans s1 h⟩
 obtain⟨w,hw,h⟩:=h;exact hf G2 H2 v1 v2 x y w Q r2.sub (Rep.mono s2 x p1) p2 hw fun G' v H' g p=>h G' v H' (r2.grow g) ((s1.trans s2).trans g.gg) p
theorem q8v{op:Operator}{r:R2}(ho:OpR X (binaryOp op) r)(hf:Op2 X.K r f)(ha:DE Z X EE a da)(hb:DE Z X EE b db):DE Z X EE (.BinOp a op b pos) (dOp f da db):=PE.mono (x7b ho ha hb) (q8u hf)
theorem q8j{op:CmpOp}{r:R2}(ho:OpR X (compareOp op) r)(hf:Op2 X.K r f)(ha:DE Z X EE a da)(hb:DE Z X EE b db)(hm:behindInMarks op b=false):DE Z X EE (.Compare a [op] [b] pos) (dOp f da db):=PE.mono (y4s ho ha hb hm) (q8u hf)
theorem x81{Q:Bool->Hp->Prop}(h:liftT K Z EE (dTest da) σ H Q):liftE K Z EE da σ H (fun x H'=>∃k,x=.bl k/\Q k H'):=by
 obtain⟨G,e,rel,h⟩:=h;simp only[dTest,R.holds_bind]at h;refine⟨G,e,rel,h.imp (fun x e1 h G1 v1 H1 r1 s1 p1=>?_) fun _ _ h=>h⟩
 cases x with
 |bl k=>
  cases(show v1=V.bl k from p1);exact⟨k,rfl,h G1 H1 r1 s1⟩
 |_=>exact h.elim
theorem q6l{op:CmpOp}{r:R2}(ho:OpR X (compareOp op) r)(hf:Op2 X.K r f)(ha:DE Z X EE a da)(hb:DE Z X EE b db)(hm:behindInMarks op b=false):DT Z X EE (.Compare a [op] [b] pos) (dTest (dOp f da db)):=
 PT.mono (q8t ho ha hb hm) fun σ H Q h=>q8u hf σ H _ (x81 h)
theorem y85(s:Same G H){k:Bool}(h:Rep K G w v)(e:truW w=some k):TruV K v H k:=by
 cases w with
 |non=>cases(show v=.non from h);cases e;rfl
 |bl b=>cases(show v=.bl b from h);cases e;rfl
 |int i=>cases(show v=.int i from h);cases e;rfl
 |str x=>
  cases(show v=.str x from h);simp only[truW]at e;split at e
  ·cases e;exact⟨by rw[sizeLine_eq];assumption,rfl⟩
  ·cases e
 |tup ws=>
  obtain⟨p,xs,rfl,q,r⟩:=h;cases e;refine .inr (.inl ⟨xs,s.tup q,?_⟩);have:=r.length;cases ws<;>cases xs<;>simp_all
 |lst ws=>
  obtain⟨p,xs,rfl,q,r⟩:=h;cases e;refine .inl ⟨xs,s.seq q,?_⟩;have:=r.length;cases ws<;>cases xs<;>simp_all
 |exc _=>cases e
 |dic _=>cases e
 |dw _ _ _ _=>cases e
 |fn _ _ _=>cases e
theorem q0t(ha:DE Z X EE a da)(he:∀whole,isTrue a X.env whole=(do let v <- whole;standAt a.pos;holding [v] (truthy v)):=by intro _;rfl):DT Z X EE a (dTru da):=by
 refine PT.mono (x3o ha he) ?_;rintro σ H Q ⟨G,e,rel,h⟩;simp only[dTru,R.holds_bind,ofOpt_holds]at h;refine⟨G,e,rel,h.imp (fun x e1 h G1 v1 H1 r1 s1 p1=>?_) fun _ _ h=>h⟩
 obtain⟨k,hk,h⟩:=h;exact⟨k,y85 r1.sub p1 hk,h G1 H1 r1 s1⟩
theorem y1x:∀σ H Q,liftT K Z EE (dAnd ta tb) σ H Q->tAnd (liftT K Z EE ta) (liftT K Z EE tb) σ H Q:=by
 rintro σ H Q ⟨G,e,rel,h⟩;simp only[dAnd,R.holds_bind]at h;refine⟨G,e,rel,h.imp (fun x e1 h G1 H1 r1 s1=>?_) fun _ _ h=>h⟩
 cases x with
 |true=>exact⟨G1,e1,r1,R.holds.imp (show(tb e1).holds _ _ from h) (fun y e2 h G2 H2 r2 s2=>h G2 H2 r2 (s1.trans s2)) fun _ _ h=>XH.trans s1 h⟩
 |false=>exact(show ∀G' H',_->_->Q false H' from h) G1 H1 r1 s1
theorem y45:∀σ H Q,liftT K Z EE (dOr ta tb) σ H Q->tOr (liftT K Z EE ta) (liftT K Z EE tb) σ H Q:=by
 rintro σ H Q ⟨G,e,rel,h⟩;simp only[dOr,R.holds_bind]at h;refine⟨G,e,rel,h.imp (fun x e1 h G1 H1 r1 s1=>?_) fun _ _ h=>h⟩
 cases x with
 |false=>exact⟨G1,e1,r1,R.holds.imp (show(tb e1).holds _ _ from h) (fun y e2 h G2 H2 r2 s2=>h G2 H2 r2 (s1.trans s2)) fun _ _ h=>XH.trans s1 h⟩
 |true=>exact(show ∀G' H',_->_->Q true H' from h) G1 H1 r1 s1
theorem x1f(ha:DT Z X EE a ta):DW Z X EE (.BoolOp .And [a] pos) ta:=y4k ha
theorem q4a(ha:DT Z X EE a ta):DW Z X EE (.BoolOp .Or [a] pos) ta:=x8k ha
theorem x3u{rest:List Expr}(ha:DT Z X EE a ta)(hb:DW Z X EE (.BoolOp .And (b::rest) pos) tb):DW Z X EE (.BoolOp .And (a::b::rest) pos) (dAnd ta tb):=PW.mono (y8g ha hb) y1x
theorem q2l{rest:List Expr}(ha:DT Z X EE a ta)(hb:DW Z X EE (.BoolOp .Or (b::rest) pos) tb):DW Z X EE (.BoolOp .Or (a::b::rest) pos) (dOr ta tb):=PW.mono (y32 ha hb) y45
theorem dt_w(h:DW Z X EE a ta):DT Z X EE a ta:=PW.pt h
theorem q4b(ha:DT Z X EE a ta):DT Z X EE (.UnaryOp .Not a pos) (dNot ta):=by
 refine PT.mono (y8h ha) ?_;rintro σ H Q ⟨G,e,rel,h⟩;simp only[dNot,R.holds_bind]at h;exact⟨G,e,rel,h.imp (fun x e1 h G1 H1 r1 s1=>h G1 H1 r1 s1) fun _ _ h=>h⟩
theorem x3v{op}(h:DE Z X EE a da):DE Z X EE (.BoolOp op [a] pos) da:=y8i h
theorem q8k{rest:List Expr}(ha:DE Z X EE a da)(hb:DE Z X EE (.BoolOp .And (b::rest) pos) db):DE Z X EE (.BoolOp .And (a::b::rest) pos) (dAndV da db):=by
 refine PE.mono (y8j ha hb) ?_;rintro σ H Q ⟨G,e,rel,h⟩;simp only[dAndV,R.holds_bind]at h;refine⟨G,e,rel,h.imp (fun x e1 h G1 v1 H1 r1 s1 p1=>?_) fun _ _ h=>h⟩
 cases x with
 |bl k=>
  cases(show v1=V.bl k from p1);cases k with
  |true=>exact⟨true,rfl,⟨G1,e1,r1,R.holds.imp (show(db e1).holds _ _ from h) (fun y e2 h G2 v2 H2 r2 s2 p2=>h G2 v2 H2 r2 (s1.trans s2) p2) fun _ _ h=>XH.trans s1 h⟩⟩
  |false=>exact⟨false,rfl,(show ∀G' v H',_->_->v=V.bl false->Q v H' from h) G1 _ H1 r1 s1 rfl⟩
 |_=>exact h.elim
theorem x3w(ha:DE Z X EE a da):DE Z X EE (.UnaryOp .Not a pos) (dNotV da):=by
 refine PE.mono (y8k ha) ?_;rintro σ H Q ⟨G,e,rel,h⟩;simp only[dNotV,R.holds_bind]at h;refine⟨G,e,rel,h.imp (fun x e1 h G1 v1 H1 r1 s1 p1=>?_) fun _ _ h=>h⟩
 cases x with
 |bl k=>
  cases(show v1=V.bl k from p1);exact⟨k,rfl,(show ∀G' v H',_->_->v=V.bl (!k)->Q v H' from h) G1 _ H1 r1 s1 rfl⟩
 |_=>exact h.elim
theorem q7m(hc:DT Z X EE c dc)(ha:DE Z X EE a da)(hb:DE Z X EE b db):DE Z X EE (.IfExp c a b pos) (dIf dc da db):=by
 refine PE.mono (x3m hc ha hb) ?_;rintro σ H Q ⟨G,e,rel,h⟩;simp only[dIf,R.holds_bind]at h;refine⟨G,e,rel,h.imp (fun x e1 h G1 H1 r1 s1=>?_) fun _ _ h=>h⟩
 cases x with
 |true=>exact⟨G1,e1,r1,R.holds.imp (show(da e1).holds _ _ from h) (fun y e2 h G2 v2 H2 r2 s2 p2=>h G2 v2 H2 r2 (s1.trans s2) p2) fun _ _ h=>XH.trans s1 h⟩
 |false=>exact⟨G1,e1,r1,R.holds.imp (show(db e1).holds _ _ from h) (fun y e2 h G2 v2 H2 r2 s2 p2=>h G2 v2 H2 r2 (s1.trans s2) p2) fun _ _ h=>XH.trans s1 h⟩
theorem q0c:DA Z X EE [] dNil:=PA.mono q1z fun σ H Q ⟨G,e,r,h⟩=>h G [] H r (.refl _) rfl
theorem q0a(ha:DE Z X EE e da)(hr:DA Z X EE es dA)(hs:starEach (e::es) X.env=(false,eval e X.env)::starEach es X.env:=by rfl):DA Z X EE (e::es) (dCons da dA):=by
 refine PA.mono (q0s ha hr hs) ?_;rintro σ H Q ⟨G,e,rel,h⟩;simp only[dCons,R.holds_bind]at h;refine⟨G,e,rel,h.imp (fun x e1 h G1 v1 H1 r1 s1 p1=>?_) fun _ _ h=>h⟩
 refine⟨G1,e1,r1,h.imp (fun xs e2 h G2 vs H2 r2 s2 p2=>?_) fun _ _ h=>XH.trans s1 h⟩
 exact h G2 (v1::vs) H2 r2 (s1.trans s2) ⟨v1,vs,rfl,Rep.mono s2 x p1,p2⟩
theorem q1a{x1}(h:DA Z X EE es dA):DE Z X EE (.Tuple es x1 pos) (dTup dA):=by
 refine PE.mono (x0d h) ?_;rintro σ H Q ⟨G,e,rel,h⟩;simp only[dTup,R.holds_bind]at h;refine⟨G,e,rel,h.imp (fun ws e1 h G1 vs H1 r1 s1 p1=>?_) fun _ _ h=>h⟩
 split at h
 ·rename_i hl;refine⟨by rw[p1.length,sizeLine_eq];exact hl,fun p hp=>?_⟩
  have g:=Grow.laid r1.sub hp (.tup vs);exact(show ∀G' v H',_->_->Rep X.K G' (.tup ws) v->Q v H' from h) _ (.ref p) _ (r1.grow g) (s1.trans g.gg) ⟨p,vs,rfl,SqT.of q0h,Reps.mono g.gg ws p1⟩
 ·exact h.elim
theorem q7n{e:List S}(r:Rel K Z G σ H e){p:Addr}(hp:H p=none):Free σ e p:=fun j b ws h q=>by
 obtain⟨a,xs,h1,h2,_⟩:=r.own h;rw[q]at h1;cases h1;rw[hp]at h2;cases h2
theorem q4c{e:List S}(r:Rel K Z G σ H e){p:Addr}(hp:H p=none):Z.H p=none:=by
 cases q:Z.H p with
 |none=>rfl
 |some o=>
  by_cases hi:p∈Z.io
  ·exact absurd hp (r.ion p hi)
  ·rw[r.ent p o q hi]at hp;cases hp
theorem q6m{e:List S}{Q:VK}{G0:Hp}(r:Rel K Z G σ H e)(s:Same G0 G)(p1:Reps K G ws vs)
  (h:∀G' a xs H',Rel K Z G' σ H' e->Same G0 G'->H' a=some (.lst xs)->G' a=none->Z.H a=none->Free σ e a->Reps K G' ws xs->Q (.ref a) H'):∀p,H p=none->Q (.ref p) (upd H p (.lst vs)):=fun p hp=>by
 have g:=Grow.hid r.sub hp (.lst vs);exact h G p vs _ (r.grow g) s q0h (r.sub.free hp) (q4c r hp) (q7n r hp) p1
theorem q3l(h:DA Z X EE es dA):DF Z X EE (.List es pos) (dLst dA):=by
 refine PE.mono (x8q h) ?_;rintro σ H Q ⟨G,e,rel,h⟩;simp only[dLst,R.holds_bind]at h;refine⟨G,e,rel,h.imp (fun ws e1 h G1 vs H1 r1 s1 p1=>?_) fun _ _ h=>h⟩
 split at h
 ·rename_i hl;exact⟨by rw[p1.length,sizeLine_eq];exact hl,q6m r1 s1 p1 h⟩
 ·exact h.elim
theorem Rel.seen{e:List S}(r:Rel K Z G σ H e){a:Addr}(h:H a=some (.lst xs))(hg:G a=none)(hz:Z.H a=none)(hf:Free σ e a):Same G (upd G a (.lst xs))/\Rel K Z (upd G a (.lst xs)) σ H e:=by
 have sg:Same G (upd G a (.lst xs)):=q2o hg _;refine⟨sg,⟨fun c o z=>?_,fun j s z=>?_,r.len,r.dis,r.ent,r.ion,fun c z=>?_⟩⟩
 ·by_cases hc:c=a
  ·subst hc;rw[q0h]at z;cases z;exact h
  ·rw[q0d hc]at z;exact r.sub c o z
 ·have y:=r.slot j s z;cases s with
  |no=>trivial
  |fr w=>
   obtain⟨u,y1,y2⟩:=y;exact⟨u,y1,Rep.mono sg w y2⟩
  |own b2 w2=>
   obtain⟨c,ys,y1,y2,y3,y4,y5⟩:=y;refine⟨c,ys,y1,y2,?_,y4,Reps.mono sg w2 y5⟩;rw[q0d];exact y3;rintro rfl;obtain⟨c',_,z1,_⟩:=r.own z;rw[z1]at y1;cases y1;exact hf j b2 w2 z z1
  |dic kvs=>
   obtain⟨c,y1,y2,y3,y4⟩:=y;refine⟨c,y1,y2,?_,y4⟩;rw[q0d (q06 y2 h (q5p rfl))];exact y3
  |thr us w2 vs=>
   obtain⟨t,l,o,xs2,ys,zs,y1,y2,y3,y4,y5,y6,y7,y8⟩:=y;refine⟨t,l,o,xs2,ys,zs,y1,sg _ _ y2,y3,?_,y5,Reps.mono sg us y6,Reps.mono sg w2 y7,Reps.mono sg vs y8⟩;rw[q0d (q06 y3 h (fun z=>nomatch z))];exact y4
  |nest wss=>exact NestOk.move y sg fun l o ys k1 k2 k3=>⟨k1,by rw[q0d (q06 k1 h (fun z=>nomatch z))];exact k2,k3⟩
  |x k=>exact XOk.move y sg fun l o ys k1 k2 k3=>⟨k1,by rw[q0d (q06 k1 h (fun z=>nomatch z))];exact k2,k3⟩
  |dw sh ks ws=>exact DwOk.move y sg fun l o ys k1 k2 k3=>⟨k1,by rw[q0d (q06 k1 h (fun z=>nomatch z))];exact k2,k3⟩
 ·by_cases hc:c=a
  ·subst hc;exact absurd hz z
  ·rw[q0d hc];exact r.gen c z
theorem q2v(h:DF Z X EE e dA):DE Z X EE e (dFz dA):=by
 refine PE.mono h ?_;rintro σ H Q ⟨G,e,rel,h⟩;simp only[dFz,R.holds_bind]at h;refine⟨G,e,rel,h.imp (fun ws e1 h G1 a xs H1 r1 s1 q1 q2 q3 q4 p1=>?_) fun _ _ h=>h⟩
 obtain⟨sg,rg⟩:=r1.seen q1 q2 q3 q4;exact(show ∀G' v H',_->_->Rep X.K G' (.lst ws) v->Q v H' from h) _ (.ref a) _ rg (s1.trans sg) ⟨a,xs,rfl,SqL.of q0h,Reps.mono sg ws p1⟩
theorem x54{f:List W->Option W}(hf:OpN K r f):∀σ H Q,liftE K Z EE (dFn f dA) σ H Q->tCB r (liftA K Z EE dA) σ H Q:=by
 rintro σ H Q ⟨G,e,rel,h⟩;simp only[dFn,R.holds_bind,ofOpt_holds]at h;refine⟨G,e,rel,h.imp (fun ws e1 h G1 vs H1 r1 s1 p1=>?_) fun _ _ h=>h⟩
 obtain⟨w,hw,h⟩:=h;exact hf G1 H1 vs ws w Q r1.sub p1 hw fun G' v H' g p=>h G' v H' (r1.grow g) (s1.trans g.gg) p
theorem q68{id:String}{f:List W->Option W}(hc:CallR X (.builtin id) r)(hf:OpN X.K r f)(hv:bootBuiltins x=some (.builtin id))(hm:X.mg x=none)(ha:DA Z X EE (e::es) dA)(hg:Gl X x:=by rfl)(hn:x≠"__name__":=by decide)(hdb:(x==("__debug__":Str))=false:=by decide)
  (he:starEach (e::es) X.env=(false,eval e X.env)::starEach es X.env:=by rfl)(hpl:(backTo pos (starEach es X.env)).any (·.1)=false:=by rfl):DE Z X EE (.Call (.Name x p) (e::es) [] pos) (dFn f dA):=
 PE.mono (q7l hc hg hm hv ha hn hdb he hpl) (x54 hf)
theorem x82{T:String}{f:List W->Option W}(hc:CallR X (.type T) r)(hf:OpN X.K r f)(hv:bootBuiltins x=some (.type T))(hm:X.mg x=none)(ha:DA Z X EE (e::es) dA)(hg:Gl X x:=by rfl)(hn:x≠"__name__":=by decide)(hdb:(x==("__debug__":Str))=false:=by decide)
  (he:starEach (e::es) X.env=(false,eval e X.env)::starEach es X.env:=by rfl)(hpl:(backTo pos (starEach es X.env)).any (·.1)=false:=by rfl):DE Z X EE (.Call (.Name x p) (e::es) [] pos) (dFn f dA):=
 PE.mono (x19 hc hg hm hv ha hn hdb he hpl) (x54 hf)
end
noncomputable def dNx:List S->SR:=fun e=>.nx e
noncomputable def dSeq(a b:List S->SR):List S->SR:=fun e=>match a e with
 |.nx e'=>b e'
 |r=>r
noncomputable def R.stm(r:R α)(k:α->List S->SR):SR:=match r with
 |.ok a e=>k a e
 |.ex c e=>.ex c e
 |.no=>.no
noncomputable def dDrop(d:Den W):List S->SR:=fun e=>(d e).stm fun _ e'=>.nx e'
noncomputable def dRet(d:Den W):List S->SR:=fun e=>(d e).stm fun w e'=>.rt (.fr w) e'
noncomputable def dRetO(i:Nat):List S->SR:=fun e=>match e[i]? with
 |some (.own none ws)=>.rt (.own none ws) e
 |some (.fr w)=>.rt (.fr w) e
 |_=>.no
noncomputable def dIfS(c:Den Bool)(a b:List S->SR):List S->SR:=fun e=>(c e).stm fun x e1=>if x=true then a e1 else b e1
noncomputable def dSet(i:Nat)(d:Den W):List S->SR:=fun e=>(d e).stm fun w e'=>.nx (e'.set i (.fr w))
noncomputable def dSetO(i:Nat)(d:Den (List W)):List S->SR:=fun e=>(d e).stm fun ws e'=>.nx (e'.set i (.own none ws))
noncomputable def forD(i:Nat)(b:List S->SR):List W->List S->SR
 |[],e=>.nx e
 |w::ws,e=>match b (e.set i (.fr w))with
  |.nx e'=>forD i b ws e'
  |.ct e'=>forD i b ws e'
  |.bk e'=>.nx e'
  |.rt s e'=>.rt s e'
  |.ex c e'=>.ex c e'
  |.no=>.no
noncomputable def whileD(c:Den Bool)(b:List S->SR):Nat->List S->SR
 |0,_=>.no
 |n+1,e=>(c e).stm fun x e1=>if x=true then(match b e1 with
  |.nx e'=>whileD c b n e'
  |.ct e'=>whileD c b n e'
  |.bk e'=>.nx e'
  |.rt s e'=>.rt s e'
  |.ex c e'=>.ex c e'
  |.no=>.no)else .nx e1
noncomputable def seqW:W->Option (List W)
 |.tup ws=>some ws
 |.lst ws=>some ws
 |_=>none
noncomputable def dFor(i:Nat)(d:Den W)(b:List S->SR):List S->SR:=fun e=>(d e).stm fun w e1=>match seqW w with
 |some ws=>forD i b ws e1
 |none=>.no
noncomputable def rangeW(lo hi:Int):List W:=(List.range (hi-lo).toNat).map fun k=>.int (lo+(k:Nat))
noncomputable def okI(j:Int):Bool:=Nat.ble j.natAbs 4611686018427387903
theorem q69{j:Int}(h:okI j=true):-(2^62)<=j/\j<2^62:=by
 have z:j.natAbs<=4611686018427387903:=w3x h;have e:(2:Int)^62=4611686018427387904:=by decide
 rw[e];omega
theorem q7a{j:Int}(h1:-1000000000<=j)(h2:j<=1000000000):okI j=true:=Nat.ble_eq_true_of_le (by omega)
noncomputable def rng1:List W->Option (List W)
 |[.int j]=>if okI j=true then some (rangeW 0 j)else none
 |_=>none
noncomputable def rng2:List W->Option (List W)
 |[.int i,.int j]=>if okI i=true/\okI j=true then some (rangeW i j)else none
 |_=>none
noncomputable def dForR(i:Nat)(g:List W->Option (List W))(d:Den (List W))(b:List S->SR):List S->SR:=fun e=>(d e).stm fun w e1=>match g w with
 |some ws=>forD i b ws e1
 |none=>.no
section
variable{a c e tg:Expr}{rest body:List Stmt}{d:Den W}{dc:Den Bool}{s1 s2:List S->SR}
theorem PostS.trans{D:Ends}(s:Same G G1):∀{r:SR},PostS K Z EE D G r->PostS K Z EE D G1 r
 |.nx e',h=>fun G' σ' H' r q=>h G' σ' H' r (s.trans q)
 |.bk e',h=>fun G' σ' H' r q=>h G' σ' H' r (s.trans q)
 |.ct e',h=>fun G' σ' H' r q=>h G' σ' H' r (s.trans q)
 |.rt w e',h=>fun G' σ' v H' r q=>h G' σ' v H' r (s.trans q)
 |.ex c e',h=>fun G' σ' H' r q=>h G' σ' H' r (s.trans q)
 |.no,h=>h
theorem q1f{D:Ends}{r:R α}{k:α->List S->SR}(h:PostS K Z EE D G (r.stm k)):r.holds (fun a e'=>PostS K Z EE D G (k a e')) (XH K Z EE σ G):=by
 cases r with
 |ok a e=>exact h
 |ex c e=>exact fun G' H' r q=>h G' σ H' r q
 |no=>exact h
theorem q0p:DSs Z X EE [] dNx:=PSs.mono q8s fun D σ H ⟨G,e,r,h⟩=>h G σ H r (.refl _)
theorem y1y:∀D σ H,liftS K Z EE (dSeq s1 s2) D σ H->tSeq (liftS K Z EE s1) (liftS K Z EE s2) D σ H:=by
 rintro D σ H ⟨G,e,rel,h⟩;refine⟨G,e,rel,?_⟩;unfold dSeq at h;cases q:s1 e with
 |nx e'=>rw[q]at h;exact fun G' σ' H' r s=>⟨G',e',r,PostS.trans s h⟩
 |bk e'=>rw[q]at h;exact h
 |ct e'=>rw[q]at h;exact h
 |rt w e'=>rw[q]at h;exact h
 |ex c e'=>rw[q]at h;exact h
 |no=>rw[q]at h;exact h
theorem q0e(h1:DS Z X EE st s1)(h2:DSs Z X EE rest s2):DSs Z X EE (st::rest) (dSeq s1 s2):=PSs.mono (q2n h1 h2) y1y
theorem q0f(h1:DS Z X EE st s1):DSs Z X EE [st] s1:=q3w h1
theorem q8w(he:DE Z X EE e d)(hs:swapsWith e none pos.line X.env=pure false:=by rfl):DS Z X EE (.Expr e pos) (dDrop d):=by
 refine PS.mono (x1b he hs) ?_;rintro D σ H ⟨G,e,rel,h⟩;exact⟨G,e,rel,(q1f h).imp (fun w e1 h G1 v1 H1 r1 s1 p1=>h G1 σ H1 r1 s1) fun _ _ h=>h⟩
theorem q0o(he:DE Z X EE e d):DS Z X EE (.Return (some e) pos) (dRet d):=by
 refine PS.mono (q6g he) ?_;rintro D σ H ⟨G,e,rel,h⟩;exact⟨G,e,rel,(q1f h).imp (fun w e1 h G1 v1 H1 r1 s1 p1=>h G1 σ v1 H1 r1 s1 ⟨v1,rfl,p1⟩) fun _ _ h=>h⟩
theorem y46(i:Nat)(hN:X.N[i]?=some x:=by rfl)(hv:Vis X.env.scope x:=by walk_at "1")(hd:(x==("__debug__":Str))=false:=by decide)
  (hcd:(x==("__classdict__":Str))=false:=by decide):DS Z X EE (.Return (some (.Name x p)) pos) (dRetO i):=by
 refine PS.mono (q6g (pv i hN hv hd hcd)) ?_;rintro D σ H ⟨G,e,rel,h⟩;unfold dRetO at h;split at h
 ·rename_i ws hw;obtain⟨a,xs,h1,h2,h3,h4,h5⟩:=rel.own hw;exact⟨.ref a,h1,h G σ _ H rel (.refl _) ⟨a,xs,rfl,h2,h3,h4,h5⟩⟩
 ·rename_i w hw;obtain⟨v,h1,h2⟩:=rel.fr hw;exact⟨v,h1,h G σ _ H rel (.refl _) ⟨v,rfl,h2⟩⟩
 ·exact h.elim
theorem y1z:∀D σ H,liftS K Z EE (dIfS dc s1 s2) D σ H->tIfS (liftT K Z EE dc) (liftS K Z EE s1) (liftS K Z EE s2) D σ H:=by
 rintro D σ H ⟨G,e,rel,h⟩;refine⟨G,e,rel,(q1f h).imp (fun x e1 h G1 H1 r1 q1=>?_) fun _ _ h=>h⟩
 cases x with
 |true=>exact⟨G1,e1,r1,PostS.trans q1 h⟩
 |false=>exact⟨G1,e1,r1,PostS.trans q1 h⟩
theorem q0x{p q:List Stmt}(hc:DT Z X EE c dc)(ha:DSs Z X EE p s1)(hb:DSs Z X EE q s2):DS Z X EE (.If c p q pos) (dIfS dc s1 s2):=PS.mono (x0b hc ha hb) y1z
theorem q02(i:Nat)(hN:X.N.Nodup)(he:DE Z X EE e d)(hi:X.N[i]?=some x:=by rfl)(hx:Loc X.env.scope x:=by walk_at "3")(hs:swapsWith e (some (.Name x pos')) pos.line X.env=pure false:=by rfl)(hf:X.fn x=true\/X.env.scope.names.lookup x=some .local:=by walk_at "2"):
  DS Z X EE (.Assign [.Name x pos'] e pos) (dSet i d):=by
 refine PS.mono (q6w i hN he hi hx hs hf) ?_;rintro D σ H ⟨G,e,rel,h⟩;exact⟨G,e,rel,(q1f h).imp (fun w e1 h G1 v1 H1 r1 q1 p1=>h G1 _ H1 (r1.set p1) q1) fun _ _ h=>h⟩
theorem q4z(i:Nat)(hN:X.N.Nodup)(he:DF Z X EE e dA)(hi:X.N[i]?=some x:=by rfl)(hx:Loc X.env.scope x:=by walk_at "3")(hs:swapsWith e (some (.Name x pos')) pos.line X.env=pure false:=by rfl)(hf:X.fn x=true\/X.env.scope.names.lookup x=some .local:=by walk_at "2"):
  DS Z X EE (.Assign [.Name x pos'] e pos) (dSetO i dA):=by
 refine PS.mono (q6w i hN he hi hx hs hf) ?_;rintro D σ H ⟨G,e,rel,h⟩;exact⟨G,e,rel,(q1f h).imp (fun w e1 h G1 a xs H1 r1 s1 q1 q2 q3 q4 p1=>h G1 _ H1 (r1.setOwn q1 q2 q3 q4 p1) s1) fun _ _ h=>h⟩
theorem q9q(n:Nat)(hp:PassesOwn (model X.prog X.w) X.A X.env X.xe)(hc:DT Z X EE c dc)(hb:DSs Z X EE body s1):DS Z X EE (.While c body [] pos) (whileD dc s1 n):=by
 refine PS.mono (y1i hp hc hb) ?_;rintro D σ H ⟨G,e,rel,h⟩;refine⟨fun m σ' H'=>∃G' e',Rel X.K Z G' σ' H' e'/\Same G G'/\PostS X.K Z EE D G (whileD dc s1 m e'),⟨n,G,e,rel,.refl _,h⟩,?_⟩
 rintro m σ1 H1 ⟨G1,e1,r1,q1,h⟩;cases m with
 |zero=>exact h.elim
 |succ m=>
  refine⟨G1,e1,r1,(q1f (σ:=σ1) h).imp (fun x e2 h G2 H2 r2 q2=>?_) fun _ _ h=>XH.trans q1 h⟩
  cases x with
  |false=>exact h G2 σ1 H2 r2 (q1.trans q2)
  |true=>
   refine⟨fun σ' H'=>∃G' e',Rel X.K Z G' σ' H' e'/\Same G G'/\PostS X.K Z EE D G (whileD dc s1 m e'),fun σ' H' q=>⟨m,w1q _,q⟩,⟨G2,e2,r2,?_⟩⟩
   have sg:=q1.trans q2;have h:PostS X.K Z EE D G (match s1 e2 with|.nx e'=>whileD dc s1 m e'|.ct e'=>whileD dc s1 m e'|.bk e'=>.nx e'|.rt s e'=>.rt s e'|.ex c e'=>.ex c e'|.no=>.no):=h;cases q:s1 e2 with
   |nx e'=>rw[q]at h;exact fun G' σ' H' r s=>⟨G',e',r,sg.trans s,h⟩
   |ct e'=>rw[q]at h;exact fun G' σ' H' r s=>⟨G',e',r,sg.trans s,h⟩
   |bk e'=>rw[q]at h;exact fun G' σ' H' r s=>h G' σ' H' r (sg.trans s)
   |rt w e'=>rw[q]at h;exact fun G' σ' v H' r s=>h G' σ' v H' r (sg.trans s)
   |ex c e'=>rw[q]at h;exact fun G' σ' H' r s=>h G' σ' H' r (sg.trans s)
   |no=>rw[q]at h;exact h
theorem y10{D:Ends}{x:V}{N:St->Hp->Prop}(r1:Rel K Z G1 σ H e1)(q1:Same G G1)(p:Rep K G1 w x)(h:PostS K Z EE D G (forD i s1 (w::ws) e1))
  (hN:∀G' σ' H' e',Rel K Z G' σ' H' e'->Same G G'->PostS K Z EE D G (forD i s1 ws e')->N σ' H'):gName i x σ H fun σ2 H2=>liftS K Z EE s1 {D with nx:=N,ct:=N,bk:=D.nx} σ2 H2:=by
 refine⟨G1,e1.set i (.fr w),r1.set p,?_⟩;unfold forD at h;cases q:s1 (e1.set i (.fr w))with
 |nx e'=>rw[q]at h;exact fun G' σ' H' r s=>hN G' σ' H' e' r (q1.trans s) h
 |ct e'=>rw[q]at h;exact fun G' σ' H' r s=>hN G' σ' H' e' r (q1.trans s) h
 |bk e'=>rw[q]at h;exact fun G' σ' H' r s=>h G' σ' H' r (q1.trans s)
 |rt w e'=>rw[q]at h;exact fun G' σ' v H' r s=>h G' σ' v H' r (q1.trans s)
 |ex c e'=>rw[q]at h;exact fun G' σ' H' r s=>h G' σ' H' r (q1.trans s)
 |no=>rw[q]at h;exact h
def iSeq(K:PySem.W.Frag)(tl:TE):TI:=fun σ H R=>tl σ H fun x H1=>∃a,x=.ref a/\(((∃xs,SqL K H1 a xs)/\R (Itl K a) H1)\/((∃xs,SqT K H1 a xs)/\R (Itt K a) H1))
theorem x0i{l:Expr}{tl:TE}(hl:PE X l tl):PI X tg l (iSeq X.K tl):=by
 intro pins s σ H R I h;refine thn (hl pins s σ H _ I h) fun v s1 ⟨x,H1,I1,r1,q1⟩=>?_
 obtain⟨a,e,q⟩:=q1;subst e;cases r1;rcases q with⟨⟨xs,hq⟩,q⟩|⟨⟨xs,hq⟩,q⟩
 ·obtain⟨its,rv,p,hz⟩:=I1.list hq;refine wpAny_pyIter_list p.isList ?_;refine⟨s1.heap.objs.size,[s1.heap.objs.size],_,_,H1,rfl,I1.kept (t':=s1.toks) fun b o e=>Heap.get?_push_of_some _ e,x8l a _,⟨_,Heap.get?_push_size _ rfl,rfl,rfl⟩,fun b hb=>?_,q⟩
  have e:b=s1.heap.objs.size:=by simpa using hb
  subst e;exact I1.fpOk (w0e _) (I1.hok.fresh (w0e _))
 ·obtain⟨its,rv,p,hz⟩:=I1.tuple hq;refine wpAny_pyIter_tuple (show s1.heap.IsTuple a its.toArray from p) ?_;refine⟨s1.heap.objs.size,[s1.heap.objs.size],_,_,H1,rfl,I1.kept (t':=s1.toks) fun b o e=>Heap.get?_push_of_some _ e,x69 a _,⟨_,Heap.get?_push_size _ rfl,rfl,rfl⟩,fun b hb=>?_,q⟩
  have e:b=s1.heap.objs.size:=by simpa using hb
  subst e;exact I1.fpOk (w0e _) (I1.hok.fresh (w0e _))
theorem x2c{ws:List α}{k:Nat}{w:α}(h:ws[k]?=some w):ws.drop k=w::ws.drop (k+1):=by
 obtain⟨hk,rfl⟩:=w0b.mp h;exact w3m hk
theorem x55{i:Nat}{D:Ends}(r1:Rel K Z G1 σ H1 e1)(rp:Reps K G1 ws xs)(h:PostS K Z EE D G1 (forD i s1 ws e1))(SQ:Hp->Prop)(hSQ:∀G' H',Same G1 G'->Same G' H'->SQ H'):
  ∃Pv:Nat->St->Hp->Prop,Pv 0 σ H1/\(∀j σ H,j<=xs.length->Pv j σ H->SQ H)/\(∀(j:Nat) x σ H,xs[j]?=some x->Pv j σ H->gName i x σ H fun σ2 H2=>liftS K Z EE s1 {D with nx:=Pv (j+1),ct:=Pv (j+1),bk:=D.nx} σ2 H2)/\∀σ H,Pv xs.length σ H->D.nx σ H:=by
 refine⟨fun j σ' H'=>∃G' e',Rel K Z G' σ' H' e'/\Same G1 G'/\PostS K Z EE D G1 (forD i s1 (ws.drop j) e'),⟨G1,e1,r1,.refl _,h⟩,?_,?_,?_⟩
 ·rintro j σ' H' _ ⟨G',e',r',s',_⟩;exact hSQ G' H' s' r'.sub
 ·rintro j x σ' H' hx ⟨G',e',r',s',h⟩;obtain⟨w,hw,pw⟩:=rp.getV hx;rw[x2c hw]at h;exact y10 r' s' (Rep.mono s' w pw) h fun G'' σ'' H'' e'' r'' s'' h''=>⟨G'',e'',r'',s'',h''⟩
 ·rintro σ' H' ⟨G',e',r',s',h⟩;rw[rp.length,w3r]at h;exact h G' σ' H' r' s'
theorem x3x(i:Nat)(hN:X.N.Nodup)(hp:PassesOwn (model X.prog X.w) X.A X.env X.xe)(hc:X.calm=true)(hl:DE Z X EE e d)(hb:DSs Z X EE body s1)
  (hi:X.N[i]?=some x:=by rfl)(hx:Loc X.env.scope x:=by walk_at "3")(hf:X.fn x=true\/X.env.scope.names.lookup x=some .local:=by walk_at "2")(hs:∀x,foldedSetIterable e X.env x=pure x:=by intro _;rfl):
  DS Z X EE (.For (.Name x pos') e body [] pos) (dFor i d s1):=by
 refine PS.mono (x8n hp hc (x0i hl) (q29 i hN hi hx hf) hb hs) ?_;rintro D σ H ⟨G,e,rel,h⟩;refine⟨G,e,rel,(q1f h).imp (fun w e1 h G1 v1 H1 r1 q1 p1=>?_) fun _ _ h=>h⟩
 have key:=fun ws xs (rp:Reps X.K G1 ws xs) (h:PostS X.K Z EE D G (forD i s1 ws e1))=>x55 (i:=i) (D:=D) r1 rp (PostS.trans q1 h)
 cases w with
 |tup ws=>
  obtain⟨a,xs,rfl,hq,rp⟩:=p1;refine⟨a,rfl,.inr ⟨⟨xs,r1.sub.tup hq⟩,?_⟩⟩;obtain⟨Pv,h0,h1,h2,h3⟩:=key ws xs rp h (fun H'=>SqT X.K H' a xs) (fun G' H' s s'=>Same.tup s' (Same.tup s hq))
  exact y4n Pv h0 h1 h2 h3
 |lst ws=>
  obtain⟨a,xs,rfl,hq,rp⟩:=p1;refine⟨a,rfl,.inl ⟨⟨xs,r1.sub.seq hq⟩,?_⟩⟩;obtain⟨Pv,h0,h1,h2,h3⟩:=key ws xs rp h (fun H'=>SqL X.K H' a xs) (fun G' H' s s'=>Same.seq s' (Same.seq s hq))
  exact y1k Pv h0 h1 h2 h3
 |_=>exact h.elim
theorem x0j{lo hi:Int}:Reps K G (rangeW lo hi) ((List.range (hi-lo).toNat).map fun k=>V.int (lo+(k:Nat))):=by
 unfold rangeW;generalize List.range (hi-lo).toNat=l
 induction l with
 |nil=>rfl
 |cons k l ih=>exact⟨_,_,rfl,rfl,ih⟩
theorem y47{i:Nat}{D:Ends}{lo hi:Int}(r1:Rel K Z G1 σ H1 e1)(h:PostS K Z EE D G1 (forD i s1 (rangeW lo hi) e1)):
  ∃W:Nat->Nat->St->Hp->Prop,(∃m,W 0 m σ H1)/\∀j m σ H,W j m σ H ->
   ((Itr lo (hi-lo).toNat).stop j H/\D.nx σ H)\/((Itr lo (hi-lo).toNat).go j H/\∃N:St->Hp->Prop,(∀σ' H',N σ' H'->∃m',m'<m/\W (j+1) m' σ' H')/\∀x H',(Itr lo (hi-lo).toNat).yld j H x H'->gName i x σ H' fun σ2 H2=>liftS K Z EE s1 {D with nx:=N,ct:=N,bk:=D.nx} σ2 H2):=by
 obtain⟨Pv,h0,h1,h2,h3⟩:=x55 (i:=i) (D:=D) r1 (x0j (lo:=lo) (hi:=hi)) h (fun _=>True) (fun _ _ _ _=>trivial)
 refine x8o Pv h0 (fun j σ' H' hj p=>h2 j _ σ' H' ?_ p) (fun σ' H' p=>h3 σ' H' (by simpa using p))
 simp[hj]
theorem q7b(i:Nat){p1 p2:Pos}(hN:X.N.Nodup)(hp:PassesOwn (model X.prog X.w) X.A X.env X.xe)(hc:X.calm=true)(hm:X.mg "range"=none)(ha:DA Z X EE [a] dA)(hb:DSs Z X EE body s1)
  (hi:X.N[i]?=some x:=by rfl)(hx:Loc X.env.scope x:=by walk_at "3")(hf:X.fn x=true\/X.env.scope.names.lookup x=some .local:=by walk_at "2")(hg:Gl X "range":=by rfl)(hs1:starEach [a] X.env=[(false,eval a X.env)]:=by rfl)(hs:∀x,foldedSetIterable (.Call (.Name "range" p1) [a] [] p2) X.env x=pure x:=by intro _;rfl):
  DS Z X EE (.For (.Name x p) (.Call (.Name "range" p1) [a] [] p2) body [] pos) (dForR i rng1 dA s1):=by
 refine PS.mono (x8n hp hc (q8c hg hm ha hs1) (q29 i hN hi hx hf) hb hs) ?_;rintro D σ H ⟨G,e,rel,h⟩;refine⟨G,e,rel,(q1f h).imp (fun ws e1 h G1 vs H1 r1 q1 p1=>?_) fun _ _ h=>h⟩
 unfold rng1 at h;split at h
 ·rename_i hh;split at hh
  ·rename_i j;split at hh
   ·rename_i hj;cases hh;obtain⟨y,r,rfl,e1,e2⟩:=p1;cases(show y=V.int j from e1);cases(show r=[]from e2);refine⟨j,rfl,(q69 hj).1,(q69 hj).2,?_⟩;have z:=y47 (i:=i) (D:=D) r1 (PostS.trans q1 h)
    rwa [Int.sub_zero]at z
   ·cases hh
  ·cases hh
 ·exact h.elim
end
open PyProof.Rows (envOfC)
inductive FR where
 |ok (s:S)|ex (c:Value)|no
variable{F:List W->FR}
noncomputable def spF(K:PySem.W.Frag)(F:List W->FR):Sp:=fun vs H Q E=>∃G ws,Same G H/\Reps K G ws vs/\match F ws with
 |.ok s=>∀G' H' v,Grow G H G' H'->SlotOk K ⟨H,G,[]⟩ G' H' s (some v)->Q v H'
 |.ex c=>∀H',Same H H'->E c none H'
 |.no=>False
noncomputable def SR.fn:SR->FR
 |.nx _=>.ok (.fr .non)
 |.rt s _=>.ok s
 |.ex c _=>.ex c
 |_=>.no
noncomputable def init(n:Nat)(ws:List W):List S:=ws.map .fr++List.replicate (n-ws.length) .no
theorem q5c{N:List Str}(s:Same G H)(r:Reps K G ws vs):Rel K ⟨H,G,[]⟩ G (L2.start N vs) H (init N.length ws):=by
 have hl:=r.length
 have hfr:∀(i:Nat)(s:S),(init N.length ws)[i]?=some s->(s=.no)\/∃w,s=.fr w/\ws[i]?=some w:=fun i s h=>by
  unfold init at h;rw[List.getElem?_append]at h;split at h
  ·rw[w0h]at h;obtain⟨w,h1,rfl⟩:=w0f.mp h;exact .inr ⟨w,rfl,h1⟩
  ·rw[w2a]at h;split at h
   ·cases h;exact .inl rfl
   ·cases h
 refine⟨s,fun i t h=>?_,?_,fun i j b b' w1 w2 a h1 h2 _ _=>?_,fun a o h _=>h,(fun a h=>nomatch h),fun a _=>rfl⟩
 ·rcases hfr i t h with rfl|⟨w,rfl,h1⟩
  ·trivial
  ·obtain⟨v,h2,h3⟩:=r.get h1;refine⟨v,?_,h3⟩;have hi:i<vs.length:=(w0b.mp h2).1;unfold L2.start;rw[w0w (by simpa using hi),w0h,h2];rfl
 ·unfold init L2.start;simp[hl]
 ·rcases hfr i _ h1 with z|⟨w,z,_⟩<;>cases z
theorem Rel.toGrow(r:Rel K ⟨H,G,[]⟩ G' σ H' e)(s:Same G G'):Grow G H G' H':=
 ⟨fun a o h=>r.ent a o h (by simp),s,r.sub,fun a h=>r.gen a h⟩
section
variable{P:Program}{w:World}{mg:Str->Option Value}{base:Heap}
theorem q7c{Q:VK}{E:XK}(h:spF K F vs H Q E):∃G ws,F ws≠.no/\Reps K G ws vs:=by
 obtain⟨G,ws,_,r,h⟩:=h;refine⟨G,ws,fun z=>?_,r⟩
 rw[z]at h;exact h
theorem q7d{Q:VK}{E:XK}{r:SR}(he:r.fn=F ws)(h:match F ws with
  |.ok s=>∀G' H' v,Grow G H G' H'->SlotOk K ⟨H,G,[]⟩ G' H' s (some v)->Q v H'
  |.ex c=>∀H',Same H H'->E c none H'
  |.no=>False):PostS K ⟨H,G,[]⟩ (fun _=>E) {nx:=fun _ H'=>Q .non H',rt:=Q} G r:=by
 rw[<- he]at h;cases r with
 |nx e=>exact fun G' σ' H' r s=>h G' H' .non (r.toGrow s) ⟨.non,rfl,rfl⟩
 |rt s e=>exact fun G' σ' v H' r q p=>h G' H' v (r.toGrow q) p
 |ex c e=>exact fun G' σ' H' r s=>h H' (r.toGrow s).hh
 |bk e=>exact h.elim
 |ct e=>exact h.elim
 |no=>exact h.elim
theorem con{N:List Str}{k:Nat}(A:At K mg x st ps)(sc:FnScope N ps (defScope st))(len:∀ws,F ws≠.no->ws.length=ps.length)
  (hb:∀ws,F ws≠.no->∀(f:Addr)(cdv:Value)(A:Around)(outer:List Env)(s:Shared)(H:Hp)(E:XK)(Z:Zt),Room k (A.deeper (envOfC x (defScope st) s.heap.objs.size f cdv)) ->
   ∃d,DSs Z (cxOf (CX1 P w) P w K mg base N x (defScope st) f cdv A outer s H E) (fun _=>E) (defBody st) d/\(d (init N.length ws)).fn=F ws):Cal P w K mg base (k+1) x ps (spF K F):=by
 refine A.cal sc (fun vs H Q E h=>?_) (fun f cdv A outer s H vs Q E hr h=>?_)
 ·obtain⟨G,ws,hn,r⟩:=q7c h;rw[r.length];exact len ws hn
 ·have hn0:=h;obtain⟨G,ws,sg,rp,h⟩:=h;have hn:F ws≠.no:=fun z=>by rw[z]at h;exact h
  obtain⟨d,hd,he⟩:=hb ws hn f cdv A outer s H E ⟨H,G,[]⟩ hr;exact⟨_,hd,G,init N.length ws,q5c sg rp,q7d he h⟩
theorem conH{N:List Str}{k:Nat}(A:At K mg x st ps)(sc:FnScope N ps (defScope st))(len:∀ws,F ws≠.no->ws.length=ps.length)
  (hb:∀ws,F ws≠.no->∀(f:Addr)(cdv:Value)(A:Around)(outer:List Env)(s:Shared)(H:Hp)(Z:Zt),RoomH k (A.deeper (envOfC x (defScope st) s.heap.objs.size f cdv)) ->
   ∃d,DSs Z (cxH P w K mg base N x (defScope st) f cdv A outer s H) (fun _=>E0) (defBody st) d/\(d (init N.length ws)).fn=F ws):CalH P w K mg base (k+1) x ps (spF K F):=by
 refine A.calH sc (fun vs H Q E h=>?_) (fun f cdv A outer s H vs Q hr h=>?_)
 ·obtain⟨G,ws,hn,r⟩:=q7c h;rw[r.length];exact len ws hn
 ·obtain⟨G,ws,sg,rp,h⟩:=h;have hn:F ws≠.no:=fun z=>by rw[z]at h;exact h
  obtain⟨d,hd,he⟩:=hb ws hn f cdv A outer s H ⟨H,G,[]⟩ hr;exact⟨_,hd,G,init N.length ws,q5c sg rp,q7d he h⟩
end
noncomputable def dCall(F:List W->FR)(dA:Den (List W)):Den W:=fun e=>(dA e).bind fun ws e1=>match F ws with
 |.ok (.fr w)=>.ok w e1
 |.ok (.own none ws')=>.ok (.lst ws') e1
 |.ok (.dic kvs)=>.ok (.dic kvs) e1
 |.ok (.thr us ws vs)=>.ok (.tup (us++.lst ws::vs)) e1
 |.ok (.x (.new w))=>.ok w e1
 |.ok (.x (.tn us wss))=>.ok (.tup (us++[.lst (wss.map .lst)])) e1
 |.ex c=>.ex c e1
 |_=>.no
noncomputable def dCallH(F:List W->FR)(dA:Den (List W)):Den W:=fun e=>(dA e).bind fun ws e1=>match F ws with
 |.ok (.fr w)=>.ok w e1
 |.ok (.own none ws')=>.ok (.lst ws') e1
 |_=>.no
section
variable{e:Expr}{k:Nat}
theorem q7o{s:S}(r1:Rel K Z G1 σ H1 e1)(g:Grow G1 H1 G' H')(q:SlotOk K ⟨H1,G1,[]⟩ G' H' s (some v))(hs:s=.fr w\/∃ws,s=.own none ws/\w=.lst ws):
  ∃G'',Rel K Z G'' σ H' e1/\Same G1 G''/\Rep K G'' w v:=by
 rcases hs with rfl|⟨ws,rfl,rfl⟩
 ·obtain⟨u,h1,h2⟩:=q;cases h1;exact⟨G',r1.grow g,g.gg,h2⟩
 ·obtain⟨a,xs,h1,h2,h3,h4,h5⟩:=q;cases h1;have hn:H1 a=none:=h4;obtain⟨sg,rg⟩:=(r1.grow g).seen h2 h3 (q4c r1 hn) (q7n r1 hn);exact⟨_,rg,g.gg.trans sg,⟨a,xs,rfl,SqL.of q0h,Reps.mono sg ws h5⟩⟩
theorem x83{kvs:Dd}(r1:Rel K Z G1 σ H1 e1)(g:Grow G1 H1 G' H')(q:SlotOk K ⟨H1,G1,[]⟩ G' H' (.dic kvs) (some v)):
  ∃G'',Rel K Z G'' σ H' e1/\Same G1 G''/\Rep K G'' (.dic kvs) v:=by
 obtain⟨a,h1,h2,h3,h4⟩:=q;cases h1;have hn:H1 a=none:=h4;have r:=r1.grow g;have sg:Same G' (upd G' a (dO kvs)):=q2o h3 _;refine⟨upd G' a (dO kvs),⟨fun c o z=>?_,fun j s z=>?_,r.len,r.dis,r.ent,r.ion,fun c z=>?_⟩,g.gg.trans sg,⟨a,rfl,q0h⟩⟩
 ·by_cases hc:c=a
  ·subst hc;rw[q0h]at z;cases z;exact h2
  ·rw[q0d hc]at z;exact r.sub c o z
 ·have y:=r.slot j s z;have y1:=r1.slot j s z;cases s with
  |no=>trivial
  |fr w=>
   obtain⟨u,y1,y2⟩:=y;exact⟨u,y1,Rep.mono sg w y2⟩
  |own b2 w2=>
   obtain⟨c,ys,x1,x2,x3,x4,x5⟩:=y;refine⟨c,ys,x1,x2,?_,x4,Reps.mono sg w2 x5⟩;rw[q0d (q06 x2 h2 (fun z=>q5p rfl z.symm))];exact x3
  |dic kv=>
   obtain⟨c,x1,x2,x3,x4⟩:=y;obtain⟨c',w1,w2,_⟩:=y1;rw[x1]at w1;cases w1;refine⟨c,x1,x2,?_,x4⟩;rw[q0d (q0m w2 hn)];exact x3
  |thr us w2 vs=>
   obtain⟨t,l,o,xs2,ys,zs,x1,x2,x3,x4,x5,x6,x7,x8⟩:=y;refine⟨t,l,o,xs2,ys,zs,x1,sg _ _ x2,x3,?_,x5,Reps.mono sg us x6,Reps.mono sg w2 x7,Reps.mono sg vs x8⟩;rw[q0d (q06 x3 h2 (fun z=>q5p rfl z.symm))];exact x4
  |nest wss=>exact NestOk.move y sg fun l o ys k1 k2 k3=>⟨k1,by rw[q0d (q06 k1 h2 (fun z=>q5p rfl z.symm))];exact k2,k3⟩
  |x k=>exact XOk.move y sg fun l o ys k1 k2 k3=>⟨k1,by rw[q0d (q06 k1 h2 (fun z=>q5p rfl z.symm))];exact k2,k3⟩
  |dw sh ks ws=>exact DwOk.move y sg fun l o ys k1 k2 k3=>⟨k1,by rw[q0d (q06 k1 h2 (fun z=>q5p rfl z.symm))];exact k2,k3⟩
 ·by_cases hc:c=a
  ·subst hc;exact absurd (q4c r1 hn) z
  ·rw[q0d hc];exact r.gen c z
theorem x84{us vs:List W}(r1:Rel K Z G1 σ H1 e1)(g:Grow G1 H1 G' H')(q:SlotOk K ⟨H1,G1,[]⟩ G' H' (.thr us ws vs) (some v)):
  ∃G'',Rel K Z G'' σ H' e1/\Same G1 G''/\Rep K G'' (.tup (us++.lst ws::vs)) v:=by
 obtain⟨t,l,o,xs,ys,zs,h1,h2,h3,h4,h5,h6,h7,h8⟩:=q;cases h1;have hn:H1 l=none:=h5;have r:=r1.grow g;have sg:Same G' (upd G' l (.frz o (.lst ys))):=q2o h4 _;refine⟨upd G' l (.frz o (.lst ys)),⟨fun c u z=>?_,fun j s z=>?_,r.len,r.dis,r.ent,r.ion,fun c z=>?_⟩,g.gg.trans sg,⟨t,_,rfl,SqT.of (sg _ _ h2),(Reps.mono sg us h6).append ⟨.ref l,zs,rfl,⟨l,ys,rfl,.inl (.inr ⟨o,q0h⟩),Reps.mono sg ws h7⟩,Reps.mono sg vs h8⟩⟩⟩
 ·by_cases hc:c=l
  ·subst hc;rw[q0h]at z;cases z;exact h3
  ·rw[q0d hc]at z;exact r.sub c u z
 ·have y:=r.slot j s z;have y1:=r1.slot j s z;cases s with
  |no=>trivial
  |fr w=>
   obtain⟨u,y1,y2⟩:=y;exact⟨u,y1,Rep.mono sg w y2⟩
  |own b2 w2=>
   obtain⟨c,ys,x1,x2,x3,x4,x5⟩:=y;refine⟨c,ys,x1,x2,?_,x4,Reps.mono sg w2 x5⟩;rw[q0d (q06 x2 h3 (fun z=>nomatch z))];exact x3
  |dic kv=>
   obtain⟨c,x1,x2,x3,x4⟩:=y;refine⟨c,x1,x2,?_,x4⟩;rw[q0d (q06 x2 h3 (q5p rfl))];exact x3
  |thr us w2 vs=>
   obtain⟨t1,l1,o1,xs1,ys1,zs1,w1,w2',w3,w4,w5,w6,w7,w8⟩:=y1;have sg2:=g.gg.trans sg;refine⟨t1,l1,o1,xs1,ys1,zs1,w1,sg2 _ _ w2',g.hh _ _ w3,?_,w5,Reps.mono sg2 us w6,Reps.mono sg2 w2 w7,Reps.mono sg2 vs w8⟩;rw[q0d (q0m w3 hn),g.new l1 (by rw[w3];simp)];exact w4
  |nest wss=>exact NestOk.move y1 (g.gg.trans sg) fun l1 o ys k1 k2 k3=>⟨g.hh _ _ k1,by rw[q0d (q0m k1 hn),g.new l1 (by rw[k1];simp)];exact k2,k3⟩
  |x k=>exact XOk.move y1 (g.gg.trans sg) fun l1 o ys k1 k2 k3=>⟨g.hh _ _ k1,by rw[q0d (q0m k1 hn),g.new l1 (by rw[k1];simp)];exact k2,k3⟩
  |dw sh ks ws=>exact DwOk.move y1 (g.gg.trans sg) fun l1 o ys k1 k2 k3=>⟨g.hh _ _ k1,by rw[q0d (q0m k1 hn),g.new l1 (by rw[k1];simp)];exact k2,k3⟩
 ·by_cases hc:c=l
  ·subst hc;exact absurd (q4c r1 hn) z
  ·rw[q0d hc];exact r.gen c z
theorem NestIn.mem0:∀{ls:List Addr}{wss:List (List W)},NestIn K Z G H ls wss->∀l∈ls,∃o ys,FzAt Z G H l o ys
 |[],_,_,_,hl=>nomatch hl
 |l::ls,ws::wss,⟨⟨o,ys,h1,_⟩,h⟩,c,hc=>by
  rcases w0q.mp hc with rfl|hc
  ·exact⟨o,ys,h1⟩
  ·exact h.mem0 c hc
 |_::_,[],h,_,_=>h.elim
theorem NestIn.reps0(sg:Same G G'):∀{ls:List Addr}{wss:List (List W)},(∀l∈ls,G' l=H l)->NestIn K Z G H ls wss->Reps K G' (wss.map W.lst) (ls.map V.ref)
 |[],[],_,_=>rfl
 |l::ls,ws::wss,hf,⟨⟨o,ys,h1,h4⟩,h⟩=>⟨.ref l,ls.map V.ref,rfl,⟨l,ys,rfl,.inl (.inr ⟨o,by rw[hf l (by simp)];exact h1.1⟩),Reps.mono sg ws h4⟩,h.reps0 sg fun c hc=>hf c (by simp[hc])⟩
 |[],_::_,_,h=>h.elim
 |_::_,[],_,h=>h.elim
theorem Rel.addNew(r1:Rel K Z G1 σ H1 e1)(g:Grow G1 H1 G' H')(As:List Addr) [DecidablePred (·∈As)](hA:∀c∈As,(∃o ys,H' c=some (.frz o (.lst ys)))/\G' c=none/\H1 c=none):
  Same G' (fun c=>if c∈As then H' c else G' c)/\Rel K Z (fun c=>if c∈As then H' c else G' c) σ H' e1:=by
 have sg:Same G' (fun c=>if c∈As then H' c else G' c):=fun c o z=>by
  show(if c∈As then H' c else G' c)=some o;rw[if_neg (fun m=>by rw[(hA c m).2.1]at z;cases z)];exact z
 refine⟨sg,r1.grow ⟨g.hh,g.gg.trans sg,fun c o z=>?_,fun c hc=>?_⟩⟩
 ·have z:(if c∈As then H' c else G' c)=some o:=z;split at z
  ·exact z
  ·exact g.sub c o z
 ·show(if c∈As then H' c else G' c)=G1 c;rw[if_neg (fun m=>hc (hA c m).2.2)];exact g.new c hc
theorem y11{us:List W}{wss:List (List W)}(r1:Rel K Z G1 σ H1 e1)(g:Grow G1 H1 G' H')(q:SlotOk K ⟨H1,G1,[]⟩ G' H' (.x (.tn us wss)) (some v)):
  ∃G'',Rel K Z G'' σ H' e1/\Same G1 G''/\Rep K G'' (.tup (us++[.lst (wss.map .lst)])) v:=by
 classical
 obtain⟨t,l,o,ls,xs,h1,h2,⟨h3,h4,h5⟩,⟨h6,h7⟩,h8,h9⟩:=q;cases h1
 obtain⟨sg,r2⟩:=r1.addNew g (l::ls) fun c hc=>by
  rcases w0q.mp hc with rfl|hc
  ·exact⟨⟨o,_,h3⟩,h4,h5⟩
  ·obtain⟨o',ys,k1,k2,k3⟩:=h9.mem0 c hc;exact⟨⟨o',ys,k1⟩,k2,k3⟩
 refine⟨_,r2,g.gg.trans sg,t,_,rfl,SqT.of (sg _ _ h2),(Reps.mono sg us h8).append ⟨.ref l,[],rfl,⟨l,_,rfl,.inl (.inr ⟨o,?_⟩),h9.reps0 sg fun c hc=>if_pos (w1b _ hc)⟩,rfl⟩⟩
 show(if l∈l::ls then H' l else G' l)=_;rw[if_pos (w1m ..)];exact h3
theorem x3e{c:Value}(r1:Rel K Z G1 σ H1 e1)(s1:Same G G1)(h:XH K Z EE σ G c e1):∀H',Same H1 H'->EE σ c none H':=fun H' sh=>
 h G1 H' (r1.grow ⟨sh,.refl _,r1.sub.trans sh,fun _ _=>rfl⟩) s1
theorem q0n(C:Cal X.prog X.w X.K X.mg X.base k x ps (spF X.K F))(hr:Room k X.A)(hx:PassX (CX1 X.prog X.w) X EE)(ha:DA Z X EE (e::es) dA)(hg:Gl X x:=by rfl)
  (hdb:(x==("__debug__":Str))=false:=by decide)(he:starEach (e::es) X.env=(false,eval e X.env)::starEach es X.env:=by rfl)(hpl:(backTo pos (starEach es X.env)).any (·.1)=false:=by rfl):
  DE Z X EE (.Call (.Name x p) (e::es) [] pos) (dCall F dA):=by
 refine PE.mono (q6j C hr hx ha hg hdb he hpl) ?_;rintro σ H Q ⟨G,e,rel,h⟩;simp only[dCall,R.holds_bind]at h;refine⟨G,e,rel,h.imp (fun ws e1 h G1 vs H1 r1 s1 p1=>?_) fun _ _ h=>h⟩
 refine⟨G1,ws,r1.sub,by rw[w1n];exact p1,?_⟩;cases q:F ws with
 |ok s=>
  rw[q]at h;intro G' H' v g sl;cases s with
  |no=>exact h.elim
  |fr w=>
   obtain⟨G'',r2,s2,p2⟩:=q7o r1 g sl (.inl rfl);exact(show ∀G' v H',_->_->Rep X.K G' w v->Q v H' from h) G'' v H' r2 (s1.trans s2) p2
  |own b ws'=>
   cases b with
   |some _=>exact h.elim
   |none=>
    obtain⟨G'',r2,s2,p2⟩:=q7o r1 g sl (.inr ⟨ws',rfl,rfl⟩);exact(show ∀G' v H',_->_->Rep X.K G' (.lst ws') v->Q v H' from h) G'' v H' r2 (s1.trans s2) p2
  |dic kvs=>
   obtain⟨G'',r2,s2,p2⟩:=x83 r1 g sl;exact(show ∀G' v H',_->_->Rep X.K G' (.dic kvs) v->Q v H' from h) G'' v H' r2 (s1.trans s2) p2
  |thr us ws' vs'=>
   obtain⟨G'',r2,s2,p2⟩:=x84 r1 g sl;exact(show ∀G' v H',_->_->Rep X.K G' (.tup (us++.lst ws'::vs')) v->Q v H' from h) G'' v H' r2 (s1.trans s2) p2
  |nest _=>exact h.elim
  |x k=>
   cases k with
   |new w=>
    obtain⟨u,h1,h2⟩:=sl;cases h1;exact(show ∀G' v H',_->_->Rep X.K G' w v->Q v H' from h) G' _ H' (r1.grow g) (s1.trans g.gg) (RepN.rep _ h2)
   |tn us wss=>
    obtain⟨G'',r2,s2,p2⟩:=y11 r1 g sl;exact(show ∀G' v H',_->_->Rep X.K G' (.tup (us++[.lst (wss.map .lst)])) v->Q v H' from h) G'' v H' r2 (s1.trans s2) p2
   |_=>exact h.elim
  |dw _ _ _=>exact h.elim
 |ex c=>
  rw[q]at h;exact x3e r1 s1 h
 |no=>rw[q]at h;exact h.elim
theorem y48(C:CalH X.prog X.w X.K X.mg X.base k x ps (spF X.K F))(hr:RoomH k X.A)(ha:DA Z X EE (e::es) dA)(hg:Gl X x:=by rfl)
  (hdb:(x==("__debug__":Str))=false:=by decide)(he:starEach (e::es) X.env=(false,eval e X.env)::starEach es X.env:=by rfl)(hpl:(backTo pos (starEach es X.env)).any (·.1)=false:=by rfl):
  DE Z X EE (.Call (.Name x p) (e::es) [] pos) (dCallH F dA):=by
 refine PE.mono (y41 C hr ha hg hdb he hpl) ?_;rintro σ H Q ⟨G,e,rel,h⟩;simp only[dCallH,R.holds_bind]at h;refine⟨G,e,rel,h.imp (fun ws e1 h G1 vs H1 r1 s1 p1=>?_) fun _ _ h=>h⟩
 refine⟨G1,ws,r1.sub,by rw[w1n];exact p1,?_⟩;cases q:F ws with
 |ok s=>
  rw[q]at h;intro G' H' v g sl;cases s with
  |no=>exact h.elim
  |fr w=>
   obtain⟨G'',r2,s2,p2⟩:=q7o r1 g sl (.inl rfl);exact(show ∀G' v H',_->_->Rep X.K G' w v->Q v H' from h) G'' v H' r2 (s1.trans s2) p2
  |own b ws'=>
   cases b with
   |some _=>exact h.elim
   |none=>
    obtain⟨G'',r2,s2,p2⟩:=q7o r1 g sl (.inr ⟨ws',rfl,rfl⟩);exact(show ∀G' v H',_->_->Rep X.K G' (.lst ws') v->Q v H' from h) G'' v H' r2 (s1.trans s2) p2
  |dic kvs=>exact h.elim
  |thr _ _ _=>exact h.elim
  |nest _=>exact h.elim
  |x _=>exact h.elim
  |dw _ _ _=>exact h.elim
 |ex c=>rw[q]at h;exact h.elim
 |no=>rw[q]at h;exact h.elim
noncomputable def dRaise(C:Addr)(d:Den (List W)):List S->SR:=fun e=>(d e).stm fun ws e1=>if ws.length<=16777216 then .ex (.ref C) e1 else .no
theorem x3y{C Ac:Addr}{np cpos:Pos}(hx:RaisX X EE)(hC:excIn X.K C Ac=true)(hm:X.mg x=some (.ref C))(hc:X.calm=true)(ha:DA Z X EE (e::es) dA)(hg:Gl X x:=by rfl)
  (hdb:(x==("__debug__":Str))=false:=by decide)(he:starEach (e::es) X.env=(false,eval e X.env)::starEach es X.env:=by rfl)(hpl:(backTo cpos (starEach es X.env)).any (·.1)=false:=by rfl):
  DS Z X EE (.Raise (some (.Call (.Name x np) (e::es) [] cpos)) none pos) (dRaise C dA):=by
 refine PS.mono (y1q hx hc hg hm hC ha hdb he hpl) ?_;rintro D σ H ⟨G,e,rel,h⟩;refine⟨G,e,rel,(q1f h).imp (fun ws e1 h G1 vs H1 r1 s1 p1=>?_) fun _ _ h=>h⟩
 split at h
 ·rename_i hl;exact⟨by rw[p1.length,sizeLine_eq];exact hl,h G1 σ H1 r1 s1⟩
 ·exact h.elim
noncomputable def dTry(K:PySem.W.Frag)(c:Addr)(i n:Nat)(b h:List S->SR):List S->SR:=fun e=>match b e with
 |.ex cls e'=>if exmOne K cls (.ref c)=some true then(match h (e'.set i (.fr (.exc cls)))with
  |.nx _=>.nx (List.replicate n .no)
  |.bk _=>.bk (List.replicate n .no)
  |.ct _=>.ct (List.replicate n .no)
  |.rt s e''=>.rt s e''
  |_=>.no)else .no
 |r=>r
theorem Rel.blank{e:List S}(r:Rel K Z G σ H e)(n:Nat):Rel K Z G (List.replicate n none) H (List.replicate n .no):=by
 have hno:∀(i:Nat)(s:S),(List.replicate n S.no)[i]?=some s->s=.no:=fun i s h=>by
  rw[w2a]at h;split at h
  ·cases h;rfl
  ·cases h
 refine⟨r.sub,fun i s h=>?_,by simp,fun i j b b' w1 w2 a h1 h2 _ _=>?_,r.ent,r.ion,r.gen⟩
 ·rw[hno i s h];trivial
 ·cases hno _ _ h1
theorem y86{body suite:List Stmt}{b₀:Stmt}{c n:Str}{Cc:Addr}{np hpos:Pos}{dB dH:List S->SR}
  (hm:X.mg c=some (.ref Cc))(hN:X.N.Nodup)(hi:X.N[i]?=some n)(hx:X.env.scope.names.lookup n=some .local)
  (hb:∀(EE:L2.St->XK)(pn:List (Addr×Obj))(xe:Value->Shared->Prop),PassX (CX1 X.prog X.w) (X.tr pn xe) EE->DSs Z (X.tr pn xe) EE body dB)
  (hh:∀e:Addr,DSs Z (X.hn e) (fun _=>E0) (b₀::suite) dH)(hg:Gl X c:=by rfl)
  (hs:X.stack=X.env::X.outer:=by rfl)(hf:X.env.frame=some X.env.locals:=by rfl)(hdb:(c==("__debug__":Str))=false:=by decide):
  DS Z X EE (.Try body [.ExceptHandler (some (.Name c np)) (some n) (b₀::suite) hpos] [] [] pos) (dTry X.K Cc i X.N.length dB dH):=by
 refine PS.mono (y80 (tb:=fun EE=>liftS X.K Z EE dB) (th:=liftS X.K Z (fun _=>E0) dH) hg hm hN hi hx hb hh hs hf hdb) ?_
 rintro D σ H ⟨G,e,rel,h⟩;refine⟨G,e,rel,?_⟩;unfold dTry at h;cases q:dB e with
 |nx e'=>rw[q]at h;exact h
 |bk e'=>rw[q]at h;exact h
 |ct e'=>rw[q]at h;exact h
 |rt w e'=>rw[q]at h;exact h
 |no=>rw[q]at h;exact h
 |ex cls e'=>
  rw[q]at h;intro G1 σ1 H1 r1 s1;dsimp only at h;split at h
  ·rename_i hq;refine⟨hq,fun ex hex=>?_⟩
   have g:=Grow.laid r1.sub hex (excO ex cls);refine⟨_,e'.set i (.fr (.exc cls)),(r1.grow g).set (v:=.ref ex) ⟨ex,rfl,q0h⟩,?_⟩;have sg:=s1.trans g.gg;cases q2:dH (e'.set i (.fr (.exc cls)))with
   |nx e2=>rw[q2]at h;exact fun G2 σ2 H2 r2 s2=>h G2 _ H2 (r2.blank _) (sg.trans s2)
   |bk e2=>rw[q2]at h;exact fun G2 σ2 H2 r2 s2=>h G2 _ H2 (r2.blank _) (sg.trans s2)
   |ct e2=>rw[q2]at h;exact fun G2 σ2 H2 r2 s2=>h G2 _ H2 (r2.blank _) (sg.trans s2)
   |rt w e2=>rw[q2]at h;exact fun G2 σ2 v H2 r2 s2 p2=>h G2 σ2 v H2 r2 (sg.trans s2) p2
   |ex c2 e2=>rw[q2]at h;exact h.elim
   |no=>rw[q2]at h;exact h.elim
  ·exact h.elim
end
end D
namespace L2
open PySem PySem.Spec PyProof.Rows
section
variable{X:Cx}{elt target iter:Expr}{ifs:List Expr}{scope:Scope}{pos:Pos}{wi:TI}{g:TG}{tc:TT}{te:TE}
theorem y12{Nl Nf:List Str}{js:List Nat}{y:Str}{py spos:Pos}{gy:TG}(hc:X.calm=true)(hi:PI X target iter wi)
  (hk:scope.kind=.function)(hcell:∀y∈scope.names,y.2≠.cell)(hnames:∀x∈scope.names,x.2=.local->scope.names.lookup x.1=some .local)
  (hfree:∀x∈scope.names,x.2=.free->X.env.kindOf x.1=some .cell\/X.env.kindOf x.1=some .free)
  (hj:∀(i j:Nat) y,Nf[i]?=some y->js[i]?=some j->X.N[j]?=some y)(hlen:js.length=Nf.length)
  (hNf:∀y∈Nf,(y,NameKind.free)∈scope.names/\Vis X.env.scope y/\X.env.kindOf y≠some .local)
  (hvis:∀y∈Nf,(relabel scope X.env).names.lookup y=some .cell\/(relabel scope X.env).names.lookup y=some .free)
  (hg:∀cl C s₀ H₀ ex,PG (X.cp (Nl++Nf) scope cl C s₀ H₀ ex) target g)(ht:∀cl C s₀ H₀ ex,PTs (X.cp (Nl++Nf) scope cl C s₀ H₀ ex) ifs tc)(he:∀cl C s₀ H₀ ex,PE (X.cp (Nl++Nf) scope cl C s₀ H₀ ex) elt te)
  (hgy:PG X (.Name y py) gy)(hsw:swapsWith (.ListComp elt [⟨target,iter,ifs,0⟩] scope pos) (some (.Name y py)) spos.line X.env=pure true)
  (hs:∀x,foldedSetIterable iter X.env x=pure x:=by intro _;rfl):
  PS X (.Assign [.Name y py] (.ListComp elt [⟨target,iter,ifs,0⟩] scope pos) spos) (tAsg (tComp wi Nl.length js g tc te) gy):=by
 intro pins s σ H D I h;obtain⟨cl,hclos,hcl,hcf⟩:=q57 (scope:=scope) (env:=X.env) fun x hx hf=>I.ok.has x.1 (hfree x hx hf)
 rw[exec_Assign_Name_used _ _ _ _ hsw];refine wpAny_bind (wpAny_standAt (wpAny_bind ?_));show wpAny _ _ (do let _ <- comprehension _ _ _ _ _ _ _ _) _ _ _;refine wpAny_bind (wpAny_comprehension_free (Q:=fun _ s''=>wpAny (model X.prog X.w) X.A (pure ()) (fun _ s3=>wpAny (model X.prog X.w) X.A (pure Flow.next) (SP X pins D) X.xe s3) X.xe s'') (use:=some (assign (.Name y py) X.env)) rfl hs hclos hk hnames (thn (hi pins s σ H _ I h) fun v s1 h1=>thn h1 fun itv s2 h2=>?_))
 obtain⟨it,fp,tn,J,H2,e,I2,T,st2,f2,rd⟩:=h2;subst e;refine wpAny_newObj_type (wpAny_newFunctionEnv hcell (by intro y hy;simp at hy) (fun h₁ hns₁ hsb₁=>?_) hk)
 dsimp only at hns₁ hsb₁ |-
 have szp:(s2.heap.push {cls:=.type "list", dict:=none,data:=.seq ([]:List Value).toArray}).objs.size=s2.heap.objs.size+1:=Heap.size_push ..;rw[szp]at hns₁ hsb₁ |-
 have fD:H2 s2.heap.objs.size=none:=I2.hok.fresh (w0e _);obtain⟨W,⟨m0,w0⟩,turn⟩:=rd s2.heap.objs.size fD;have obj2:=T.obj 0 s2.heap st2;have IS:=x3t (Nl:=Nl) (Nf:=Nf) (js:=js) (cl:=cl) (tk:=s2.toks+([]:List (Str×Value)).length) I2 f2 obj2 hk hcell hcl hcf hj hlen hNf hvis hns₁ hsb₁
 have upS:∀b u,s2.heap.get? b=some u->h₁.get? b=some u:=fun b u q=>by
  have hlt:=Heap.lt_size q;exact(hsb₁.2 b (w0p (w2c hlt))).trans (Heap.get?_push_of_some _ (Heap.get?_push_of_some _ q))
 have stS:tn 0 h₁:=T.keep 0 s2.heap h₁ st2 fun b hb o q=>upS b o q
 have noD:∀b∈fp,upd H2 s2.heap.objs.size (.lst []) b=none:=fun b hb=>by
  obtain⟨o,q,_⟩:=obj2 b hb;rw[q0d (w0p (Heap.lt_size q))];exact(f2 b hb).1
 have stat:∀{H':Hp},(∀b∈fp,H' b=none)->∀b∈fp,FpOk (X.cp (Nl++Nf) scope cl (s2.heap.objs.size+1) {s2 with heap:=s2.heap.push {cls:=.type "list", dict:=none,data:=.seq ([]:List Value).toArray}} (upd H2 s2.heap.objs.size (.lst [])) fp) [] H' b:=fun hn b hb=>by
  refine⟨hn b hb,(IS.ok.exf b hb).1,IS.ok.exfs b hb,.inl hb,(IS.ok.exf b hb).2,fun p hp=>(by cases hp)⟩
 have loop:∀s4:Shared,s4={s2 with heap:=h₁,toks:=s2.toks+([]:List (Str×Value)).length} ->
   codeAny (model X.prog X.w) X.A (.compLoop (.ListComp elt [⟨target,iter,ifs,0⟩] scope pos) 0 (.ref it) (.ref s2.heap.objs.size) (compEnvC scope cl (s2.heap.objs.size+1) X.env))
    (compPost (model X.prog X.w) X.A X.xe (some (assign (.Name y py) X.env)) (fun _ s''=>wpAny (model X.prog X.w) X.A (pure ()) (fun _ s3=>wpAny (model X.prog X.w) X.A (pure Flow.next) (SP X pins D) X.xe s3) X.xe s'') (.ref s2.heap.objs.size) (s2.heap.objs.size+1)) s4:=by
  rintro s4 rfl;refine x2b (fun n s'=>∃i H',Inv (X.cp (Nl++Nf) scope cl (s2.heap.objs.size+1) {s2 with heap:=s2.heap.push {cls:=.type "list", dict:=none,data:=.seq ([]:List Value).toArray}} (upd H2 s2.heap.objs.size (.lst [])) fp) [] (List.replicate Nl.length none++pj js σ) H' s'/\tn i s'.heap/\(∀b∈fp,H' b=none)/\W i n H') ?_ m0 ⟨0,_,IS,stS,noD,w0⟩
  rintro n s3 ⟨i,H3,I3,st3,fr3,w3⟩;rcases turn i n H3 w3 with⟨stop,qn⟩|⟨go,step⟩
  ·refine thn (T.done (X.cp (Nl++Nf) scope cl (s2.heap.objs.size+1) {s2 with heap:=s2.heap.push {cls:=.type "list", dict:=none,data:=.seq ([]:List Value).toArray}} (upd H2 s2.heap.objs.size (.lst [])) fp) rfl rfl rfl hc i [] s3 _ H3 _ I3 (stat fr3) st3 stop) fun r s5 ⟨hr,I5⟩=>?_
   subst hr;obtain⟨m5,hn5,_⟩:=I5.loc;obtain⟨o5,es5,ep5,ho5,hd5,hk5,hf5⟩:=id hn5;have J5:Inv X pins σ H3 s5:=x8w I2 f2 I5 (h':=s5.heap) ⟨rfl,fun _ _=>rfl⟩
   have fC:FpOk X pins H3 (s2.heap.objs.size+1):=I2.fpOk (w4f _) I5.free;have f1:∀b∈[s2.heap.objs.size+1],FpOk X pins H3 b:=fun b hb=>by rw[w0n.mp hb];exact fC
   have J6:=J5.pinned f1 (fun b hb=>by rw[w0n.mp hb];exact⟨o5,ho5,fun v z=>by rw[hd5]at z;cases z⟩)
   refine thn (hgy _ s5 σ H3 (.ref s2.heap.objs.size) _ _ J6 rfl qn) fun _ s6 ⟨σ6,H6,I6,q6⟩=>?_
   have pC:=I6.pin (s2.heap.objs.size+1,o5) (w0k _ (w0k _ (q28 (w0n.mpr rfl) ho5)));refine⟨m5,⟨o5,es5,ep5,pC.1,hd5,hk5,hf5⟩,fun h' hs'=>wpAny_pure (wpAny_pure ⟨σ6,H6,?_,q6⟩)⟩
   obtain⟨g0,g1,g2,g3,g4,g5⟩:=fC;exact I6.unpinned.turned (t':=s6.toks) (fun b o hb e=>(hs'.2 b hb).trans e) pC.2.1 g1 g3 g4 g5
  ·refine thn (T.item (X.cp (Nl++Nf) scope cl (s2.heap.objs.size+1) {s2 with heap:=s2.heap.push {cls:=.type "list", dict:=none,data:=.seq ([]:List Value).toArray}} (upd H2 s2.heap.objs.size (.lst [])) fp) rfl rfl rfl hc i [] s3 _ H3 _ I3 (stat fr3) st3 go) fun r s5 ⟨u,hr,h5⟩=>?_
   subst hr;refine thn h5 fun _ s6 ⟨x,H6,I6,r6,y6,st6,fr6⟩=>?_
   have I6':=I6.pinned (stat fr6) (T.obj _ _ st6);refine thn (hg _ _ _ _ _ _ s6 _ H6 x u _ I6' r6 (step x H6 y6)) fun _ s7 ⟨σ7,H7,I7,kp,q7⟩=>?_
   refine thn (ht _ _ _ _ _ _ s7 σ7 H7 _ I7 q7) fun ok s8 ⟨H8,I8,q8⟩=>?_
   have again:∀{σ9:St}{H9:Hp}{s9:Shared},Inv (X.cp (Nl++Nf) scope cl (s2.heap.objs.size+1) {s2 with heap:=s2.heap.push {cls:=.type "list", dict:=none,data:=.seq ([]:List Value).toArray}} (upd H2 s2.heap.objs.size (.lst [])) fp) ([]++pinsAt fp s6.heap) σ9 H9 s9 ->
     Kp (List.replicate Nl.length none++pj js σ) σ9->(∃m',m'<n/\W (i+1) m' H9)->∃m,m<n/\∃i H',Inv (X.cp (Nl++Nf) scope cl (s2.heap.objs.size+1) {s2 with heap:=s2.heap.push {cls:=.type "list", dict:=none,data:=.seq ([]:List Value).toArray}} (upd H2 s2.heap.objs.size (.lst [])) fp) [] (List.replicate Nl.length none++pj js σ) H' s9/\tn i s9.heap/\(∀b∈fp,H' b=none)/\W i m H':=fun {σ9 H9 s9} I9 hw ⟨m',hm,w9⟩=>by
    refine⟨m',hm,i+1,H9,I9.unpinned.weak (by rw[I9.len,<- IS.len]) hw,T.keep _ _ _ st6 fun b hb o q=>(I9.pin (b,o) (w0k _ (w0k _ (q28 hb q)))).1,fun b hb=>?_,w9⟩
    obtain⟨o,q,d⟩:=T.obj _ _ st6 b hb;exact(I9.pin (b,o) (w0k _ (w0k _ (q28 hb q)))).2.1
   cases ok with
   |false=>exact again I8 kp (by simpa using q8)
   |true=>
    have q8':=by simpa only[if_true]using q8
    refine thn (he _ _ _ _ _ _ s8 σ7 H8 _ I8 q8') fun y s9 ⟨yv,H9,I9,r9,ys,hD,hz,q9⟩=>?_
    refine thn (q8e _ s9 σ7 H9 (.ref s2.heap.objs.size) [yv] (.ref s2.heap.objs.size) [y] (fun v H'=>v=.non/\H'=upd H9 s2.heap.objs.size (.lst (ys++[yv]))) I9 rfl (.cons r9 .nil) ⟨_,ys,yv,rfl,rfl,hD,hz,rfl,rfl⟩) fun _ s10 ⟨_,H10,I10,_,_,e10⟩=>?_
    subst e10;exact again I10 kp q9
 exact codeAny_compStart_list (loop _ rfl) (T.self X.A 0 _ _ _ stS (loop _ rfl))
end
variable{X:Cx}
theorem x2d{y:Str}{py spos:Pos}{gy:TG}{elt target iter:Expr}{ifs:List Expr}{scope sc:Scope}{pos:Pos}{wi:TI}{g:TG}{tc:TT}{te:TE}{Nl Nf N:List Str}{js:List Nat}(hc:X.calm=true)(hi:PI X target iter wi)
  (ok:compOk sc scope N Nf js=true)
  (hg:∀cl C s₀ H₀ ex,PG (X.cp (Nl++Nf) scope cl C s₀ H₀ ex) target g)(ht:∀cl C s₀ H₀ ex,PTs (X.cp (Nl++Nf) scope cl C s₀ H₀ ex) ifs tc)(he:∀cl C s₀ H₀ ex,PE (X.cp (Nl++Nf) scope cl C s₀ H₀ ex) elt te)
  (hgy:PG X (.Name y py) gy)(hsw:swapsWith (.ListComp elt [⟨target,iter,ifs,0⟩] scope pos) (some (.Name y py)) spos.line X.env=pure true)
  (hsc:X.env.scope=sc:=by rfl)(hN:X.N=N:=by rfl)(hs:∀x,foldedSetIterable iter X.env x=pure x:=by intro _;rfl):
  PS X (.Assign [.Name y py] (.ListComp elt [⟨target,iter,ifs,0⟩] scope pos) spos) (tAsg (tComp wi Nl.length js g tc te) gy):=by
 unfold compOk at ok;simp only[w0s,w1c,beq_iff_eq,bne_iff_ne,w3v,w1d]at ok;obtain⟨⟨⟨⟨⟨⟨k1,k2⟩,k3⟩,k4⟩,k5⟩,k6⟩,k7⟩:=ok;have kind:∀x,X.env.kindOf x=sc.names.lookup x:=fun x=>by rw[<- hsc];rfl
 refine y12 hc hi k1 k2 (fun x hx hl=>(k3 x hx).resolve_left fun z=>z hl) (fun x hx hf=>?_) (fun i j y e1 e2=>?_) k5 (fun y hy=>?_) (fun y hy=>?_) hg ht he hgy hsw hs
 ·rw[kind];rcases k4 x hx with(z|z)|z
  ·exact absurd hf z
  ·exact .inl z
  ·exact .inr z
 ·have hlt:i<js.length:=(w0b.mp e2).1;have z:=k6 i hlt;rw[e1,e2]at z;rw[hN]
  simpa using z
 ·obtain⟨z1,z2⟩:=k7 y hy;refine⟨PySem.mem_of_lookup z1,?_,?_⟩
  ·rw[hsc];rcases z2 with z|z
   ·exact .inr (.inl z)
   ·exact .inr (.inr z)
  ·rw[kind];rcases z2 with z|z<;>(rw[z];decide)
 ·exact q6i (k7 y hy).1
def rCatS(K:PySem.W.Frag):R2:=fun x y H Q=>∃l b xs zs,x=.ref l/\y=.ref b/\SqL K H l xs/\SqL K H b zs/\xs.length+zs.length<=sizeLine/\∀p,H p=none->Q (.ref p) (upd H p (.lst (xs++zs)))
theorem y49:OpR X (binaryOp .Add) (rCatS X.K):=by
 intro pins s σ H x y v u Q I rx ry h;obtain⟨l,b,xs,zs,rfl,rfl,h1,h2,hz,q⟩:=h;cases rx;cases ry;obtain⟨its,r1,p1,_⟩:=I.list h1;obtain⟨its2,r2,p2,_⟩:=I.list h2;obtain⟨⟨cls,dd,data,sl⟩,ho,hc,n,hd⟩:=id p1.isList;obtain⟨⟨cls2,dd2,data2,sl2⟩,ho2,hc2,n2,hd2⟩:=id p2.isList;simp only at hc hd hc2 hd2;subst hc hd hc2 hd2;have l1:=r1.length;have l2:=r2.length;refine concat_meets ⟨_,ho,rfl⟩ ⟨_,ho2,rfl⟩ noFill_list_add seq_list_add PySem.F.slot_list_add PySem.F.entry_list_add (PySem.F.args_list_add_2 _ _) (list_addW l b its.toArray its2.toArray n n2 dd dd2 sl sl2 (by simp only[w0d];omega)) ⟨ho,ho2,?_⟩;have ea:its.toArray++its2.toArray=(its++its2).toArray:=by simp
 rw[ea];exact⟨.ref _,_,I.lnew (t':=s.toks) (r1.append r2) (by rw[w0g];omega),rfl,q _ I.fresh⟩
end L2
namespace D
open PySem L2
variable{a:Addr}{A:Around}{X:Cx}{dA p:Den (List W)}{c cc:Den Bool}{d da db dk:Den W}{G G1 H:Hp}{lo:Int}{EE:L2.St->XK}{ps:List (W×W)}{es:List Expr}{js:List Nat}{e pe:List S}{h q:List S->SR}{xs:List V}{ws:List W}{F:List W->FR}{f:List W->Option W}{i j kt n:Nat}{b:Option Nat}{apos cpos p1 p2 pn pos:Pos}{K:PySem.W.Frag}{s:Shared}{σ:St}{x y:Str}{T:String}{α:Type}{v v':V}{cv u u':Value}{w w':W}{Z:Zt}
noncomputable def addW:W->W->Option W
 |.int i,.int j=>some (.int (i+j))
 |.str x,.str y=>if x.length+y.length<=16777216 then some (.str (x++y))else none
 |.tup xs,.tup ys=>if xs≠[]/\xs.length+ys.length<=16777216 then some (.tup (xs++ys))else none
 |.lst xs,.lst ys=>if xs.length+ys.length<=16777216 then some (.lst (xs++ys))else none
 |_,_=>none
noncomputable def subW:W->W->Option W
 |.int i,.int j=>some (.int (i-j))
 |_,_=>none
noncomputable def mulW:W->W->Option W
 |.int i,.int j=>if(-(2^64)<i/\i<2^64)\/(-(2^64)<j/\j<2^64)then some (.int (i*j))else none
 |_,_=>none
noncomputable def fdivW:W->W->Option W
 |.int i,.int j=>if 0<j/\j<1073741824 then some (.int (i / j))else none
 |_,_=>none
noncomputable def modW:W->W->Option W
 |.int i,.int j=>if 0<j then some (.int (i%j))else none
 |_,_=>none
noncomputable def ltW:W->W->Option W
 |.int i,.int j=>some (.bl (decide (i<j)))
 |_,_=>none
noncomputable def leW:W->W->Option W
 |.int i,.int j=>some (.bl (decide (i<=j)))
 |_,_=>none
noncomputable def gtW:W->W->Option W
 |.int i,.int j=>some (.bl (decide (j<i)))
 |_,_=>none
noncomputable def geW:W->W->Option W
 |.int i,.int j=>some (.bl (decide (j<=i)))
 |_,_=>none
theorem x85:Op2 K (fun x y H Q=>rI0 (fun i j=>.int (i+j)) x y H Q\/((∃i j,x=.str i/\y=.str j/\i.length+j.length<=sizeLine/\Q (.str (i++j)) H)\/(rCatT K x y H Q\/rCatS K x y H Q))) addW:=by
 intro G H x y wx wy w Q s px py hf h;unfold addW at hf;split at hf
 ·cases hf;cases px;cases py;exact .inl ⟨_,_,rfl,rfl,h G _ H (.refl s) rfl⟩
 ·split at hf
  ·rename_i hl;cases hf;cases px;cases py;exact .inr (.inl ⟨_,_,rfl,rfl,by rw[sizeLine_eq];exact hl,h G _ H (.refl s) rfl⟩)
  ·cases hf
 ·rename_i us ws;split at hf
  ·rename_i hl;cases hf;obtain⟨a,xs,rfl,ha,ra⟩:=px;obtain⟨b,ys,rfl,hb,rb⟩:=py;have l1:=ra.length;have l2:=rb.length;refine .inr (.inr (.inl ⟨a,b,xs,ys,rfl,rfl,s.tup ha,s.tup hb,fun z=>hl.1 ?_,by rw[l1,l2,sizeLine_eq];exact hl.2,fun z=>?_,fun z p hp=>?_⟩))
   ·subst z;cases us with
    |nil=>rfl
    |cons _ _=>simp at l1
   ·subst z
    have:ws=[]:=by cases ws with
     |nil=>rfl
     |cons _ _=>simp at l2
    subst this;exact h G _ H (.refl s) ⟨a,xs,rfl,ha,by simpa using ra⟩
   ·have g:=Grow.laid s hp (.tup (xs++ys));exact h _ _ _ g ⟨p,_,rfl,SqT.of q0h,Reps.append (Reps.mono g.gg _ ra) (Reps.mono g.gg _ rb)⟩
  ·cases hf
 ·split at hf
  ·rename_i hl;cases hf;obtain⟨a,xs,rfl,ha,ra⟩:=px;obtain⟨b,ys,rfl,hb,rb⟩:=py;have l1:=ra.length;have l2:=rb.length;refine .inr (.inr (.inr ⟨a,b,xs,ys,rfl,rfl,s.seq ha,s.seq hb,by rw[l1,l2,sizeLine_eq];exact hl,fun p hp=>?_⟩))
   have g:=Grow.laid s hp (.lst (xs++ys));exact h _ _ _ g ⟨p,_,rfl,SqL.of q0h,Reps.append (Reps.mono g.gg _ ra) (Reps.mono g.gg _ rb)⟩
  ·cases hf
 ·cases hf
theorem y87:Op2 K (rI0 fun i j=>.int (i-j)) subW:=by
 intro G H x y wx wy w Q s px py hf h;unfold subW at hf;split at hf
 ·cases hf;cases px;cases py;exact⟨_,_,rfl,rfl,h G _ H (.refl s) rfl⟩
 ·cases hf
theorem y88:Op2 K (rI CMul fun i j=>.int (i*j)) mulW:=by
 intro G H x y wx wy w Q s px py hf h;unfold mulW at hf;split at hf
 ·split at hf
  ·rename_i hc;cases hf;cases px;cases py;exact⟨_,_,rfl,rfl,hc,h G _ H (.refl s) rfl⟩
  ·cases hf
 ·cases hf
theorem y5a:Op2 K (rI CDiv fun i j=>.int (i / j)) fdivW:=by
 intro G H x y wx wy w Q s px py hf h;unfold fdivW at hf;split at hf
 ·split at hf
  ·rename_i hc;cases hf;cases px;cases py;exact⟨_,_,rfl,rfl,hc,h G _ H (.refl s) rfl⟩
  ·cases hf
 ·cases hf
theorem y89:Op2 K (rI (fun _ j=>0<j) fun i j=>.int (i%j)) modW:=by
 intro G H x y wx wy w Q s px py hf h;unfold modW at hf;split at hf
 ·split at hf
  ·rename_i hc;cases hf;cases px;cases py;exact⟨_,_,rfl,rfl,hc,h G _ H (.refl s) rfl⟩
  ·cases hf
 ·cases hf
theorem y37:Op2 K (rI0 fun i j=>.bl (decide (i<j))) ltW:=by
 intro G H x y wx wy w Q s px py hf h;unfold ltW at hf;split at hf
 ·cases hf;cases px;cases py;exact⟨_,_,rfl,rfl,h G _ H (.refl s) rfl⟩
 ·cases hf
theorem y38:Op2 K (rI0 fun i j=>.bl (decide (i<=j))) leW:=by
 intro G H x y wx wy w Q s px py hf h;unfold leW at hf;split at hf
 ·cases hf;cases px;cases py;exact⟨_,_,rfl,rfl,h G _ H (.refl s) rfl⟩
 ·cases hf
theorem z2e:Op2 K (rI0 fun i j=>.bl (decide (j<i))) gtW:=by
 intro G H x y wx wy w Q s px py hf h;unfold gtW at hf;split at hf
 ·cases hf;cases px;cases py;exact⟨_,_,rfl,rfl,h G _ H (.refl s) rfl⟩
 ·cases hf
theorem z2f:Op2 K (rI0 fun i j=>.bl (decide (j<=i))) geW:=by
 intro G H x y wx wy w Q s px py hf h;unfold geW at hf;split at hf
 ·cases hf;cases px;cases py;exact⟨_,_,rfl,rfl,h G _ H (.refl s) rfl⟩
 ·cases hf
mutual
noncomputable def eqW:W->W->Option Bool
 |.non,.non=>some true
 |.non,.bl _=>some false|.non,.int _=>some false|.non,.str _=>some false|.non,.tup _=>some false|.non,.lst _=>some false
 |.bl a,.bl b=>some (a==b)
 |.bl a,.int b=>some ((if a then 1 else 0)==b)
 |.bl _,.non=>some false|.bl _,.str _=>some false|.bl _,.tup _=>some false|.bl _,.lst _=>some false
 |.int a,.int b=>some (a==b)
 |.int a,.bl b=>some (a==(if b then 1 else 0))
 |.int _,.non=>some false|.int _,.str _=>some false|.int _,.tup _=>some false|.int _,.lst _=>some false
 |.str a,.str b=>some (a==b)
 |.str _,.non=>some false|.str _,.bl _=>some false|.str _,.int _=>some false|.str _,.tup _=>some false|.str _,.lst _=>some false
 |.tup _,.non=>some false|.tup _,.bl _=>some false|.tup _,.int _=>some false|.tup _,.str _=>some false|.tup _,.lst _=>some false
 |.lst _,.non=>some false|.lst _,.bl _=>some false|.lst _,.int _=>some false|.lst _,.str _=>some false|.lst _,.tup _=>some false
 |.tup xs,.tup ys=>eqWs xs ys
 |.lst xs,.lst ys=>eqWs xs ys
 |.exc _,_=>none
 |_,.exc _=>none
 |.dic _,_=>none
 |_,.dic _=>none
 |.dw _ _ _ _,_=>none
 |.fn _ _ _,_=>none
 |_,.dw _ _ _ _=>none
 |_,.fn _ _ _=>none
noncomputable def eqWs:List W->List W->Option Bool
 |[],[]=>some true
 |[],_::_=>some false
 |_::_,[]=>some false
 |x::xs,y::ys=>match eqW x y,eqWs xs ys with
  |some a,some b=>some (a&&b)
  |_,_=>none
end
noncomputable def ixW:W->W->Option W
 |.tup ws,.int i=>atI ws i
 |.lst ws,.int i=>atI ws i
 |.str z,.int i=>if z.length<=16777216 then(atI z.cps.toList i).map fun c=>.str ⟨#[c]⟩else none
 |_,_=>none
theorem Reps.atI{i:Int}(r:Reps K G ws xs)(h:L2.atI ws i=some w):∃x,L2.atI xs i=some x/\Rep K G w x:=by
 unfold L2.atI at h |-
 rw[r.length];cases q:ixN ws.length i with
 |none=>rw[q]at h;cases h
 |some j=>
  rw[q]at h;exact r.get h
theorem y39:Op2 K (rIx K) ixW:=by
 intro G H x y wx wy w Q s px py hf h;unfold ixW at hf;split at hf
 ·obtain⟨a,xs,rfl,ha,ra⟩:=px;cases py;obtain⟨v,hv,rv⟩:=ra.atI hf;exact .inr (.inl ⟨a,xs,_,v,rfl,rfl,s.tup ha,hv,h G v H (.refl s) rv⟩)
 ·obtain⟨a,xs,rfl,ha,ra⟩:=px;cases py;obtain⟨v,hv,rv⟩:=ra.atI hf;exact .inl ⟨a,xs,_,v,rfl,rfl,s.seq ha,hv,h G v H (.refl s) rv⟩
 ·cases px;cases py;split at hf
  ·rename_i hl;obtain⟨c,hc,rfl⟩:=w0f.mp hf;exact .inr (.inr ⟨_,_,c,rfl,rfl,by rw[sizeLine_eq];exact hl,hc,h G _ H (.refl s) rfl⟩)
  ·cases hf
 ·cases hf
noncomputable def S.look:S->Option W
 |.fr w=>some w
 |.own _ ws=>some (.lst ws)
 |.no=>none
 |.dic _=>none
 |.thr _ _ _=>none
 |.nest _=>none
 |.x k=>k.look
 |.dw _ _ _=>none
noncomputable def dIxV(i:Nat)(d:Den W):Den W:=fun e=>match e[i]?.bind S.look with
 |none=>.no
 |some _=>(d e).bind fun k e1=>match e1[i]?.bind S.look with
  |none=>.no
  |some w=>ofOpt (ixW w k) e1
noncomputable def lenW:W->Option W
 |.str z=>if z.length<=16777216 then some (.int z.length)else none
 |.tup ws=>some (.int ws.length)
 |.lst ws=>some (.int ws.length)
 |_=>none
noncomputable def len1:List W->Option W
 |[w]=>lenW w
 |_=>none
theorem x86:OpN K (fun xs H Q=>∃x n,xs=[x]/\LenV K x H n/\Q (.int n) H) len1:=by
 intro G H xs ws w Q s pr hf h;unfold len1 at hf;split at hf
 ·obtain⟨x,r,rfl,px,pr⟩:=pr;cases(show r=[]from pr);unfold lenW at hf;split at hf
  ·split at hf
   ·rename_i hl;cases hf;cases px;exact⟨_,_,rfl,⟨by rw[sizeLine_eq];exact hl,rfl⟩,h G _ H (.refl s) rfl⟩
   ·cases hf
  ·cases hf;obtain⟨a,xs,rfl,ha,ra⟩:=px;exact⟨_,_,rfl,.inr ⟨xs,s.tup ha,rfl⟩,h G _ H (.refl s) (by rw[ra.length];rfl)⟩
  ·cases hf;obtain⟨a,xs,rfl,ha,ra⟩:=px;exact⟨_,_,rfl,.inl ⟨xs,s.seq ha,rfl⟩,h G _ H (.refl s) (by rw[ra.length];rfl)⟩
  ·cases hf
 ·cases hf
noncomputable def scalW:W->Bool
 |.non=>true|.bl _=>true|.int _=>true|.str _=>true|_=>false
theorem y13{G':Hp}(h:scalW w=true)(p:Rep K G w v):Rep K G' w v:=by
 cases w with
 |non=>exact p
 |bl b=>exact p
 |int i=>exact p
 |str x=>exact p
 |_=>cases h
noncomputable def dFnV(i:Nat)(f:List W->Option W):Den W:=fun e=>match e[i]?.bind S.look with
 |none=>.no
 |some w=>match f [w]with
  |none=>.no
  |some v=>match e[i]? with
   |some (.fr _)=>.ok v e
   |_=>if scalW v=true then .ok v e else .no
section
variable{a b e:Expr}{p:Pos}
theorem q0k(ha:DE Z X EE a d)(hb:DE Z X EE b db)(hs:PlainIx b:=by intro _ _;rfl):DE Z X EE (.Subscript a b pos) (dOp ixW d db):=PE.mono (pe_ix x8r ha hb hs) (q8u y39)
theorem Rel.look{e:List S}(r:Rel K Z G σ H e)(h:e[i]?.bind S.look=some w):∃v,σ[i]?=some (some v) /\
  (Rep K G w v\/∃ws a xs u,(∀z,e[i]?≠some (.fr z))/\w=.lst ws/\v=.ref a/\H a=some u/\(u=.lst xs\/∃o,u=.frz o (.lst xs))/\G a=none/\Reps K G ws xs):=by
 obtain⟨s,h1,h2⟩:=w3p.mp h;cases s with
 |no=>cases h2
 |dic _=>cases h2
 |thr _ _ _=>cases h2
 |nest _=>cases h2
 |dw _ _ _=>cases h2
 |fr w'=>
  cases h2;obtain⟨v,h3,h4⟩:=r.fr h1;exact⟨v,h3,.inl h4⟩
 |x k=>
  have q:=r.slot i _ h1;cases k with
  |old w'=>cases h2;obtain⟨v,h1',h3⟩:=r.plain h1 rfl;exact⟨v,h1',.inl h3⟩
  |new w'=>cases h2;obtain⟨v,h1',h3⟩:=r.plain h1 rfl;exact⟨v,h1',.inl h3⟩
  |acc ws=>cases h2;obtain⟨a,o,xs,k1,⟨k2,k3,_⟩,k5⟩:=q;exact⟨.ref a,r.at h1 fun _=>k1,.inr ⟨ws,a,xs,_,(fun z y=>by rw[h1]at y;cases y),rfl,rfl,k2,.inr ⟨o,rfl⟩,k3,RepNs.reps _ k5⟩⟩
  |_=>cases h2
 |own b ws=>
  cases h2;obtain⟨a,xs,h3,h4,h5,h6,h7⟩:=r.own h1;exact⟨.ref a,h3,.inr ⟨ws,a,xs,_,(fun z y=>by rw[h1]at y;cases y),rfl,rfl,h4,.inl rfl,h5,h7⟩⟩
theorem x87{K:PySem.W.Frag}{a:Addr}{u:HO}(s:Same G H)(h:H a=some u)(hg:G a=none):Same G (upd G a u)/\Same (upd G a u) H:=
 ⟨q2o hg _,fun c o z=>by
  by_cases hc:c=a
  ·subst hc;rw[q0h]at z;cases z;exact h
  ·rw[q0d hc]at z;exact s c o z⟩
theorem q8l(i:Nat)(hb:DE Z X EE b d)(hN:X.N[i]?=some x:=by rfl)(hv:Vis X.env.scope x:=by walk_at "1")(hd:(x==("__debug__":Str))=false:=by decide)
  (hcd:(x==("__classdict__":Str))=false:=by decide)(hs:PlainIx b:=by intro _ _;rfl):DE Z X EE (.Subscript (.Name x p) b pos) (dIxV i d):=by
 refine PE.mono (pe_ix x8r (pv i hN hv hd hcd) hb hs) ?_;rintro σ H Q ⟨G,e,rel,h⟩;unfold dIxV at h;split at h
 ·exact h.elim
 ·rename_i w0 hw0;obtain⟨v,hv,_⟩:=rel.look hw0;refine⟨v,hv,G,e,rel,(R.holds_bind.mp h).imp (fun k e1 h G1 u H1 r1 s1 p1=>?_) fun _ _ h=>h⟩
  split at h
  ·exact h.elim
  ·rename_i w hw;obtain⟨w',hf,h2⟩:=ofOpt_holds.mp h;obtain⟨v',hv',q⟩:=r1.look hw;rw[hv]at hv';cases hv';rcases q with q|⟨ws,a,xs,u,he,rfl,rfl,q1,qu,q2,q3⟩
   ·exact y39 G1 H1 v u w k w' Q r1.sub q p1 hf fun G' v H' g p=>h2 G' v H' (r1.grow g) (s1.trans g.gg) p
   ·-- an item of one's own list
    unfold ixW at hf;split at hf
    ·rename_i heq;cases heq
    ·rename_i heq;cases heq;cases p1;obtain⟨y,hy,ry⟩:=q3.atI hf;refine .inl ⟨a,xs,_,y,rfl,rfl,?_,hy,h2 G1 y H1 r1 s1 ry⟩;rcases qu with rfl|⟨o,rfl⟩
     ·exact SqL.of q1
     ·exact .inl (.inr ⟨o,q1⟩)
    ·rename_i heq;cases heq
    ·cases hf
theorem y9a{r:List V->Hp->VK->Prop}(i:Nat){id:String}{fn:Str}(hc:CallR X (.builtin id) r)(hf:OpN X.K r f)(hv:bootBuiltins fn=some (.builtin id))(hm:X.mg fn=none)
  (hN:X.N[i]?=some x:=by rfl)(hvis:Vis X.env.scope x:=by walk_at "1")(hd:(x==("__debug__":Str))=false:=by decide)(hcd:(x==("__classdict__":Str))=false:=by decide)
  (hg:Gl X fn:=by rfl)(hn:fn≠"__name__":=by decide)(hdb:(fn==("__debug__":Str))=false:=by decide)(hs:starEach [.Name x p] X.env=(false,eval (.Name x p) X.env)::starEach [] X.env:=by rfl)(hpl:(backTo pos (starEach [] X.env)).any (·.1)=false:=by rfl):
  DE Z X EE (.Call (.Name fn pn) [.Name x p] [] pos) (dFnV i f):=by
 refine PE.mono (q7l hc hg hm hv (q0s (pv i hN hvis hd hcd) q1z hs) hn hdb hs hpl) ?_;rintro σ H Q ⟨G,e,rel,h⟩;unfold dFnV at h;split at h
 ·exact h.elim
 ·rename_i w hw;split at h
  ·exact h.elim
  ·rename_i y hy;obtain⟨v,hv,q⟩:=rel.look hw;refine⟨v,hv,?_⟩;rcases q with q|⟨ws,a,xs,u,he,rfl,rfl,q1,qu,q2,q3⟩
   ·refine hf G H [v] [w] y Q rel.sub (.one q) hy fun G' v H' g p=>?_
    split at h
    ·exact h G' v H' (rel.grow g) g.gg p
    ·split at h
     ·exact h G' v H' (rel.grow g) g.gg p
     ·exact h.elim
   ·split at h
    ·rename_i hz;exact absurd hz (he _)
    split at h
    ·rename_i hsc;obtain⟨s1,s2⟩:=x87 (K:=X.K) rel.sub q1 q2
     have hsq:SqL X.K (upd G a u) a xs:=by
      rcases qu with rfl|⟨o,rfl⟩
      ·exact SqL.of q0h
      ·exact .inl (.inr ⟨o,q0h⟩)
     refine hf (upd G a u) H [.ref a] [.lst ws] y Q s2 (.one ⟨a,xs,rfl,hsq,Reps.mono s1 ws q3⟩) hy fun G' v H' g p=>?_
     have g':Grow G H G H':=⟨g.hh,.refl _,rel.sub.trans g.hh,fun _ _=>rfl⟩
     exact(show ∀G' v H',_->_->Rep X.K G' y v->Q v H' from h) G v H' (rel.grow g') (.refl _) (y13 hsc p)
    ·exact h.elim
noncomputable def dApp(i:Nat)(d:Den (List W)):List S->SR:=fun e=>match e[i]? with
 |some (.own _ _)=>(d e).stm fun ws e1=>match ws,e1[i]? with
  |[w],some (.own b xs)=>if xs.length<16777216 then .nx (e1.set i (.own b (xs++[w])))else .no
  |_,_=>.no
 |_=>.no
theorem q1d(i:Nat)(ha:DA Z X EE (e::es) dA)(hN:X.N[i]?=some x:=by rfl)(hv:Vis X.env.scope x:=by walk_at "1")(hd:(x==("__debug__":Str))=false:=by decide)(hcd:(x==("__classdict__":Str))=false:=by decide)
  (hbase:attributeBase (.Name x p) "append" X.env (eval (.Name x p) X.env)=eval (.Name x p) X.env:=by rfl)
  (hfew:((backTo cpos (starEach (e::es) X.env)).all (fun x=>!x.1)&&(backToKw cpos (keywordEach [] X.env)).all (fun x=>x.1.isSome)&&decide ((e::es).length+([]:List Keyword).length+(if([]:List Keyword).isEmpty then 0 else 1)<30))=true:=by rfl)
  (hline:(apos.endLine==cpos.line)=true:=by rfl)(hs:starEach (e::es) X.env=(false,eval e X.env)::starEach es X.env:=by rfl)(hplain:(backTo cpos (starEach es X.env)).any (·.1)=false:=by rfl)
  (hsw:swapsWith (.Call (.Attribute (.Name x p) "append" apos) (e::es) [] cpos) none pos.line X.env=pure false:=by rfl):
  DS Z X EE (.Expr (.Call (.Attribute (.Name x p) "append" apos) (e::es) [] cpos) pos) (dApp i dA):=by
 refine PS.mono (x1b (x8z (pv i hN hv hd hcd) ha hbase hfew hline hs hplain) hsw) ?_;rintro D σ H ⟨G,e,rel,h⟩;unfold dApp at h;split at h
 ·rename_i b0 ws0 he0;obtain⟨a,xs,h1,h2,h3,h4,h5⟩:=rel.own he0;refine⟨.ref a,h1,.inl ⟨rfl,xs,SqL.of h2⟩,G,e,rel,(q1f h).imp (fun ws e1 h G1 vs H1 r1 s1 p1=>?_) fun _ _ h=>h⟩
  split at h
  ·rename_i w b ys he1;obtain⟨a',zs,g1,g2,g3,g4,g5⟩:=r1.own he1;rw[h1]at g1;cases g1;obtain⟨y,r,rfl,py,pr⟩:=p1;cases(show r=[]from pr);split at h
   ·rename_i hl;refine⟨a,zs,y,rfl,rfl,g2,by rw[g5.length,sizeLine_eq];exact hl,?_⟩;exact h G1 σ _ (r1.mut he1 h1 (g5.append (.one py))) s1
   ·exact h.elim
  ·exact h.elim
 ·exact h.elim
noncomputable def dPop(i:Nat):Den W:=fun e=>match e[i]? with
 |some (.own b ws)=>match ws[ws.length-1]? with
  |some w=>.ok w (e.set i (.own b ws.dropLast))
  |none=>.no
 |_=>.no
theorem y9b(i:Nat)(hN:X.N[i]?=some x:=by rfl)(hv:Vis X.env.scope x:=by walk_at "1")(hd:(x==("__debug__":Str))=false:=by decide)(hcd:(x==("__classdict__":Str))=false:=by decide)
  (hbase:attributeBase (.Name x p) "pop" X.env (eval (.Name x p) X.env)=eval (.Name x p) X.env:=by rfl)(hline:(apos.endLine==cpos.line)=true:=by rfl):DE Z X EE (.Call (.Attribute (.Name x p) "pop" apos) [] [] cpos) (dPop i):=by
 refine PE.mono (y8y PySem.F.plainAttrs_list PySem.F.slot_list_pop PySem.F.type_list_pop y8z (pv i hN hv hd hcd) hbase hline) ?_;rintro σ H Q ⟨G,e,rel,h⟩;unfold dPop at h;split at h
 ·rename_i b ws he;obtain⟨a,xs,h1,h2,h3,h4,h5⟩:=rel.own he;split at h
  ·rename_i w hw;obtain⟨y,hy,ry⟩:=h5.get hw;refine⟨.ref a,h1,.inl ⟨rfl,xs,SqL.of h2⟩,a,xs,y,rfl,rfl,h2,by rw[h5.length];exact hy,?_⟩;exact h G y _ (rel.mut he h1 h5.dropLast) (.refl _) ry
  ·exact h.elim
 ·exact h.elim
end
noncomputable def compD(c:Den Bool)(d:Den W)(pe:List S):List W->Option (List W)
 |[]=>some []
 |w::ws=>match c (.fr w::pe)with
  |.ok true e1=>match d e1 with
   |.ok y _=>(compD c d pe ws).map (y::·)
   |_=>none
  |.ok false _=>compD c d pe ws
  |_=>none
noncomputable def frz1(e:List S)(j:Nat):List S:=match e[j]? with
 |some (.own none ws)=>e.set j (.fr (.lst ws))
 |_=>e
noncomputable def frzs(js:List Nat)(e:List S):List S:=js.foldl frz1 e
noncomputable def pj1(e:List S)(j:Nat):S:=match e[j]? with
 |some (.fr w)=>.fr w
 |_=>.no
noncomputable def pjS(js:List Nat)(e:List S):List S:=js.map (pj1 e)
noncomputable def compK(js:List Nat)(c:Den Bool)(d:Den W)(ws:List W)(e1:List S):R (List W):=
 if ws.length<=16777216 then(match compD c d (pjS js (frzs js e1)) ws with
  |some out=>.ok out (frzs js e1)
  |none=>.no)else .no
noncomputable def dComp(js:List Nat)(di:Den W)(c:Den Bool)(d:Den W):Den (List W):=fun e=>(di e).bind fun w e1=>match seqW w with
 |some ws=>compK js c d ws e1
 |none=>.no
noncomputable def dCompR(g:List W->Option (List W))(js:List Nat)(di:Den (List W))(c:Den Bool)(d:Den W):Den (List W):=fun e=>(di e).bind fun w e1=>match g w with
 |some ws=>compK js c d ws e1
 |none=>.no
noncomputable def dYes:Den Bool:=fun e=>.ok true e
section
variable{H1:Hp}{e1:List S}
theorem Rel.frzs(r:Rel K Z G σ H e):∀(js:List Nat),∃G',Same G G'/\Rel K Z G' σ H (frzs js e):=by
 intro js
 induction js generalizing G e with
 |nil=>exact⟨G,.refl _,r⟩
 |cons j js ih=>
  have one:∃G',Same G G'/\Rel K Z G' σ H (frz1 e j):=by
   unfold frz1;split
   ·rename_i ws hw;obtain⟨v,G',_,s,_,r'⟩:=r.freeze hw;exact⟨G',s,r'⟩
   ·exact⟨G,.refl _,r⟩
  obtain⟨G1,s1,r1⟩:=one;obtain⟨G2,s2,r2⟩:=ih r1;exact⟨G2,s1.trans s2,r2⟩
theorem Rel.block(r:Rel K Z G σ H e)(js:List Nat){x:V}(p:Rep K G w x):Rel K ⟨H,G,[]⟩ G (some x::pj js σ) H (.fr w::pjS js e):=by
 have hfr:∀(i:Nat)(s:S),(S.fr w::pjS js e)[i]?=some s->s=.no\/∃u,s=.fr u/\((i=0/\u=w)\/∃k j,i=k+1/\js[k]?=some j/\e[j]?=some (.fr u)):=fun i s h=>by
  cases i with
  |zero=>cases h;exact .inr ⟨w,rfl,.inl ⟨rfl,rfl⟩⟩
  |succ k=>
   rw[w0o]at h;unfold pjS at h;rw[w0h]at h;obtain⟨j,h1,h2⟩:=w0f.mp h;unfold pj1 at h2;split at h2
   ·rename_i u hu;subst h2;exact .inr ⟨u,rfl,.inr ⟨k,j,rfl,h1,hu⟩⟩
   ·subst h2;exact .inl rfl
 refine⟨r.sub,fun i s h=>?_,?_,fun i j b b' w1 w2 a h1 h2 _ _=>?_,fun a o h _=>h,(fun a h=>nomatch h),fun a _=>rfl⟩
 ·rcases hfr i s h with rfl|⟨u,rfl,⟨rfl,rfl⟩|⟨k,j,rfl,h1,h2⟩⟩
  ·trivial
  ·exact⟨x,rfl,p⟩
  ·obtain⟨v,h3,h4⟩:=r.fr h2;refine⟨v,?_,h4⟩;rw[w0o];unfold pj;rw[w0h,h1];simp[h3]
 ·simp[pjS,pj]
 ·rcases hfr i _ h1 with z|⟨u,z,_⟩<;>cases z
theorem Rel.mutFree(r:Rel K Z G σ H e){o:HO}(hg:G a=none)(hz:Z.H a=none)(hi:a∉Z.io)(hf:Free σ e a){ls:List V}(hls:H a=some (.lst ls)):Rel K Z G σ (upd H a o) e:=by
 refine⟨fun c u z=>?_,fun j s z=>?_,r.len,r.dis,fun c u z n=>?_,fun c z=>?_,r.gen⟩
 ·rw[q0d (q0m z hg)];exact r.sub c u z
 ·have y:=r.slot j s z;cases s with
  |no=>trivial
  |fr w=>exact y
  |own b2 w2=>
   obtain⟨c,ys,y1,y2,y3,y4,y5⟩:=y;refine⟨c,ys,y1,?_,y3,y4,y5⟩;rw[q0d];exact y2;rintro rfl;obtain⟨c',_,z1,_⟩:=r.own z;rw[z1]at y1;cases y1;exact hf j b2 w2 z z1
  |dic kvs=>
   obtain⟨c,y1,y2,y3,y4⟩:=y;refine⟨c,y1,?_,y3,y4⟩;rw[q0d (q06 y2 hls (q5p rfl))];exact y2
  |thr us w2 vs=>
   obtain⟨t,l,o,xs2,ys,zs,y1,y2,y3,y4,y5,y6⟩:=y;refine⟨t,l,o,xs2,ys,zs,y1,y2,?_,y4,y5,y6⟩;rw[q0d (q06 y3 hls (fun z=>nomatch z))];exact y3
  |nest wss=>exact NestOk.move y (.refl _) fun l o ys k1 k2 k3=>⟨by rw[q0d (q06 k1 hls (fun z=>nomatch z))];exact k1,k2,k3⟩
  |x k=>exact XOk.move y (.refl _) fun l o ys k1 k2 k3=>⟨by rw[q0d (q06 k1 hls (fun z=>nomatch z))];exact k1,k2,k3⟩
  |dw sh ks ws=>exact DwOk.move y (.refl _) fun l o ys k1 k2 k3=>⟨by rw[q0d (q06 k1 hls (fun z=>nomatch z))];exact k1,k2,k3⟩
 ·rw[q0d (q0m z hz)];exact r.ent c u z n
 ·by_cases hc:c=a
  ·subst hc;exact absurd z hi
  ·rw[q0d hc];exact r.ion c z
structure Walk(J:It)(xs:List V)(SQ:Hp->Prop):Prop where
 go:∀i H,SQ H->i<xs.length->J.go i H
 yld:∀i H x H',SQ H->J.yld i H x H'->i<xs.length->H'=H/\xs[i]?=some x
 stop:∀i H,SQ H->xs.length<=i->J.stop i H
theorem x88:Walk (Itl K a) xs (fun H=>SqL K H a xs):=
 ⟨fun i H q h=>⟨xs,xs[i],q,by simp[h]⟩,fun i H x H' q ⟨e,y⟩ h=>⟨e,y xs q⟩,fun i H q h=>⟨xs,q,h⟩⟩
theorem x89:Walk (Itt K a) xs (fun H=>SqT K H a xs):=
 ⟨fun i H q h=>⟨xs,xs[i],q,by simp[h]⟩,fun i H x H' q ⟨e,y⟩ h=>⟨e,y xs q⟩,fun i H q h=>⟨xs,q,h⟩⟩
theorem y9c:Walk (Itr lo n) ((List.range n).map fun k=>V.int (lo+(k:Nat))) (fun _=>True):=
 ⟨fun i H q h=>show i<n by simpa using h,fun i H x H' q ⟨e,y⟩ h=>⟨e,by simp at h;simp[h,y]⟩,fun i H q h=>show n<=i by simpa using h⟩
theorem x1g{J:It}{SQ:Hp->Prop}{out:List W}{Q:VK}{G0:Hp}(W0:Walk J xs SQ)(r1:Rel K Z G1 σ H1 e1)(s1:Same G0 G1)(rp:Reps K G1 ws xs)(hSQ:∀G' H',Same G1 G'->Same G' H'->SQ H')(hl:ws.length<=16777216)
  (hz:∀p,H1 p=none->p∉Z.io)(hc:compD c d (pjS js e1) ws=some out)
  (h:∀G' a xs H',Rel K Z G' σ H' e1->Same G0 G'->H' a=some (.lst xs)->G' a=none->Z.H a=none->Free σ e1 a->Reps K G' out xs->Q (.ref a) H'):
  ∀D,H1 D=none->∃W:Nat->Nat->Hp->Prop,(∃m,W 0 m (upd H1 D (.lst [])))/\∀i m H2,W i m H2 ->
   (J.stop i H2/\Q (.ref D) H2)\/(J.go i H2/\∀x H3,J.yld i H2 x H3->gName 0 x (List.replicate 1 none++pj js σ) H3 fun σ4 H4=>Kp (List.replicate 1 none++pj js σ) σ4/\(fun σ H Q=>∃Z',liftT K Z' (fun _=>E0) c σ H Q) σ4 H4 fun b H5=>
    if b=true then(fun σ H Q=>∃Z',AtG K Z' σ H fun G e=>(d e).holds (fun w e'=>∀G' v H',Rel K Z' G' σ H' e'->Same G G'->Rep K G' w v->Q v H') (XH K Z' (fun _=>E0) σ G)) σ4 H5 fun y H6=>∃ys,H6 D=some (.lst ys)/\ys.length<sizeLine/\∃m',m'<m/\W (i+1) m' (upd H6 D (.lst (ys++[y])))else ∃m',m'<m/\W (i+1) m' H5):=by
 intro D hD;have hlen:=rp.length
 refine⟨fun i m H2=>m=ws.length-i/\i<=ws.length/\∃G2 ys done rest,Rel K Z G2 σ H2 e1/\Same G1 G2/\H2 D=some (.lst ys)/\G2 D=none/\Reps K G2 done ys/\done.length<=i/\compD c d (pjS js e1) (ws.drop i)=some rest/\done++rest=out,
  ⟨ws.length,by omega,w1i _,G1,[],[],out,r1.grow (Grow.hid r1.sub hD _),.refl _,q0h,r1.sub.free hD,rfl,w0e _,hc,rfl⟩,?_⟩
 rintro i m H2 ⟨rfl,hi,G2,ys,done,rest,r2,s2,hd2,hg2,rp2,hdl,hc2,ho⟩;have hfree:Free σ e1 D:=q7n r1 hD;have hzh:Z.H D=none:=q4c r1 hD
 by_cases hlt:i<ws.length
 ·refine .inr ⟨W0.go i H2 (hSQ G2 H2 s2 r2.sub) (by omega),fun x H3 hy=>?_⟩
  obtain⟨rfl,hx⟩:=W0.yld i H2 x H3 (hSQ G2 H2 s2 r2.sub) hy (by omega);obtain⟨w,hw,pw⟩:=rp.getV hx;rw[x2c hw]at hc2;refine⟨Kp.one,⟨H3,G2,[]⟩,G2,.fr w::pjS js e1,r2.block js (Rep.mono s2 w pw),?_⟩;unfold compD at hc2;cases qc:c (.fr w::pjS js e1)with
  |no=>rw[qc]at hc2;cases hc2
  |ex _ _=>rw[qc]at hc2;cases hc2
  |ok k e2=>
   rw[qc]at hc2;intro G3 H5 r3 s3;have g3:=r3.toGrow s3;cases k with
   |false=>
    exact⟨ws.length-(i+1),by omega,rfl,hlt,G3,ys,done,rest,r2.grow g3,s2.trans s3,g3.hh _ _ hd2,by rw[g3.new D (by rw[hd2];simp)];exact hg2,Reps.mono s3 _ rp2,by omega,hc2,ho⟩
   |true=>
    refine⟨⟨H3,G2,[]⟩,G3,e2,r3,?_⟩;dsimp only at hc2;cases qd:d e2 with
    |no=>rw[qd]at hc2;cases hc2
    |ex _ _=>rw[qd]at hc2;cases hc2
    |ok y e3=>
     rw[qd]at hc2;intro G4 v H6 r4 s4 p4;have g4:=r4.toGrow (s3.trans s4);obtain⟨rest',hr,rfl⟩:=w0f.mp hc2;have hd6:H6 D=some (.lst ys):=g4.hh _ _ hd2;have hg6:G4 D=none:=by rw[g4.new D (by rw[hd2];simp)];exact hg2
     refine⟨ys,hd6,?_,ws.length-(i+1),by omega,rfl,hlt,G4,ys++[v],done++[y],rest',(r2.grow g4).mutFree hg6 hzh (hz D hD) hfree hd6,s2.trans (s3.trans s4),q0h,hg6,(Reps.mono (s3.trans s4) _ rp2).append (.one p4),by simp;omega,hr,by rw[w1h];exact ho⟩;rw[rp2.length,sizeLine_eq];omega
 ·have:i=ws.length:=by omega
  subst this;rw[w3r]at hc2;cases hc2;rw[w1n]at ho;subst ho;exact .inl ⟨W0.stop _ H2 (hSQ G2 H2 s2 r2.sub) (by omega),h G2 D ys H2 r2 (s1.trans s2) hd2 hg2 hzh hfree rp2⟩
end
section
variable{elt iter a b:Expr}{ifs:List Expr}{scope sc:Scope}{pt:Pos}{Nf N:List Str}{di:Den W}
def DTs(Z:Zt)(X:Cx)(EE:L2.St->XK)(ifs:List Expr)(c:Den Bool):Prop:=PTs X ifs (liftT X.K Z EE c)
theorem q2x:DTs Z X EE [] dYes:=fun pins s σ H Q I ⟨G,e,r,h⟩=>y4x pins s σ H Q I (h G H r (.refl _))
theorem y5b(h:DT Z X EE a c):DTs Z X EE [a] c:=y4y h
def cT(K:PySem.W.Frag)(c:Den Bool):TT:=fun σ H Q=>∃Z',liftT K Z' (fun _=>E0) c σ H Q
def cE(K:PySem.W.Frag)(d:Den W):TE:=fun σ H Q=>∃Z',AtG K Z' σ H fun G e=>(d e).holds (fun w e'=>∀G' v H',Rel K Z' G' σ H' e'->Same G G'->Rep K G' w v->Q v H') (XH K Z' (fun _=>E0) σ G)
theorem x9a{D:Ends}{r:R (List W)}{k:W->List S->SR}(h:PostS K Z EE D G ((r.bind fun ws e'=>.ok (.lst ws) e').stm k)):r.holds (fun ws e'=>PostS K Z EE D G (k (.lst ws) e')) (XH K Z EE σ G):=by
 cases r with
 |ok a e=>exact h
 |ex c e=>exact fun G' H' r q=>h G' σ H' r q
 |no=>exact h
theorem x0k{Y:List Str}(ht:∀Z' cl C s₀ H₀ ex,DTs Z' (X.cp Y scope cl C s₀ H₀ ex) (fun _=>E0) ifs c):∀cl C s₀ H₀ ex,PTs (X.cp Y scope cl C s₀ H₀ ex) ifs (cT X.K c):=fun cl C s₀ H₀ ex pins s σ H Q I ⟨Z',h⟩=>ht Z' cl C s₀ H₀ ex pins s σ H Q I h
theorem x0l{Y:List Str}(he:∀Z' cl C s₀ H₀ ex,DE Z' (X.cp Y scope cl C s₀ H₀ ex) (fun _=>E0) elt d):∀cl C s₀ H₀ ex,PE (X.cp Y scope cl C s₀ H₀ ex) elt (cE X.K d):=fun cl C s₀ H₀ ex pins s σ H Q I ⟨Z',h⟩=>he Z' cl C s₀ H₀ ex pins s σ H Q I h
theorem ionone(r:Rel K Z G σ H e):∀p,H p=none->p∉Z.io:=fun p hp hi=>r.ion p hi hp
theorem x2e:∀σ H Q,liftF K Z EE (dComp js di c d) σ H Q->tComp (iSeq K (liftE K Z EE di)) 1 js (gName 0) (cT K c) (cE K d) σ H Q:=by
 rintro σ H Q ⟨G,e,rel,h⟩;simp only[dComp,R.holds_bind]at h;refine⟨G,e,rel,h.imp (fun w e1 h G1 v1 H1 r1 s1 p1=>?_) fun _ _ h=>h⟩
 split at h
 ·rename_i ws hw;unfold compK at h;split at h
  ·rename_i hl;split at h
   ·rename_i out ho;obtain⟨G2,s2,r2⟩:=r1.frzs js;have p2:=Rep.mono s2 w p1;have io:=ionone r2;cases w with
    |tup us=>
     cases hw;obtain⟨a,xs,rfl,hq,rp⟩:=p2;exact⟨a,rfl,.inr ⟨⟨xs,r2.sub.tup hq⟩,x1g x89 r2 (s1.trans s2) rp (fun G' H' s s'=>Same.tup s' (Same.tup s hq)) hl io ho h⟩⟩
    |lst us=>
     cases hw;obtain⟨a,xs,rfl,hq,rp⟩:=p2;exact⟨a,rfl,.inl ⟨⟨xs,r2.sub.seq hq⟩,x1g x88 r2 (s1.trans s2) rp (fun G' H' s s'=>Same.seq s' (Same.seq s hq)) hl io ho h⟩⟩
    |_=>cases hw
   ·exact h.elim
  ·exact h.elim
 ·exact h.elim
theorem q8x(hc:X.calm=true)(hi:DE Z X EE iter di)(ok:compOk sc scope N Nf js=true)
  (ht:∀Z' cl C s₀ H₀ ex,DTs Z' (X.cp ([x]++Nf) scope cl C s₀ H₀ ex) (fun _=>E0) ifs c)(he:∀Z' cl C s₀ H₀ ex,DE Z' (X.cp ([x]++Nf) scope cl C s₀ H₀ ex) (fun _=>E0) elt d)
  (hg:∀cl C s₀ H₀ ex,PG (X.cp ([x]++Nf) scope cl C s₀ H₀ ex) (.Name x pt) (gName 0))
  (hsc:X.env.scope=sc:=by rfl)(hN:X.N=N:=by rfl)(hs:∀x,foldedSetIterable iter X.env x=pure x:=by intro _;rfl):
  DF Z X EE (.ListComp elt [⟨.Name x pt,iter,ifs,0⟩] scope pos) (dComp js di c d):=by
 exact PE.mono (q9p (Nl:=[x]) (tc:=cT X.K c) (te:=cE X.K d) hc (x0i hi) ok hg (x0k ht) (x0l he) hsc hN hs) x2e
theorem x7k(i:Nat){py spos:Pos}(hNd:X.N.Nodup)(hc:X.calm=true)(hi:DE Z X EE iter di)(ok:compOk sc scope N Nf js=true)
  (ht:∀Z' cl C s₀ H₀ ex,DTs Z' (X.cp ([x]++Nf) scope cl C s₀ H₀ ex) (fun _=>E0) ifs c)(he:∀Z' cl C s₀ H₀ ex,DE Z' (X.cp ([x]++Nf) scope cl C s₀ H₀ ex) (fun _=>E0) elt d)
  (hg:∀cl C s₀ H₀ ex,PG (X.cp ([x]++Nf) scope cl C s₀ H₀ ex) (.Name x pt) (gName 0))
  (hsc:X.env.scope=sc:=by rfl)(hN:X.N=N:=by rfl)(hs:∀x,foldedSetIterable iter X.env x=pure x:=by intro _;rfl)(hiy:X.N[i]?=some y:=by rfl)(hxy:Loc X.env.scope y:=by walk_at "3")(hfy:X.fn y=true\/X.env.scope.names.lookup y=some .local:=by walk_at "2")(hsw:swapsWith (.ListComp elt [⟨.Name x pt,iter,ifs,0⟩] scope pos) (some (.Name y py)) spos.line X.env=pure true:=by rfl):
  DS Z X EE (.Assign [.Name y py] (.ListComp elt [⟨.Name x pt,iter,ifs,0⟩] scope pos) spos) (dSetO i (dComp js di c d)):=by
 refine PS.mono (x2d (Nl:=[x]) (tc:=cT X.K c) (te:=cE X.K d) hc (x0i hi) ok hg (x0k ht) (x0l he) (q29 i hNd hiy hxy hfy) hsw hsc hN hs) ?_;rintro D σ H ⟨G,e,rel,h⟩;refine x2e σ H _ ⟨G,e,rel,?_⟩;exact(q1f h).imp (fun w e1 h G1 a xs H1 r1 s1 q1 q2 q3 q4 p1=>h G1 _ H1 (r1.setOwn q1 q2 q3 q4 p1) s1) fun _ _ h=>h
theorem x0m:∀σ H Q,liftF K Z EE (dCompR rng1 js dA c d) σ H Q->tComp (iRng1 (liftA K Z EE dA)) 1 js (gName 0) (cT K c) (cE K d) σ H Q:=by
 rintro σ H Q ⟨G,e,rel,h⟩;simp only[dCompR,R.holds_bind]at h;refine⟨G,e,rel,h.imp (fun ws e1 h G1 vs H1 r1 s1 p1=>?_) fun _ _ h=>h⟩
 unfold rng1 at h;split at h
 ·rename_i us hh;split at hh
  ·rename_i j;split at hh
   ·rename_i hj;cases hh;obtain⟨y,r,rfl,e1,e2⟩:=p1;cases(show y=V.int j from e1);cases(show r=[]from e2);refine⟨j,rfl,(q69 hj).1,(q69 hj).2,?_⟩;unfold compK at h;split at h
    ·rename_i hl;split at h
     ·rename_i out ho;obtain⟨G2,s2,r2⟩:=r1.frzs js;have z:=x1g (J:=Itr 0 (j-0).toNat) y9c r2 (s1.trans s2) (x0j (lo:=0) (hi:=j)) (fun _ _ _ _=>trivial) hl (ionone r2) ho h
      rwa [Int.sub_zero]at z
     ·exact h.elim
    ·exact h.elim
   ·cases hh
  ·cases hh
 ·exact h.elim
theorem q9r(hc:X.calm=true)(hm:X.mg "range"=none)(ha:DA Z X EE [a] dA)(ok:compOk sc scope N Nf js=true)
  (ht:∀Z' cl C s₀ H₀ ex,DTs Z' (X.cp ([x]++Nf) scope cl C s₀ H₀ ex) (fun _=>E0) ifs c)(he:∀Z' cl C s₀ H₀ ex,DE Z' (X.cp ([x]++Nf) scope cl C s₀ H₀ ex) (fun _=>E0) elt d)
  (hg:∀cl C s₀ H₀ ex,PG (X.cp ([x]++Nf) scope cl C s₀ H₀ ex) (.Name x pt) (gName 0))
  (hgr:Gl X "range":=by rfl)(hs1:starEach [a] X.env=[(false,eval a X.env)]:=by rfl)(hsc:X.env.scope=sc:=by rfl)(hN:X.N=N:=by rfl)(hs:∀x,foldedSetIterable (.Call (.Name "range" p1) [a] [] p2) X.env x=pure x:=by intro _;rfl):
  DF Z X EE (.ListComp elt [⟨.Name x pt,.Call (.Name "range" p1) [a] [] p2,ifs,0⟩] scope pos) (dCompR rng1 js dA c d):=by
 exact PE.mono (q9p (Nl:=[x]) (tc:=cT X.K c) (te:=cE X.K d) hc (q8c hgr hm ha hs1) ok hg (x0k ht) (x0l he) hsc hN hs) x0m
theorem x5o(i:Nat){py spos:Pos}(hNd:X.N.Nodup)(hc:X.calm=true)(hm:X.mg "range"=none)(ha:DA Z X EE [a] dA)(ok:compOk sc scope N Nf js=true)
  (ht:∀Z' cl C s₀ H₀ ex,DTs Z' (X.cp ([x]++Nf) scope cl C s₀ H₀ ex) (fun _=>E0) ifs c)(he:∀Z' cl C s₀ H₀ ex,DE Z' (X.cp ([x]++Nf) scope cl C s₀ H₀ ex) (fun _=>E0) elt d)
  (hg:∀cl C s₀ H₀ ex,PG (X.cp ([x]++Nf) scope cl C s₀ H₀ ex) (.Name x pt) (gName 0))
  (hgr:Gl X "range":=by rfl)(hs1:starEach [a] X.env=[(false,eval a X.env)]:=by rfl)(hsc:X.env.scope=sc:=by rfl)(hN:X.N=N:=by rfl)(hs:∀x,foldedSetIterable (.Call (.Name "range" p1) [a] [] p2) X.env x=pure x:=by intro _;rfl)(hiy:X.N[i]?=some y:=by rfl)(hxy:Loc X.env.scope y:=by walk_at "3")(hfy:X.fn y=true\/X.env.scope.names.lookup y=some .local:=by walk_at "2")(hsw:swapsWith (.ListComp elt [⟨.Name x pt,.Call (.Name "range" p1) [a] [] p2,ifs,0⟩] scope pos) (some (.Name y py)) spos.line X.env=pure true:=by rfl):
  DS Z X EE (.Assign [.Name y py] (.ListComp elt [⟨.Name x pt,.Call (.Name "range" p1) [a] [] p2,ifs,0⟩] scope pos) spos) (dSet i (dFz (dCompR rng1 js dA c d))):=by
 refine PS.mono (x2d (Nl:=[x]) (tc:=cT X.K c) (te:=cE X.K d) hc (q8c hgr hm ha hs1) ok hg (x0k ht) (x0l he) (q29 i hNd hiy hxy hfy) hsw hsc hN hs) ?_;rintro D σ H ⟨G,e,rel,h⟩;refine x0m σ H _ ⟨G,e,rel,?_⟩;refine(x9a h).imp (fun w e1 h G1 a xs H1 r1 s1 q1 q2 q3 q4 p1=>?_) fun _ _ h=>h
 obtain⟨sg,rg⟩:=r1.seen q1 q2 q3 q4;exact h _ _ H1 (rg.set (v:=.ref a) ⟨a,xs,rfl,SqL.of q0h,Reps.mono sg w p1⟩) (s1.trans sg)
end
mutual
noncomputable def depW:W->Nat
 |.tup ws=>depWs ws+1
 |.lst ws=>depWs ws+1
 |_=>0
noncomputable def depWs:List W->Nat
 |[]=>0
 |w::ws=>max (depW w) (depWs ws)
end
section
variable{pins:List (Addr×Obj)}
mutual
theorem q8y(I:Inv X pins σ H s)(sg:Same G H):∀(w:W){w':W}{v:V}{k:Bool},Rep X.K G w v->Rep X.K G w' v->eqW w w'=some k->k=true
 |.non,w',v,k,h,h',e=>by
  cases(show v=.non from h);cases w'<;>first|(cases e;done)|(cases h';cases e;rfl)|(exfalso;obtain⟨_,_,z,_⟩:=h';first|done|cases z)|(exfalso;obtain⟨_,z,_⟩:=h';first|done|cases z)
 |.bl b,w',v,k,h,h',e=>by
  cases(show v=.bl b from h);cases w'<;>first|(cases e;done)|(cases h';cases e;exact beq_self_eq_true _)|(exfalso;obtain⟨_,_,z,_⟩:=h';first|done|cases z)|(exfalso;obtain⟨_,z,_⟩:=h';first|done|cases z)
 |.int b,w',v,k,h,h',e=>by
  cases(show v=.int b from h);cases w'<;>first|(cases e;done)|(cases h';cases e;exact beq_self_eq_true _)|(exfalso;obtain⟨_,_,z,_⟩:=h';first|done|cases z)|(exfalso;obtain⟨_,z,_⟩:=h';first|done|cases z)
 |.str b,w',v,k,h,h',e=>by
  cases(show v=.str b from h);cases w'<;>first|(cases e;done)|(cases h';cases e;exact beq_self_eq_true _)|(exfalso;obtain⟨_,_,z,_⟩:=h';first|done|cases z)|(exfalso;obtain⟨_,z,_⟩:=h';first|done|cases z)
 |.tup ws,w',v,k,h,h',e=>by
  obtain⟨a,xs,rfl,q,r⟩:=h;cases w' with
  |tup ws'=>
   obtain⟨a',xs',z,q',r'⟩:=h';cases z;have:=I.tuple_inj (sg.tup q) (sg.tup q');subst this;exact q9s I sg ws r r' (e)
  |lst ws'=>
   obtain⟨a',xs',z,q',r'⟩:=h';cases z;obtain⟨its,_,p1,_⟩:=I.tuple (sg.tup q);obtain⟨its2,_,p2,_⟩:=I.list (sg.seq q');exact absurd rfl (SeqAt.ne_of_list_tuple p2.isList (show s.heap.IsTuple a _ from p1))
  |non=>cases h'
  |bl _=>cases h'
  |int _=>cases h'
  |str _=>cases h'
  |exc _=>cases e
  |dic _=>cases e
  |dw _ _ _ _=>cases e
  |fn _ _ _=>cases e
 |.lst ws,w',v,k,h,h',e=>by
  obtain⟨a,xs,rfl,q,r⟩:=h;cases w' with
  |lst ws'=>
   obtain⟨a',xs',z,q',r'⟩:=h';cases z;have:=I.list_inj (sg.seq q) (sg.seq q');subst this;exact q9s I sg ws r r' (e)
  |tup ws'=>
   obtain⟨a',xs',z,q',r'⟩:=h';cases z;obtain⟨its,_,p1,_⟩:=I.tuple (sg.tup q');obtain⟨its2,_,p2,_⟩:=I.list (sg.seq q);exact absurd rfl (SeqAt.ne_of_list_tuple p2.isList (show s.heap.IsTuple a _ from p1))
  |non=>cases h'
  |bl _=>cases h'
  |int _=>cases h'
  |str _=>cases h'
  |exc _=>cases e
  |dic _=>cases e
  |dw _ _ _ _=>cases e
  |fn _ _ _=>cases e
 |.exc c,w',v,k,h,h',e=>by cases w'<;>cases e
 |.dic c,w',v,k,h,h',e=>by cases w'<;>cases e
 |.dw _ _ _ _,w',v,k,h,h',e=>by cases w'<;>cases e
 |.fn _ _ _,w',v,k,h,h',e=>by cases w'<;>cases e
theorem q9s(I:Inv X pins σ H s)(sg:Same G H):∀(ws:List W){ws':List W}{vs:List V}{k:Bool},Reps X.K G ws vs->Reps X.K G ws' vs->eqWs ws ws'=some k->k=true
 |[],ws',vs,k,h,h',e=>by
  cases h;cases ws' with
  |nil=>cases e;rfl
  |cons _ _=>obtain⟨_,_,z,_⟩:=h';cases z
 |w::ws,ws',vs,k,h,h',e=>by
  obtain⟨x,r,rfl,h1,h2⟩:=h;cases ws' with
  |nil=>cases h'
  |cons w' ws'=>
   obtain⟨x',r',z,h1',h2'⟩:=h';cases z;have e:(match eqW w w',eqWs ws ws' with|some a,some b=>some (a&&b)|_,_=>none)=some k:=e;cases q1:eqW w w' with
   |none=>rw[q1]at e;cases e
   |some b1=>
    cases q2:eqWs ws ws' with
    |none=>rw[q1,q2]at e;cases e
    |some b2=>
     rw[q1,q2]at e;rw[q8y I sg w h1 h1' q1,q9s I sg ws h2 h2' q2]at e;cases e;rfl
end
theorem q5d:∀{xs ys:List W}{b:Bool},eqWs xs ys=some b->(∀(j:Nat) x y,xs[j]?=some x->ys[j]?=some y->∃k,eqW x y=some k)/\b=((List.range (min xs.length ys.length)).all (fun j=>((eqW (xs.getD j .non) (ys.getD j .non)).getD false))&&xs.length==ys.length):=by
 intro xs
 induction xs with
 |nil=>
  intro ys b h;refine⟨fun j x y hx=>by simp at hx,?_⟩
  cases ys<;>(cases h;simp)
 |cons x xs ih=>
  intro ys b h;cases ys with
  |nil=>refine⟨fun j x y hx hy=>by simp at hy,?_⟩;cases h;simp
  |cons y ys=>
   have h:(match eqW x y,eqWs xs ys with|some a,some b=>some (a&&b)|_,_=>none)=some b:=h;cases q1:eqW x y with
   |none=>rw[q1]at h;cases h
   |some b1=>
    cases q2:eqWs xs ys with
    |none=>rw[q1,q2]at h;cases h
    |some b2=>
     rw[q1,q2]at h;cases h;obtain⟨h1,h2⟩:=ih q2;refine⟨fun j x' y' hx hy=>?_,?_⟩
     ·cases j with
      |zero=>simp at hx hy;subst hx hy;exact⟨_,q1⟩
      |succ j=>exact h1 j x' y' (by simpa using hx) (by simpa using hy)
     ·rw[h2];simp only[w0v,Nat.succ_min_succ,w2u,w2p,w4r]
      have e0:(eqW ((x::xs).getD 0 .non) ((y::ys).getD 0 .non)).getD false=b1:=by
       show(eqW x y).getD false=b1;rw[q1];rfl
      rw[e0,Bool.and_assoc];congr 1;congr 1;simp
theorem q6x:∀{xs:List W}{j:Nat}{x:W},xs[j]?=some x->depW x<=depWs xs
 |[],_,_,h=>by simp at h
 |y::ys,0,x,h=>by simp at h;subst h;simp only[depWs];omega
 |y::ys,j+1,x,h=>by
  have:=q6x (xs:=ys) (j:=j) (by simpa using h);simp only[depWs];omega
theorem q8z{xs:List α}{x d:α}(h:xs[j]?=some x):xs.getD j d=x:=by
 simp[List.getD,h]
theorem x3z(I:Inv X pins σ H s)(sg:Same G H){b:Bool}(hu:A.units<cLine)(n1:∀ws,w=.tup ws->∀ws',w'≠.tup ws')(n2:∀ws,w=.lst ws->∀ws',w'≠.lst ws')(h:Rep X.K G w v)(h':Rep X.K G w' v')(r:RelV v u)(r':RelV v' u')(e:eqW w w'=some b):SeqAt.RcAt A s u u' b:=by
 have tl:∀{ws:List W}{v:V}{u:Value},Rep X.K G (.lst ws) v->RelV v u->∃l items,u=.ref l/\s.heap.IsList l items:=fun h r=>by
  obtain⟨a,xs,rfl,q,_⟩:=h;cases r;obtain⟨its,_,p,_⟩:=I.list (sg.seq q);exact⟨a,_,rfl,p.isList⟩
 have tt:∀{ws:List W}{v:V}{u:Value},Rep X.K G (.tup ws) v->RelV v u->∃l items,u=.ref l/\s.heap.IsTuple l items:=fun h r=>by
  obtain⟨a,xs,rfl,q,_⟩:=h;cases r;obtain⟨its,_,p,_⟩:=I.tuple (sg.tup q);exact⟨a,_,rfl,p⟩
 have tn:∀{v:V}{u:Value},Rep X.K G .non v->RelV v u->u=.none:=fun h r=>by cases h;exact r
 have tb:∀{k:Bool}{v:V}{u:Value},Rep X.K G (.bl k) v->RelV v u->u=.bool k:=fun h r=>by cases h;exact r
 have ti:∀{k:Int}{v:V}{u:Value},Rep X.K G (.int k) v->RelV v u->∃t,u=.int k t:=fun h r=>by cases h;exact r
 have ts:∀{k:Str}{v:V}{u:Value},Rep X.K G (.str k) v->RelV v u->∃t,u=.str k t:=fun h r=>by cases h;exact r
 cases w with
 |non=>
  obtain rfl:=tn h r;cases w' with
  |non=>obtain rfl:=tn h' r';cases e;exact .none_none
  |bl k=>obtain rfl:=tb h' r';cases e;exact .none_bool k
  |int k=>obtain⟨t,rfl⟩:=ti h' r';cases e;exact .none_int k t
  |str k=>obtain⟨t,rfl⟩:=ts h' r';cases e;exact .none_str k t
  |tup k=>obtain⟨l,it,rfl,p⟩:=tt h' r';cases e;exact .none_tuple p hu
  |lst k=>obtain⟨l,it,rfl,p⟩:=tl h' r';cases e;exact .none_list p hu
  |exc k=>cases e
  |dic k=>cases e
  |dw _ _ _ _=>cases e
  |fn _ _ _=>cases e
 |bl j=>
  obtain rfl:=tb h r;cases w' with
  |non=>obtain rfl:=tn h' r';cases e;exact .bool_none j
  |bl k=>obtain rfl:=tb h' r';cases e;exact .bool_bool j k
  |int k=>obtain⟨t,rfl⟩:=ti h' r';cases e;exact .bool_int j k t
  |str k=>obtain⟨t,rfl⟩:=ts h' r';cases e;exact .bool_str j k t
  |tup k=>obtain⟨l,it,rfl,p⟩:=tt h' r';cases e;exact .bool_tuple j p hu
  |lst k=>obtain⟨l,it,rfl,p⟩:=tl h' r';cases e;exact .bool_list j p hu
  |exc k=>cases e
  |dic k=>cases e
  |dw _ _ _ _=>cases e
  |fn _ _ _=>cases e
 |int j=>
  obtain⟨t1,rfl⟩:=ti h r;cases w' with
  |non=>obtain rfl:=tn h' r';cases e;exact .int_none j t1
  |bl k=>obtain rfl:=tb h' r';cases e;exact .int_bool j t1 k
  |int k=>obtain⟨t,rfl⟩:=ti h' r';cases e;exact .int_int j t1 k t
  |str k=>obtain⟨t,rfl⟩:=ts h' r';cases e;exact .int_str j t1 k t
  |tup k=>obtain⟨l,it,rfl,p⟩:=tt h' r';cases e;exact .int_tuple j t1 p hu
  |lst k=>obtain⟨l,it,rfl,p⟩:=tl h' r';cases e;exact .int_list j t1 p hu
  |exc k=>cases e
  |dic k=>cases e
  |dw _ _ _ _=>cases e
  |fn _ _ _=>cases e
 |str j=>
  obtain⟨t1,rfl⟩:=ts h r;cases w' with
  |non=>obtain rfl:=tn h' r';cases e;exact .str_none j t1
  |bl k=>obtain rfl:=tb h' r';cases e;exact .str_bool j t1 k
  |int k=>obtain⟨t,rfl⟩:=ti h' r';cases e;exact .str_int j t1 k t
  |str k=>obtain⟨t,rfl⟩:=ts h' r';cases e;exact .str_str j t1 k t
  |tup k=>obtain⟨l,it,rfl,p⟩:=tt h' r';cases e;exact .str_tuple j t1 p hu
  |lst k=>obtain⟨l,it,rfl,p⟩:=tl h' r';cases e;exact .str_list j t1 p hu
  |exc k=>cases e
  |dic k=>cases e
  |dw _ _ _ _=>cases e
  |fn _ _ _=>cases e
 |tup j=>
  obtain⟨l1,it1,rfl,p1⟩:=tt h r;cases w' with
  |non=>obtain rfl:=tn h' r';cases e;exact .tuple_none p1 hu
  |bl k=>obtain rfl:=tb h' r';cases e;exact .tuple_bool k p1 hu
  |int k=>obtain⟨t,rfl⟩:=ti h' r';cases e;exact .tuple_int k t p1 hu
  |str k=>obtain⟨t,rfl⟩:=ts h' r';cases e;exact .tuple_str k t p1 hu
  |tup k=>exact absurd rfl (n1 j rfl k)
  |lst k=>obtain⟨l,it,rfl,p⟩:=tl h' r';cases e;exact .tuple_list p1 p hu
  |exc k=>cases e
  |dic k=>cases e
  |dw _ _ _ _=>cases e
  |fn _ _ _=>cases e
 |lst j=>
  obtain⟨l1,it1,rfl,p1⟩:=tl h r;cases w' with
  |non=>obtain rfl:=tn h' r';cases e;exact .list_none p1 hu
  |bl k=>obtain rfl:=tb h' r';cases e;exact .list_bool k p1 hu
  |int k=>obtain⟨t,rfl⟩:=ti h' r';cases e;exact .list_int k t p1 hu
  |str k=>obtain⟨t,rfl⟩:=ts h' r';cases e;exact .list_str k t p1 hu
  |lst k=>exact absurd rfl (n2 j rfl k)
  |tup k=>obtain⟨l,it,rfl,p⟩:=tt h' r';cases e;exact .list_tuple p1 p hu
  |exc k=>cases e
  |dic k=>cases e
  |dw _ _ _ _=>cases e
  |fn _ _ _=>cases e
 |exc j=>cases w'<;>cases e
 |dic j=>cases w'<;>cases e
 |dw _ _ _ _=>cases w'<;>cases e
 |fn _ _ _=>cases w'<;>cases e
theorem x56(I:Inv X pins σ H s)(sg:Same G H){b:Bool}(hd:depW w<=0)(hu:A.units<cLine)(h:Rep X.K G w v)(h':Rep X.K G w' v')(r:RelV v u)(r':RelV v' u')(e:eqW w w'=some b):SeqAt.RcAt A s u u' b:=
 x3z I sg hu (fun ws z=>by subst z;simp[depW]at hd) (fun ws z=>by subst z;simp[depW]at hd) h h' r r' e
theorem q9t(h:Rep K G w v):∀x,v≠.flt x:=fun x z=>by
 subst z;cases w with
 |tup ws=>obtain⟨_,_,z,_⟩:=h;cases z
 |lst ws=>obtain⟨_,_,z,_⟩:=h;cases z
 |exc c=>obtain⟨_,z,_⟩:=h;cases z
 |dic c=>obtain⟨_,z,_⟩:=h;cases z
 |dw _ _ _ _=>obtain⟨_,_,_,z,_⟩:=h;cases z
 |fn _ _ _=>obtain⟨_,_,_,_,z,_⟩:=h;cases z
 |_=>cases h
theorem q9u{b:Bool}(rv:RelV v u)(hf:∀x,v≠.flt x)(h:SeqAt.RcAt A s u u' b)(hs:u=u'->b=true):SeqAt.EqAt A s u u' b:=fun prog w E Q hq=>by
 unfold eqBool;refine wpAny_holding ?_;refine wpAny_ite_split (fun hab=>?_) (fun _=>?_)
 ·have hb:=hs (eq_of_beq hab);subst hb;exact wpAny_bind (wpAny_rule (wpAny_pure hq))
 ·have z:=wpAny_bind (h prog w E (fun a s'=>wpAny (model prog w) A (truthOfDropped a) Q E s') (wpAny_truthy_bool hq))
  cases v with
  |flt x=>exact absurd rfl (hf x)
  |non=>cases rv;exact z
  |bl _=>cases rv;exact z
  |int _=>obtain⟨t,rfl⟩:=rv;exact z
  |str _=>obtain⟨t,rfl⟩:=rv;exact z
  |byt _=>obtain⟨t,rfl⟩:=rv;exact z
  |ref _=>cases rv;exact z
  |ty _=>cases rv;exact z
theorem x7l(I:Inv X pins σ H s)(sg:Same G H):∀(n:Nat){w w':W}{v v':V}{u u':Value}{b:Bool}{A:Around},depW w<=n->A.units+n<cLine->Rep X.K G w v->Rep X.K G w' v'->RelV v u->RelV v' u'->eqW w w'=some b->SeqAt.RcAt A s u u' b:=by
 intro n
 induction n with
 |zero=>
  intro w w' v v' u u' b A hd hu h h' r r' e;exact x56 I sg hd (by omega) h h' r r' e
 |succ n ih=>
  intro w w' v v' u u' b A hd hu h h' r r' e
  have items:∀{ws ws':List W}{xs xs':List V}{its its':List Value}{k:Bool},depWs ws<=n->Reps X.K G ws xs->Reps X.K G ws' xs'->Vals xs its->Vals xs' its'->eqWs ws ws'=some k ->
    ∀j (h1:j<its.toArray.size) (h2:j<its'.toArray.size),SeqAt.EqAt A.in1 s its.toArray[j] its'.toArray[j] ((eqW (ws.getD j .non) (ws'.getD j .non)).getD false):=by
   intro ws ws' xs xs' its its' k hd r1 r2 v1 v2 he j h1 h2;have l1:=r1.length;have l2:=r2.length;have m1:=v1.length;have m2:=v2.length;have i1:j<xs.length:=by rw[m1];simpa using h1
   have i2:j<xs'.length:=by rw[m2];simpa using h2
   obtain⟨u1,e1,ru1⟩:=v1.get (w0a i1);obtain⟨u2,e2,ru2⟩:=v2.get (w0a i2);obtain⟨w1,f1,p1⟩:=r1.getV (w0a i1);obtain⟨w2,f2,p2⟩:=r2.getV (w0a i2);obtain⟨b',hb'⟩:=(q5d he).1 j w1 w2 f1 f2;rw[q8z f1,q8z f2,hb']
   have g1:its.toArray[j]=u1:=by
    obtain⟨_,z⟩:=w0b.mp e1
    simpa using z
   have g2:its'.toArray[j]=u2:=by
    obtain⟨_,z⟩:=w0b.mp e2
    simpa using z
   rw[g1,g2];have hdw:depW w1<=n:=w1e (q6x f1) hd
   have hun:A.in1.units+n<cLine:=by
    have:A.in1.units=A.units+1:=rfl;omega
   refine q9u ru1 (q9t p1) (ih hdw hun p1 p2 ru1 ru2 hb') fun z=>?_
   subst z;have:=ru1.inj ru2;rw[this]at p1;exact q8y I sg w1 p1 p2 hb'
  cases w with
  |tup ws=>
   cases w' with
   |tup ws'=>
    obtain⟨a,xs,rfl,q1,r1⟩:=h;obtain⟨a',xs',rfl,q2,r2⟩:=h';cases r;cases r';obtain⟨its,v1,p1,_⟩:=I.tuple (sg.tup q1);obtain⟨its',v2,p2,_⟩:=I.tuple (sg.tup q2);have e:eqWs ws ws'=some b:=e;have z:=SeqAt.RcAt.tuples (show s.heap.IsTuple a _ from p1) (show s.heap.IsTuple a' _ from p2) (show A.units<cLine by omega) (items (by simp only[depW]at hd;omega) r1 r2 v1 v2 e);have l1:=r1.length;have l2:=r2.length;have m1:=v1.length;have m2:=v2.length;have eb:=(q5d e).2;have n1:its.length=ws.length:=by omega
    have n2:its'.length=ws'.length:=by omega
    rw[eb];simp only[w0d,n1,n2]at z;exact z
   |_=>exact x3z I sg (by omega) (by intro ws';simp) (by intro ws';simp) h h' r r' e
  |lst ws=>
   cases w' with
   |lst ws'=>
    obtain⟨a,xs,rfl,q1,r1⟩:=h;obtain⟨a',xs',rfl,q2,r2⟩:=h';cases r;cases r';obtain⟨its,v1,p1,_⟩:=I.list (sg.seq q1);obtain⟨its',v2,p2,_⟩:=I.list (sg.seq q2);have e:eqWs ws ws'=some b:=e;have l1:=r1.length;have l2:=r2.length;have m1:=v1.length;have m2:=v2.length;have eb:=(q5d e).2;have n1:its.length=ws.length:=by omega
    have n2:its'.length=ws'.length:=by omega
    by_cases hl:ws.length=ws'.length
    ·have z:=SeqAt.RcAt.lists p1.isList p2.isList (by simp only[w0d];omega) (show A.units<cLine by omega) (items (by simp only[depW]at hd;omega) r1 r2 v1 v2 e);rw[eb,hl];simp only[w0d,n1,hl,Nat.min_self,beq_self_eq_true,Bool.and_true]at z |-
     exact z
    ·have z:=SeqAt.RcAt.lists_lengths (A:=A) p1.isList p2.isList (by simp only[w0d,bne_iff_ne];omega) (show A.units<cLine by omega)
     have:b=false:=by
      rw[eb];have:(ws.length==ws'.length)=false:=by simp[hl]
      rw[this,Bool.and_false]
     rw[this];exact z
   |_=>exact x3z I sg (by omega) (by intro ws';simp) (by intro ws';simp) h h' r r' e
  |_=>exact x56 I sg (by simp[depW]) (by omega) h h' r r' e
theorem q9v(I:Inv X pins σ H s)(sg:Same G H){b:Bool}(hu:A.units<cLine)(n1:∀ws,w=.tup ws->∀ws',w'≠.tup ws')(n2:∀ws,w=.lst ws->∀ws',w'≠.lst ws')(h:Rep X.K G w v)(h':Rep X.K G w' v')(r:RelV v u)(r':RelV v' u')(e:eqW w w'=some b):SeqAt.RcNeAt A s u u' (!b):=by
 have tl:∀{ws:List W}{v:V}{u:Value},Rep X.K G (.lst ws) v->RelV v u->∃l items,u=.ref l/\s.heap.IsList l items:=fun h r=>by
  obtain⟨a,xs,rfl,q,_⟩:=h;cases r;obtain⟨its,_,p,_⟩:=I.list (sg.seq q);exact⟨a,_,rfl,p.isList⟩
 have tt:∀{ws:List W}{v:V}{u:Value},Rep X.K G (.tup ws) v->RelV v u->∃l items,u=.ref l/\s.heap.IsTuple l items:=fun h r=>by
  obtain⟨a,xs,rfl,q,_⟩:=h;cases r;obtain⟨its,_,p,_⟩:=I.tuple (sg.tup q);exact⟨a,_,rfl,p⟩
 have tn:∀{v:V}{u:Value},Rep X.K G .non v->RelV v u->u=.none:=fun h r=>by cases h;exact r
 have tb:∀{k:Bool}{v:V}{u:Value},Rep X.K G (.bl k) v->RelV v u->u=.bool k:=fun h r=>by cases h;exact r
 have ti:∀{k:Int}{v:V}{u:Value},Rep X.K G (.int k) v->RelV v u->∃t,u=.int k t:=fun h r=>by cases h;exact r
 have ts:∀{k:Str}{v:V}{u:Value},Rep X.K G (.str k) v->RelV v u->∃t,u=.str k t:=fun h r=>by cases h;exact r
 cases w with
 |non=>
  obtain rfl:=tn h r;cases w' with
  |non=>obtain rfl:=tn h' r';cases e;exact .none_none
  |bl k=>obtain rfl:=tb h' r';cases e;exact .none_bool k
  |int k=>obtain⟨t,rfl⟩:=ti h' r';cases e;exact .none_int k t
  |str k=>obtain⟨t,rfl⟩:=ts h' r';cases e;exact .none_str k t
  |tup k=>obtain⟨l,it,rfl,p⟩:=tt h' r';cases e;exact .none_tuple p hu
  |lst k=>obtain⟨l,it,rfl,p⟩:=tl h' r';cases e;exact .none_list p hu
  |exc k=>cases e
  |dic k=>cases e
  |dw _ _ _ _=>cases e
  |fn _ _ _=>cases e
 |bl j=>
  obtain rfl:=tb h r;cases w' with
  |non=>obtain rfl:=tn h' r';cases e;exact .bool_none j
  |bl k=>obtain rfl:=tb h' r';cases e;exact .bool_bool j k
  |int k=>obtain⟨t,rfl⟩:=ti h' r';cases e;exact .bool_int j k t
  |str k=>obtain⟨t,rfl⟩:=ts h' r';cases e;exact .bool_str j k t
  |tup k=>obtain⟨l,it,rfl,p⟩:=tt h' r';cases e;exact .bool_tuple j p hu
  |lst k=>obtain⟨l,it,rfl,p⟩:=tl h' r';cases e;exact .bool_list j p hu
  |exc k=>cases e
  |dic k=>cases e
  |dw _ _ _ _=>cases e
  |fn _ _ _=>cases e
 |int j=>
  obtain⟨t1,rfl⟩:=ti h r;cases w' with
  |non=>obtain rfl:=tn h' r';cases e;exact .int_none j t1
  |bl k=>obtain rfl:=tb h' r';cases e;exact .int_bool j t1 k
  |int k=>obtain⟨t,rfl⟩:=ti h' r';cases e;exact .int_int j t1 k t
  |str k=>obtain⟨t,rfl⟩:=ts h' r';cases e;exact .int_str j t1 k t
  |tup k=>obtain⟨l,it,rfl,p⟩:=tt h' r';cases e;exact .int_tuple j t1 p hu
  |lst k=>obtain⟨l,it,rfl,p⟩:=tl h' r';cases e;exact .int_list j t1 p hu
  |exc k=>cases e
  |dic k=>cases e
  |dw _ _ _ _=>cases e
  |fn _ _ _=>cases e
 |str j=>
  obtain⟨t1,rfl⟩:=ts h r;cases w' with
  |non=>obtain rfl:=tn h' r';cases e;exact .str_none j t1
  |bl k=>obtain rfl:=tb h' r';cases e;exact .str_bool j t1 k
  |int k=>obtain⟨t,rfl⟩:=ti h' r';cases e;exact .str_int j t1 k t
  |str k=>obtain⟨t,rfl⟩:=ts h' r';cases e;exact .str_str j t1 k t
  |tup k=>obtain⟨l,it,rfl,p⟩:=tt h' r';cases e;exact .str_tuple j t1 p hu
  |lst k=>obtain⟨l,it,rfl,p⟩:=tl h' r';cases e;exact .str_list j t1 p hu
  |exc k=>cases e
  |dic k=>cases e
  |dw _ _ _ _=>cases e
  |fn _ _ _=>cases e
 |tup j=>
  obtain⟨l1,it1,rfl,p1⟩:=tt h r;cases w' with
  |non=>obtain rfl:=tn h' r';cases e;exact .tuple_none p1 hu
  |bl k=>obtain rfl:=tb h' r';cases e;exact .tuple_bool k p1 hu
  |int k=>obtain⟨t,rfl⟩:=ti h' r';cases e;exact .tuple_int k t p1 hu
  |str k=>obtain⟨t,rfl⟩:=ts h' r';cases e;exact .tuple_str k t p1 hu
  |tup k=>exact absurd rfl (n1 j rfl k)
  |lst k=>obtain⟨l,it,rfl,p⟩:=tl h' r';cases e;exact .tuple_list p1 p hu
  |exc k=>cases e
  |dic k=>cases e
  |dw _ _ _ _=>cases e
  |fn _ _ _=>cases e
 |lst j=>
  obtain⟨l1,it1,rfl,p1⟩:=tl h r;cases w' with
  |non=>obtain rfl:=tn h' r';cases e;exact .list_none p1 hu
  |bl k=>obtain rfl:=tb h' r';cases e;exact .list_bool k p1 hu
  |int k=>obtain⟨t,rfl⟩:=ti h' r';cases e;exact .list_int k t p1 hu
  |str k=>obtain⟨t,rfl⟩:=ts h' r';cases e;exact .list_str k t p1 hu
  |lst k=>exact absurd rfl (n2 j rfl k)
  |tup k=>obtain⟨l,it,rfl,p⟩:=tt h' r';cases e;exact .list_tuple p1 p hu
  |exc k=>cases e
  |dic k=>cases e
  |dw _ _ _ _=>cases e
  |fn _ _ _=>cases e
 |exc j=>cases w'<;>cases e
 |dic j=>cases w'<;>cases e
 |dw _ _ _ _=>cases w'<;>cases e
 |fn _ _ _=>cases w'<;>cases e
theorem x9b(I:Inv X pins σ H s)(sg:Same G H){b:Bool}(hd:depW w<=0)(hu:A.units<cLine)(h:Rep X.K G w v)(h':Rep X.K G w' v')(r:RelV v u)(r':RelV v' u')(e:eqW w w'=some b):SeqAt.RcNeAt A s u u' (!b):=
 q9v I sg hu (fun ws z=>by subst z;simp[depW]at hd) (fun ws z=>by subst z;simp[depW]at hd) h h' r r' e
theorem x30(I:Inv X pins σ H s)(sg:Same G H)(hu:A.units+(n+1)<cLine){ws':List W}{xs':List V}{its its':List Value}{k:Bool}(hd:depWs ws<=n)(r1:Reps X.K G ws xs)(r2:Reps X.K G ws' xs')(v1:Vals xs its)(v2:Vals xs' its')(he:eqWs ws ws'=some k):
  ∀j (h1:j<its.toArray.size) (h2:j<its'.toArray.size),SeqAt.EqAt A.in1 s its.toArray[j] its'.toArray[j] ((eqW (ws.getD j .non) (ws'.getD j .non)).getD false):=by
 intro j h1 h2;have l1:=r1.length;have l2:=r2.length;have m1:=v1.length;have m2:=v2.length;have i1:j<xs.length:=by rw[m1];simpa using h1
 have i2:j<xs'.length:=by rw[m2];simpa using h2
 obtain⟨u1,e1,ru1⟩:=v1.get (w0a i1);obtain⟨u2,e2,ru2⟩:=v2.get (w0a i2);obtain⟨w1,f1,p1⟩:=r1.getV (w0a i1);obtain⟨w2,f2,p2⟩:=r2.getV (w0a i2);obtain⟨b',hb'⟩:=(q5d he).1 j w1 w2 f1 f2;rw[q8z f1,q8z f2,hb']
 have g1:its.toArray[j]=u1:=by
  obtain⟨_,z⟩:=w0b.mp e1
  simpa using z
 have g2:its'.toArray[j]=u2:=by
  obtain⟨_,z⟩:=w0b.mp e2
  simpa using z
 rw[g1,g2];have hdw:depW w1<=n:=w1e (q6x f1) hd
 have hun:A.in1.units+n<cLine:=by
  have:A.in1.units=A.units+1:=rfl;omega
 refine q9u ru1 (q9t p1) (x7l I sg n hdw hun p1 p2 ru1 ru2 hb') fun z=>?_
 subst z;have:=ru1.inj ru2;rw[this]at p1;exact q8y I sg w1 p1 p2 hb'
theorem y5c(I:Inv X pins σ H s)(sg:Same G H)(n:Nat){b:Bool}(hd:depW w<=n+1)(hu:A.units+(n+1)<cLine)(h:Rep X.K G w v)(h':Rep X.K G w' v')(r:RelV v u)(r':RelV v' u')(e:eqW w w'=some b):SeqAt.RcNeAt A s u u' (!b):=by
 cases w with
 |tup ws=>
  cases w' with
  |tup ws'=>
   obtain⟨a,xs,rfl,q1,r1⟩:=h;obtain⟨a',xs',rfl,q2,r2⟩:=h';cases r;cases r';obtain⟨its,v1,p1,_⟩:=I.tuple (sg.tup q1);obtain⟨its',v2,p2,_⟩:=I.tuple (sg.tup q2);have e:eqWs ws ws'=some b:=e;have z:=SeqAt.RcNeAt.tuples (show s.heap.IsTuple a _ from p1) (show s.heap.IsTuple a' _ from p2) (show A.units<cLine by omega) (x30 I sg hu (by simp only[depW]at hd;omega) r1 r2 v1 v2 e);have l1:=r1.length;have l2:=r2.length;have m1:=v1.length;have m2:=v2.length;have eb:=(q5d e).2;have n1:its.length=ws.length:=by omega
   have n2:its'.length=ws'.length:=by omega
   rw[eb];simp only[w0d,n1,n2]at z;exact z
  |_=>exact q9v I sg (by omega) (by intro ws';simp) (by intro ws';simp) h h' r r' e
 |lst ws=>
  cases w' with
  |lst ws'=>
   obtain⟨a,xs,rfl,q1,r1⟩:=h;obtain⟨a',xs',rfl,q2,r2⟩:=h';cases r;cases r';obtain⟨its,v1,p1,_⟩:=I.list (sg.seq q1);obtain⟨its',v2,p2,_⟩:=I.list (sg.seq q2);have e:eqWs ws ws'=some b:=e;have l1:=r1.length;have l2:=r2.length;have m1:=v1.length;have m2:=v2.length;have eb:=(q5d e).2;have n1:its.length=ws.length:=by omega
   have n2:its'.length=ws'.length:=by omega
   by_cases hl:ws.length=ws'.length
   ·have z:=SeqAt.RcNeAt.lists p1.isList p2.isList (by simp only[w0d];omega) (show A.units<cLine by omega) (x30 I sg hu (by simp only[depW]at hd;omega) r1 r2 v1 v2 e);rw[eb,hl];simp only[w0d,n1,hl,Nat.min_self,beq_self_eq_true,Bool.and_true]at z |-
    exact z
   ·have z:=SeqAt.RcNeAt.lists_lengths (A:=A) p1.isList p2.isList (by simp only[w0d,bne_iff_ne];omega) (show A.units<cLine by omega)
    have:b=false:=by
     rw[eb];have:(ws.length==ws'.length)=false:=by simp[hl]
     rw[this,Bool.and_false]
    rw[this];exact z
  |_=>exact q9v I sg (by omega) (by intro ws';simp) (by intro ws';simp) h h' r r' e
 |_=>exact x9b I sg (by simp[depW]) (by omega) h h' r r' e
noncomputable def eq2(x y:W):Option W:=if depW x<=150 then(eqW x y).map .bl else none
def rEqD(K:PySem.W.Frag):R2:=fun x y H Q=>∃G wx wy b,Same G H/\depW wx<=150/\Rep K G wx x/\Rep K G wy y/\eqW wx wy=some b/\Q (.bl b) H
theorem x9c(hu:X.A.units+150<cLine):OpR X (compareOp .Eq) (rEqD X.K):=by
 intro pins s σ H x y v u Q I rx ry h;obtain⟨G,wx,wy,b,sg,hd,hx,hy,e,q⟩:=h;exact x7l I sg 150 hd hu hx hy rx ry e _ _ _ _ ⟨.bl b,H,I,rfl,q⟩
theorem y4a:Op2 K (rEqD K) eq2:=by
 intro G H x y wx wy w Q s px py hf h;unfold eq2 at hf;split at hf
 ·rename_i hd;obtain⟨b,hb,rfl⟩:=w0f.mp hf;exact⟨G,wx,wy,b,s,hd,px,py,hb,h G _ H (.refl s) rfl⟩
 ·cases hf
noncomputable def ne2(x y:W):Option W:=if depW x<=150 then(eqW x y).map fun b=>.bl (!b)else none
def rNeD(K:PySem.W.Frag):R2:=fun x y H Q=>∃G wx wy b,Same G H/\depW wx<=150/\Rep K G wx x/\Rep K G wy y/\eqW wx wy=some b/\Q (.bl (!b)) H
theorem x9d(hu:X.A.units+150<cLine):OpR X (compareOp .NotEq) (rNeD X.K):=by
 intro pins s σ H x y v u Q I rx ry h;obtain⟨G,wx,wy,b,sg,hd,hx,hy,e,q⟩:=h;exact y5c I sg 149 hd hu hx hy rx ry e _ _ _ _ ⟨.bl (!b),H,I,rfl,q⟩
theorem y4b:Op2 K (rNeD K) ne2:=by
 intro G H x y wx wy w Q s px py hf h;unfold ne2 at hf;split at hf
 ·rename_i hd;obtain⟨b,hb,rfl⟩:=w0f.mp hf;exact⟨G,wx,wy,b,s,hd,px,py,hb,h G _ H (.refl s) rfl⟩
 ·cases hf
end
def rIs:R2:=fun x y H Q=>(y=.non\/∃b,y=.bl b)/\Q (.bl (decide (x=y))) H
theorem y14{x y:V}{v:Value}(rx:RelV x v)(ry:RelV y u)(h:y=.non\/∃b,y=.bl b):plainIs v u=true/\(v==u)=decide (x=y):=by
 rcases h with rfl|⟨b,rfl⟩
 ·cases ry
  cases x<;>first
   |(cases rx;exact⟨rfl,by first|rfl|(rw[w0x];simp)⟩)
   |(obtain⟨t,rfl⟩:=rx;exact⟨rfl,by rw[w0x];simp⟩)
 ·cases ry
  cases x<;>first
   |(cases rx;exact⟨rfl,by first|rfl|(rw[w0x];simp)⟩)
   |(obtain⟨t,rfl⟩:=rx;exact⟨rfl,by rw[w0x];simp⟩)
theorem x9e:OpR X (compareOp .Is) rIs:=by
 intro pins s σ H x y v u Q I rx ry h;obtain⟨hy,q⟩:=h;obtain⟨h1,h2⟩:=y14 rx ry hy;exact wpAny_is_plain h1 (q1y I q h2.symm)
section
variable{a b c e:Expr}{p:Pos}
theorem q4d(ha:DE Z X EE a da)(hb:DE Z X EE b db):DE Z X EE (.BinOp a .Sub b pos) (dOp subW da db):=q8v y8p y87 ha hb
theorem q7e(ha:DE Z X EE a da)(hb:DE Z X EE b db):DE Z X EE (.BinOp a .Mult b pos) (dOp mulW da db):=q8v y8q y88 ha hb
theorem q5e(ha:DE Z X EE a da)(hb:DE Z X EE b db):DE Z X EE (.BinOp a .FloorDiv b pos) (dOp fdivW da db):=q8v y4o y5a ha hb
theorem q4e(ha:DE Z X EE a da)(hb:DE Z X EE b db):DE Z X EE (.BinOp a .Mod b pos) (dOp modW da db):=q8v y8r y89 ha hb
theorem y4c(ha:DE Z X EE a da)(hb:DE Z X EE b db):DE Z X EE (.Compare a [.Lt] [b] pos) (dOp ltW da db):=q8j y33 y37 ha hb (nomark _)
theorem z2g(ha:DE Z X EE a da)(hb:DE Z X EE b db):DE Z X EE (.Compare a [.LtE] [b] pos) (dOp leW da db):=q8j y34 y38 ha hb (nomark _)
theorem y4d(ha:DE Z X EE a da)(hb:DE Z X EE b db):DE Z X EE (.Compare a [.GtE] [b] pos) (dOp geW da db):=q8j z2d z2f ha hb (nomark _)
theorem q40(hu:X.A.units+150<cLine)(ha:DE Z X EE a da)(hb:DE Z X EE b db):DE Z X EE (.Compare a [.Eq] [b] pos) (dOp eq2 da db):=q8j (x9c hu) y4a ha hb (nomark _)
theorem z2h(hu:X.A.units+150<cLine)(ha:DE Z X EE a da)(hb:DE Z X EE b db):DE Z X EE (.Compare a [.NotEq] [b] pos) (dOp ne2 da db):=q8j (x9d hu) y4b ha hb (nomark _)
theorem y4e(ha:DE Z X EE a da)(hb:DE Z X EE b db):DT Z X EE (.Compare a [.Lt] [b] pos) (dTest (dOp ltW da db)):=q6l y33 y37 ha hb (nomark _)
theorem z2i(ha:DE Z X EE a da)(hb:DE Z X EE b db):DT Z X EE (.Compare a [.LtE] [b] pos) (dTest (dOp leW da db)):=q6l y34 y38 ha hb (nomark _)
theorem q80(ha:DE Z X EE a da)(hb:DE Z X EE b db):DT Z X EE (.Compare a [.Gt] [b] pos) (dTest (dOp gtW da db)):=q6l z2c z2e ha hb (nomark _)
theorem q3x(hu:X.A.units+150<cLine)(ha:DE Z X EE a da)(hb:DE Z X EE b db):DT Z X EE (.Compare a [.Eq] [b] pos) (dTest (dOp eq2 da db)):=q6l (x9c hu) y4a ha hb (nomark _)
theorem q6y(hu:X.A.units+150<cLine)(ha:DE Z X EE a da)(hb:DE Z X EE b db):DT Z X EE (.Compare a [.NotEq] [b] pos) (dTest (dOp ne2 da db)):=q6l (x9d hu) y4b ha hb (nomark _)
theorem q0q{k:Nat}(h:Room k A):A.units+150<cLine:=by have:=h.un;omega
theorem x31{k:Nat}(h:RoomH k A):A.units+150<cLine:=by have:=h.un;omega
noncomputable def cutW(xs:List W)(lo hi:Option Int):List W:=(xs.drop (HT.sIx xs.length 0 lo)).take (HT.sIx xs.length xs.length hi-HT.sIx xs.length 0 lo)
theorem Reps.cut(r:Reps K G ws xs)(lo hi:Option Int):Reps K G (cutW ws lo hi) (cutV xs lo hi):=by
 unfold cutW cutV;rw[r.length];exact(r.drop _).take _
def DO(Z:Zt)(X:Cx)(EE:L2.St->XK)(e:Option Expr)(d:Den (Option Int)):Prop:=PO X e (fun σ H Q=>∃G e,Rel X.K Z G σ H e/\(d e).holds (fun o e'=>∀G' H',Rel X.K Z G' σ H' e'->Same G G'->Q o H') (XH X.K Z EE σ G))
noncomputable def dNoPart:Den (Option Int):=fun e=>.ok none e
noncomputable def dPart(d:Den W):Den (Option Int):=fun e=>(d e).bind fun w e1=>match w with
 |.int i=>.ok (some i) e1
 |_=>.no
theorem PO.mono{e:Option Expr}{t t':TO}(h:PO X e t)(i:∀σ H Q,t' σ H Q->t σ H Q):PO X e t':=fun pins s σ H Q I q=>h pins s σ H Q I (i σ H Q q)
theorem q6c:DO Z X EE none dNoPart:=PO.mono y4t fun σ H Q ⟨G,e,r,h⟩=>h G H r (.refl _)
theorem q4v(h:DE Z X EE e da):DO Z X EE (some e) (dPart da):=by
 refine PO.mono (y4u h) ?_;rintro σ H Q ⟨G,e,rel,h⟩;simp only[dPart,R.holds_bind]at h;refine⟨G,e,rel,h.imp (fun x e1 h G1 v1 H1 r1 s1 p1=>?_) fun _ _ h=>h⟩
 cases x with
 |int i=>cases(show v1=V.int i from p1);exact⟨i,rfl,h G1 H1 r1 s1⟩
 |_=>exact h.elim
noncomputable def slW:W->Option Int->Option Int->Option W
 |.lst ws,lo,hi=>some (.lst (cutW ws lo hi))
 |.tup ws,lo,hi=>if ¬(HT.sIx ws.length 0 lo=0/\HT.sIx ws.length ws.length hi=ws.length)then some (.tup (cutW ws lo hi))else none
 |_,_,_=>none
noncomputable def dSl(d:Den W)(dl dh:Den (Option Int)):Den W:=fun e=>(d e).bind fun w e1=>(dl e1).bind fun lo e2=>(dh e2).bind fun hi e3=>ofOpt (slW w lo hi) e3
theorem q4l{lo hi:Option Expr}{dl dh:Den (Option Int)}(he:DE Z X EE e da)(hl:DO Z X EE lo dl)(hh:DO Z X EE hi dh):DE Z X EE (.Subscript e (.Slice lo hi none p2) pos) (dSl da dl dh):=by
 refine PE.mono (y1m (sl_list.or y8v) he hl hh) ?_;rintro σ H Q ⟨G,e,rel,h⟩;simp only[dSl,R.holds_bind,ofOpt_holds]at h;refine⟨G,e,rel,h.imp (fun w e1 h G1 v1 H1 r1 s1 p1=>?_) fun _ _ h=>h⟩
 refine⟨G1,e1,r1,h.imp (fun lo e2 h G2 H2 r2 s2=>?_) fun _ _ h=>XH.trans s1 h⟩
 refine⟨G2,e2,r2,h.imp (fun hi e3 h G3 H3 r3 s3=>?_) fun _ _ h=>XH.trans (s1.trans s2) h⟩
 obtain⟨y,hf,h⟩:=h;have p3:=Rep.mono (s2.trans s3) w p1;have s03:=(s1.trans s2).trans s3;cases w with
 |lst ws=>
  cases hf;obtain⟨a,xs,rfl,q,r⟩:=p3;refine .inl ⟨a,xs,rfl,r3.sub.seq q,fun p hp=>?_⟩
  have g:=Grow.laid r3.sub hp (.lst (cutV xs lo hi));exact h _ _ _ (r3.grow g) (s03.trans g.gg) ⟨p,_,rfl,SqL.of q0h,Reps.mono g.gg _ (r.cut lo hi)⟩
 |tup ws=>
  simp only[slW]at hf;split at hf
  ·rename_i hw;cases hf;obtain⟨a,xs,rfl,q,r⟩:=p3;refine .inr ⟨a,xs,rfl,r3.sub.tup q,by rw[r.length];exact hw,fun p hp=>?_⟩
   have g:=Grow.laid r3.sub hp (.tup (cutV xs lo hi));exact h _ _ _ (r3.grow g) (s03.trans g.gg) ⟨p,_,rfl,SqT.of q0h,Reps.mono g.gg _ (r.cut lo hi)⟩
  ·cases hf
 |_=>cases hf
noncomputable def tyW:W->Value
 |.non=>.type "NoneType"
 |.bl _=>.type "bool"
 |.int _=>.type "int"
 |.str _=>.type "str"
 |.tup _=>.type "tuple"
 |.lst _=>.type "list"
 |.exc c=>c
 |.dic _=>.type "dict"
 |.dw _ _ _ _=>.type "dict"
 |.fn _ _ _=>.type "dict"
noncomputable def isiW(K:PySem.W.Frag)(cv:Value):W->Option W
 |.exc (.ref D)=>if excClsIn K D=true then(kitOne K (.ref D) cv).map .bl else none
 |.exc _=>none
 |.dic _=>none
 |.dw _ _ _ _=>none
 |.fn _ _ _=>none
 |w=>(kitOne K (tyW w) cv).map .bl
theorem y5d{pins:List (Addr×Obj)}{b:Bool}{Q:VK}(I:Inv X pins σ H s)(sg:Same G H)(p:Rep X.K G w v)(r:RelV v u)(h:isiW X.K cv w=some (.bl b))(q:Q (.bl b) H):
  wpAny (model X.prog X.w) X.A (call (.builtin "isinstance") [u,cv]) (EP X pins σ Q) X.xe s:=by
 have fin:∀tk,EP X pins σ Q (.bool b) {s with toks:=tk}:=fun tk=>⟨.bl b,H,I.tok _,rfl,q⟩
 have kit:∀{t:Value},(kitOne X.K t cv).map W.bl=some (.bl b)->kitOne X.K t cv=some b:=fun z=>by
  obtain⟨y,h1,h2⟩:=w0f.mp z;cases h2;exact h1
 cases w with
 |non=>cases p;cases r;exact kia_one PySem.W.kitx_none I.kIn True.intro (kit h) (fun z=>nomatch z) fin
 |bl y=>cases p;cases r;exact kia_one PySem.W.kitx_bool I.kIn True.intro (kit h) (fun z=>nomatch z) fin
 |int y=>cases p;obtain⟨t,rfl⟩:=r;exact kia_one PySem.W.kitx_int I.kIn True.intro (kit h) (fun z=>nomatch z) fin
 |str y=>cases p;obtain⟨t,rfl⟩:=r;exact kia_one PySem.W.kitx_str I.kIn True.intro (kit h) (fun z=>nomatch z) fin
 |tup ws=>
  obtain⟨a,xs,rfl,hq,_⟩:=p;cases r;obtain⟨its,_,⟨o,h1,h2,_⟩,_⟩:=I.tuple (sg.tup hq);exact kia_one PySem.W.kitx_tuple I.kIn ⟨o,h1,h2⟩ (kit h) (fun z=>nomatch z) fin
 |lst ws=>
  obtain⟨a,xs,rfl,hq,_⟩:=p;cases r;obtain⟨its,_,⟨o,n,h1,h2,_⟩,_⟩:=I.list (sg.seq hq);exact kia_one PySem.W.kitx_list I.kIn ⟨o,h1,h2⟩ (kit h) (fun z=>nomatch z) fin
 |dic c=>simp[isiW]at h
 |dw _ _ _ _=>simp[isiW]at h
 |fn _ _ _=>simp[isiW]at h
 |exc c=>
  obtain⟨e,rfl,he⟩:=p;cases r;unfold isiW at h;split at h
  ·rename_i D heq;cases heq;split at h
   ·rename_i hC;obtain⟨⟨o,vs,h1,h2,h3⟩,_⟩:=(show ObjOk X.prog X.w H s.heap e (excO e (.ref D))from I.hok e _ (sg _ _ he));exact kia_one (y1u (ExcCls.of hC)) I.kIn ⟨o,vs,h1,h2,h3⟩ (kit h) (fun z=>nomatch z) fin
   ·cases h
  all_goals first|(cases h;done)|(rename_i h1 h2 h3 h4 h5;exact absurd rfl (h2 c))|(rename_i h1 h2 h3 h4;exact absurd rfl (h2 c))|(rename_i h1 h2 h3;exact absurd rfl (h2 c))|(rename_i h1 h2;exact absurd rfl (h2 c))
noncomputable def dIsi(K:PySem.W.Frag)(cv:Value)(d:Den W):Den W:=fun e=>(d e).bind fun w e1=>match isiW K cv w with
 |some (.bl b)=>.ok (.bl b) e1
 |_=>.no
theorem x9f{c:V}(hc:ClsV c cv):CallR X (.builtin "isinstance") (fun xs H Q=>∃x G w b,xs=[x,c]/\Same G H/\Rep X.K G w x/\isiW X.K cv w=some (.bl b)/\Q (.bl b) H):=by
 intro pins s σ H xs us Q I r h;obtain⟨x,G,w,b,rfl,sg,p,hi,q⟩:=h;obtain⟨u,u2,rfl,rx,rc⟩:=vals2 r
 have ec:u2=cv:=by
  cases c with
  |ty n=>exact(show u2=Value.type n from rc).trans (show cv=Value.type n from hc).symm
  |ref a=>exact(show u2=Value.ref a from rc).trans (show cv=Value.ref a from hc).symm
  |_=>exact hc.elim
 subst ec;exact y5d I sg p rx hi q
theorem q05{c0:V}(hc:ClsV c0 cv)(hcl:PE X c (tC c0))(hm:X.mg "isinstance"=none)(he:DE Z X EE e da)(hg:Gl X "isinstance":=by rfl)(hs:starEach [e,c] X.env=(false,eval e X.env)::starEach [c] X.env:=by rfl)(hs2:starEach [c] X.env=(false,eval c X.env)::starEach [] X.env:=by rfl)(hpl:(backTo pos (starEach [c] X.env)).any (·.1)=false:=by rfl):
  DE Z X EE (.Call (.Name "isinstance" p) [e,c] [] pos) (dIsi X.K cv da):=by
 refine PE.mono (q7l (x9f hc) hg hm PyProof.Rows.Boot.«isinstance» (q0s he (q0s hcl q1z hs2) hs) (by decide) (by decide) hs hpl) ?_;rintro σ H Q ⟨G,e,rel,h⟩;simp only[dIsi,R.holds_bind]at h;refine⟨G,e,rel,h.imp (fun w e1 h G1 v1 H1 r1 s1 p1=>?_) fun _ _ h=>h⟩
 split at h
 ·rename_i b hb;exact⟨v1,G1,w,b,rfl,r1.sub,p1,hb,h G1 _ H1 r1 s1 rfl⟩
 ·exact h.elim
theorem q1c{n:Str}{a:Addr}(hm:X.mg n=some (.ref a))(hg:Gl X n:=by rfl)(hd:(n==("__debug__":Str))=false:=by decide):PE X (.Name n pos) (tC (.ref a)):=pe_glob (v:=.ref a) hg hm rfl hd
theorem q5f{n:Str}(hv:bootBuiltins n=some (.type T))(hm:X.mg n=none)(hg:Gl X n:=by rfl)(hn:n≠"__name__":=by decide)(hd:(n==("__debug__":Str))=false:=by decide):PE X (.Name n pos) (tC (.ty T)):=y4j (v:=.ty T) hg hm hv rfl hn hd
noncomputable def tup1:List W->Option W
 |[.lst ws]=>some (.tup ws)
 |[.tup ws]=>some (.tup ws)
 |_=>none
theorem y9d:OpN K (fun xs H Q=>∃p ys,xs=[.ref p]/\((SqL K H p ys/\∀l,H l=none->Q (.ref l) (upd H l (.tup ys)))\/(SqT K H p ys/\Q (.ref p) H))) tup1:=by
 intro G H xs ws w Q s pr hf h;unfold tup1 at hf;split at hf
 ·cases hf;obtain⟨x,r,rfl,px,pr⟩:=pr;cases(show r=[]from pr);obtain⟨a,ys,rfl,ha,ra⟩:=px;refine⟨a,ys,rfl,.inl ⟨s.seq ha,fun l hl=>?_⟩⟩
  have g:=Grow.laid s hl (.tup ys);exact h _ _ _ g ⟨l,ys,rfl,SqT.of q0h,Reps.mono g.gg _ ra⟩
 ·cases hf;obtain⟨x,r,rfl,px,pr⟩:=pr;cases(show r=[]from pr);obtain⟨a,ys,rfl,ha,ra⟩:=px;exact⟨a,ys,rfl,.inr ⟨s.tup ha,h G _ H (.refl s) ⟨a,ys,rfl,ha,ra⟩⟩⟩
 ·cases hf
theorem q6n(hm:X.mg "tuple"=none)(ha:DA Z X EE [e] dA)(hg:Gl X "tuple":=by rfl)(he:starEach [e] X.env=(false,eval e X.env)::starEach [] X.env:=by rfl)(hpl:(backTo pos (starEach [] X.env)).any (·.1)=false:=by rfl):DE Z X EE (.Call (.Name "tuple" p) [e] [] pos) (dFn tup1 dA):=
 x82 x21 y9d PyProof.Rows.Boot.«tuple» hm ha hg (by decide) (by decide) he hpl
theorem q10(hm:X.mg "len"=none)(ha:DA Z X EE [e] dA)(hg:Gl X "len":=by rfl)(he:starEach [e] X.env=(false,eval e X.env)::starEach [] X.env:=by rfl)(hpl:(backTo pos (starEach [] X.env)).any (·.1)=false:=by rfl):DE Z X EE (.Call (.Name "len" p) [e] [] pos) (dFn len1 dA):=
 q68 q9m x86 PySem.boot_len hm ha hg (by decide) (by decide) he hpl
theorem x1h(i:Nat)(hm:X.mg "len"=none)(hN:X.N[i]?=some x:=by rfl)(hvis:Vis X.env.scope x:=by walk_at "1")(hd:(x==("__debug__":Str))=false:=by decide)(hcd:(x==("__classdict__":Str))=false:=by decide)
  (hg:Gl X "len":=by rfl)(hs:starEach [.Name x p] X.env=(false,eval (.Name x p) X.env)::starEach [] X.env:=by rfl)(hpl:(backTo pos (starEach [] X.env)).any (·.1)=false:=by rfl):DE Z X EE (.Call (.Name "len" pn) [.Name x p] [] pos) (dFnV i len1):=
 y9a i q9m x86 PySem.boot_len hm hN hvis hd hcd hg (by decide) (by decide) hs hpl
noncomputable def lst1:List W->Option (List W)
 |[.lst ws]=>some ws
 |[.tup ws]=>some ws
 |_=>none
noncomputable def dList(dA:Den (List W)):Den (List W):=fun e=>(dA e).bind fun ws e1=>ofOpt (lst1 ws) e1
theorem y5e(hm:X.mg "list"=none)(ha:DA Z X EE [e] dA)(hg:Gl X "list":=by rfl)(he:starEach [e] X.env=(false,eval e X.env)::starEach [] X.env:=by rfl)(hpl:(backTo pos (starEach [] X.env)).any (·.1)=false:=by rfl):DF Z X EE (.Call (.Name "list" p) [e] [] pos) (dList dA):=by
 refine PE.mono (x19 x3s hg hm PyProof.Rows.Boot.«list» ha (by decide) (by decide) he hpl) ?_;rintro σ H Q ⟨G,e,rel,h⟩;simp only[dList,R.holds_bind,ofOpt_holds]at h;refine⟨G,e,rel,h.imp (fun ws e1 h G1 vs H1 r1 s1 p1=>?_) fun _ _ h=>h⟩
 obtain⟨out,hf,h⟩:=h;unfold lst1 at hf;split at hf
 ·cases hf;obtain⟨y,r,rfl,py,pr⟩:=p1;cases(show r=[]from pr);obtain⟨a,ys,rfl,hq,rq⟩:=py;exact⟨a,ys,rfl,.inl (r1.sub.seq hq),q6m r1 s1 rq h⟩
 ·cases hf;obtain⟨y,r,rfl,py,pr⟩:=p1;cases(show r=[]from pr);obtain⟨a,ys,rfl,hq,rq⟩:=py;exact⟨a,ys,rfl,.inr (r1.sub.tup hq),q6m r1 s1 rq h⟩
 ·cases hf
end
section
variable{P:Program}{w:World}{mg:Str->Option Value}{base:Heap}
theorem x0n(hF:∀ws,F ws=.no){vs:List V}{Q:VK}{E:XK}(h:spF K F vs H Q E):False:=by
 obtain⟨G,ws,hn,_⟩:=q7c h;exact hn (hF ws)
noncomputable def spLaw(K:PySem.W.Frag):Sp:=fun vs H Q _=>∃(a:Addr)(ns:List Int),vs=[.ref a]/\SqL K H a (ns.map V.int)/\ns.length<=63/\∀H',Q (.bl true) H'
theorem x2f:∀(ns:List Int),Reps K G (ns.map W.int) (ns.map V.int)
 |[]=>rfl
 |n::ns=>⟨_,_,rfl,rfl,x2f ns⟩
theorem y15(hF:∀ns:List Int,ns.length<=63->F [.lst (ns.map .int)]=.ok (.fr (.bl true))){vs:List V}{Q:VK}{E:XK}(h:spLaw K vs H Q E):spF K F vs H Q E:=by
 obtain⟨a,ns,rfl,hS,hl,q⟩:=h;refine⟨fun b=>if b=a then H a else none,[.lst (ns.map .int)],fun b o z=>?_,⟨.ref a,[],rfl,⟨a,ns.map V.int,rfl,?_,x2f ns⟩,rfl⟩,?_⟩
 ·by_cases hb:b=a
  ·subst hb;simpa using z
  ·simp[hb]at z
 ·rcases hS with(h|⟨o,h⟩)|h
  ·exact .inl (.inl (by simpa using h))
  ·exact .inl (.inr ⟨o,by simpa using h⟩)
  ·exact .inr h
 ·rw[hF ns hl];intro G' H' v g sl;obtain⟨u,h1,h2⟩:=sl;cases h1;cases(show v=V.bl true from h2);exact q H'
theorem y9e{P:Program}{w:World}{e:Value}{s':Shared}(z:CX1 P w [] H s (fun _ _ _=>False) e s'):False:=by
 obtain⟨_,_,_,_,_,_,_,_,_,_,h⟩:=z;exact h
theorem con0{st:Stmt}{ps:List Str}(A:At K mg x st ps)(hF:∀ws,F ws=.no:=by intro _;rfl):Cal P w K mg base 0 x ps (spF K F):=by
 obtain⟨f,fd,F0,m,b⟩:=A.ex;exact⟨f,fd,⟨fun vs H Q E h=>(x0n hF h).elim,fun A outer s H args us vs Q E _ _ _ _ h=>(x0n hF h).elim⟩,m,F0.kp,b⟩
theorem con0H{st:Stmt}{ps:List Str}(A:At K mg x st ps)(hF:∀ws,F ws=.no:=by intro _;rfl):CalH P w K mg base 0 x ps (spF K F):=by
 obtain⟨f,fd,F0,m,b⟩:=A.ex;exact⟨f,fd,⟨fun vs H Q E h=>(x0n hF h).elim,fun A outer s H args us vs Q _ _ _ _ h=>(x0n hF h).elim⟩,m,F0.kp,b⟩
end
section
variable{e:Expr}{d:Den Str}
def DFm(Z:Zt)(X:Cx)(EE:L2.St->XK)(n:Nat)(es:List Expr)(d:Den Str):Prop:=PF X es (fun acc σ H Q=>acc.length+n*1000001<=16777216/\∃G e,Rel X.K Z G σ H e/\(d e).holds (fun y e'=>∀G' H',Rel X.K Z G' σ H' e'->Same G G'->Q (acc++y) H') (XH X.K Z EE σ G))
end
section
variable{β:Type}{c:Prop} [Decidable c]{a:α}{e':List S}{k:α->List S->R β}{ks:α->List S->SR}{x y:R α}{s t:SR}{v:Value}{st:S}
theorem y5f:(R.ok a e).bind k=k a e:=rfl
theorem y5g:(R.ex v e:R α).bind k=.ex v e:=rfl
theorem y5h:(R.no:R α).bind k=.no:=rfl
theorem y16:(if c then x else y).bind k=if c then x.bind k else y.bind k:=by split<;>rfl
theorem y9f:(R.ok a e).stm ks=ks a e:=rfl
theorem y9g:(R.ex v e:R α).stm ks=.ex v e:=rfl
theorem y9h:(R.no:R α).stm ks=.no:=rfl
theorem y5i:(if c then x else y).stm ks=if c then x.stm ks else y.stm ks:=by split<;>rfl
noncomputable def SR.seq:SR->(List S->SR)->SR
 |.nx e,b=>b e
 |r,_=>r
theorem y9i{p:List S->SR}:dSeq p q e=(p e).seq q:=by
 unfold dSeq SR.seq;cases p e<;>rfl
theorem y9j:(SR.nx e).seq q=q e:=rfl
theorem y9k:(SR.rt st e).seq q=.rt st e:=rfl
theorem y9l:(SR.ex v e).seq q=.ex v e:=rfl
theorem y9m:(SR.bk e).seq q=.bk e:=rfl
theorem y9n:(SR.ct e).seq q=.ct e:=rfl
theorem y9o:(SR.no).seq q=.no:=rfl
theorem y5j:(if c then s else t).seq q=if c then s.seq q else t.seq q:=by split<;>rfl
theorem z2j:(SR.nx e).fn=.ok (.fr .non):=rfl
theorem z2k:(SR.rt st e).fn=.ok st:=rfl
theorem z2l:(SR.ex v e).fn=.ex v:=rfl
theorem z2m:(SR.no).fn=.no:=rfl
theorem y9p:(if c then s else t).fn=if c then s.fn else t.fn:=by split<;>rfl
theorem x7m:ofOpt (some a) e=.ok a e:=rfl
theorem x7n:ofOpt (none:Option α) e=.no:=rfl
theorem x9g{o p:Option α}:ofOpt (if c then o else p) e=if c then ofOpt o e else ofOpt p e:=by split<;>rfl
noncomputable def varS(i:Nat)(e:List S):Option S->R W
 |some (.fr w)=>.ok w e
 |some (.own none ws)=>.ok (.lst ws) (e.set i (.fr (.lst ws)))
 |some (.x k)=>match k.plain with
  |some w=>.ok w e
  |none=>.no
 |_=>.no
theorem y9q:dVar i e=varS i e e[i]?:=by
 unfold dVar varS;cases e[i]? with
 |none=>rfl
 |some s=>cases s with
  |own b ws=>cases b<;>rfl
  |_=>rfl
theorem y5k:varS i e (some (.x (.old w)))=.ok w e:=rfl
theorem y5l:varS i e (some (.x (.new w)))=.ok w e:=rfl
theorem y9r:varS i e (some (.fr w))=.ok w e:=rfl
theorem y5m:varS i e (some (.own none ws))=.ok (.lst ws) (e.set i (.fr (.lst ws))):=rfl
theorem dC_s:dC w e=.ok w e:=rfl
theorem z2n{f:W->W->Option W}:dOp f da db e=(da e).bind fun x e1=>(db e1).bind fun y e2=>ofOpt (f x y) e2:=rfl
noncomputable def testW(e:List S):W->R Bool
 |.bl k=>.ok k e
 |_=>.no
theorem y5n:dTest da e=(da e).bind fun x e1=>testW e1 x:=rfl
theorem y5o{b:Bool}:testW e (.bl b)=.ok b e:=rfl
theorem y9s:dTru da e=(da e).bind fun x e1=>ofOpt (truW x) e1:=rfl
theorem y9t{p q:Den Bool}:dAnd p q e=(p e).bind fun x e1=>if x=true then q e1 else .ok false e1:=rfl
theorem z2o{p q:Den Bool}:dOr p q e=(p e).bind fun x e1=>if x=true then .ok true e1 else q e1:=rfl
theorem y9u{p:Den Bool}:dNot p e=(p e).bind fun x e1=>.ok (!x) e1:=rfl
noncomputable def andK(q:Den W)(e:List S):W->R W
 |.bl true=>q e
 |.bl false=>.ok (.bl false) e
 |_=>.no
theorem y5p{p q:Den W}:dAndV p q e=(p e).bind fun x e1=>andK q e1 x:=rfl
theorem y9v{q:Den W}{b:Bool}:andK q e (.bl b)=if b=true then q e else .ok (.bl false) e:=by cases b<;>rfl
noncomputable def notK(e:List S):W->R W
 |.bl k=>.ok (.bl (!k)) e
 |_=>.no
theorem y5q{p:Den W}:dNotV p e=(p e).bind fun x e1=>notK e1 x:=rfl
theorem y9w{b:Bool}:notK e (.bl b)=.ok (.bl (!b)) e:=rfl
theorem z2p{p:Den Bool}{q q':Den W}:dIf p q q' e=(p e).bind fun x e1=>if x=true then q e1 else q' e1:=rfl
theorem y9x:dNil e=.ok [] e:=rfl
theorem y5r{p:Den W}{q:Den (List W)}:dCons p q e=(p e).bind fun x e1=>(q e1).bind fun xs e2=>.ok (x::xs) e2:=rfl
theorem y9y:dTup p e=(p e).bind fun xs e1=>if xs.length<=16777216 then .ok (.tup xs) e1 else .no:=rfl
theorem y9z:dLst p e=(p e).bind fun xs e1=>if xs.length<=16777216 then .ok xs e1 else .no:=rfl
theorem z2q:dFz p e=(p e).bind fun xs e1=>.ok (.lst xs) e1:=rfl
theorem z2r:dFn f p e=(p e).bind fun xs e1=>ofOpt (f xs) e1:=rfl
theorem y5s:dList p e=(p e).bind fun xs e1=>ofOpt (lst1 xs) e1:=rfl
theorem z2s:dNx e=.nx e:=rfl
theorem y5t:dDrop d e=(d e).stm fun _ e'=>.nx e':=rfl
theorem y90:dRet d e=(d e).stm fun w e'=>.rt (.fr w) e':=rfl
noncomputable def retS(e:List S):Option S->SR
 |some (.own none ws)=>.rt (.own none ws) e
 |some (.fr w)=>.rt (.fr w) e
 |_=>.no
theorem y5u:dRetO i e=retS e e[i]?:=by
 unfold dRetO retS;cases e[i]? with
 |none=>rfl
 |some s=>cases s with
  |own b ws=>cases b<;>rfl
  |_=>rfl
theorem y5v:retS e (some (.own none ws))=.rt (.own none ws) e:=rfl
theorem y91:retS e (some (.fr w))=.rt (.fr w) e:=rfl
theorem y92{p:Den Bool}{q':List S->SR}:dIfS p q q' e=(p e).stm fun x e1=>if x=true then q e1 else q' e1:=rfl
theorem y93:dSet i d e=(d e).stm fun w e'=>.nx (e'.set i (.fr w)):=rfl
theorem y5w{d:Den (List W)}:dSetO i d e=(d e).stm fun w e'=>.nx (e'.set i (.own none w)):=rfl
noncomputable def callR(e:List S):FR->R W
 |.ok (.fr w)=>.ok w e
 |.ok (.own none ws)=>.ok (.lst ws) e
 |.ok (.dic kvs)=>.ok (.dic kvs) e
 |.ok (.thr us ws vs)=>.ok (.tup (us++.lst ws::vs)) e
 |.ok (.x (.new w))=>.ok w e
 |.ok (.x (.tn us wss))=>.ok (.tup (us++[.lst (wss.map .lst)])) e
 |.ex c=>.ex c e
 |_=>.no
theorem y17{us vs:List W}:callR e (.ok (.thr us ws vs))=.ok (.tup (us++.lst ws::vs)) e:=rfl
theorem y18:callR e (.ok (.x (.new w)))=.ok w e:=rfl
theorem y19{kvs:Dd}:callR e (.ok (.dic kvs))=.ok (.dic kvs) e:=rfl
theorem y5x{d:Den (List W)}:dCall F d e=(d e).bind fun ws e1=>callR e1 (F ws):=by
 unfold dCall;congr 1
theorem y5y:callR e (.ok (.fr w))=.ok w e:=rfl
theorem y2a:callR e (.ok (.own none ws))=.ok (.lst ws) e:=rfl
theorem y5z:callR e (.ex v)=.ex v e:=rfl
theorem y50:callR e .no=.no:=rfl
theorem y2b{f g:FR}:callR e (if c then f else g)=if c then callR e f else callR e g:=by split<;>rfl
noncomputable def callF(e:List S):FR->R (List W)
 |.ok (.own none ws)=>.ok ws e
 |.ex c=>.ex c e
 |_=>.no
theorem x9h:callF e (.ok (.own none ws))=.ok ws e:=rfl
theorem y2c:callF e (.ex v)=.ex v e:=rfl
theorem x9i{f g:FR}:callF e (if c then f else g)=if c then callF e f else callF e g:=by split<;>rfl
noncomputable def callH(e:List S):FR->R W
 |.ok (.fr w)=>.ok w e
 |.ok (.own none ws)=>.ok (.lst ws) e
 |_=>.no
theorem y2d{d:Den (List W)}:dCallH F d e=(d e).bind fun ws e1=>callH e1 (F ws):=by
 unfold dCallH;congr 1
theorem y2e:callH e (.ok (.fr w))=.ok w e:=rfl
theorem x9j:callH e (.ok (.own none ws))=.ok (.lst ws) e:=rfl
noncomputable def forW(i:Nat)(b:List S->SR)(e:List S):Option (List W)->SR
 |some ws=>forD i b ws e
 |none=>.no
theorem y94{b:List S->SR}:dFor i d b e=(d e).stm fun w e1=>forW i b e1 (seqW w):=by
 unfold dFor;congr 1
theorem y51{g:List W->Option (List W)}{d:Den (List W)}{b:List S->SR}:dForR i g d b e=(d e).stm fun w e1=>forW i b e1 (g w):=by
 unfold dForR;congr 1
theorem x9k{b:List S->SR}:forW i b e (some ws)=forD i b ws e:=rfl
noncomputable def SR.turn:SR->(List S->SR)->SR
 |.nx e,k=>k e
 |.ct e,k=>k e
 |.bk e,_=>.nx e
 |.rt s e,_=>.rt s e
 |.ex c e,_=>.ex c e
 |.no,_=>.no
theorem q6o{b:List S->SR}:forD i b (w::ws) e=(b (e.set i (.fr w))).turn (forD i b ws):=by
 show(match b (e.set i (.fr w))with|.nx e'=>forD i b ws e'|.ct e'=>forD i b ws e'|.bk e'=>.nx e'|.rt s e'=>.rt s e'|.ex c e'=>.ex c e'|.no=>.no)=_;cases b (e.set i (.fr w))<;>rfl
theorem q81:(SR.nx e).turn q=q e:=rfl
theorem y52:(SR.ct e).turn q=q e:=rfl
theorem y53:(SR.bk e).turn q=.nx e:=rfl
theorem x57:(SR.rt st e).turn q=.rt st e:=rfl
theorem y54:(SR.ex v e).turn q=.ex v e:=rfl
theorem y55:(SR.no).turn q=.no:=rfl
theorem y2f:(if c then s else t).turn q=if c then s.turn q else t.turn q:=by split<;>rfl
noncomputable def look1(k:W->R W):Option W->R W
 |none=>.no
 |some w=>k w
theorem y95:dIxV i d e=look1 (fun _=>(d e).bind fun k e1=>look1 (fun w=>ofOpt (ixW w k) e1) (e1[i]?.bind S.look)) (e[i]?.bind S.look):=by
 unfold dIxV look1;cases e[i]?.bind S.look with
 |none=>rfl
 |some w=>
  dsimp only;try congr 1
theorem x9l{k:W->R W}:look1 k (some w)=k w:=rfl
theorem z2t:S.look (.fr w)=some w:=rfl
theorem y96:S.look (.x (.old w))=some w:=rfl
theorem y97:S.look (.x (.new w))=some w:=rfl
theorem y98:S.look (.x (.acc ws))=some (.lst ws):=rfl
theorem y99:S.look (.own b ws)=some (.lst ws):=rfl
noncomputable def fnV2(e:List S)(y:Option W):Option S->R W
 |some (.fr _)=>ofOpt y e
 |_=>match y with
  |none=>.no
  |some v=>if scalW v=true then .ok v e else .no
theorem z0a:dFnV i f e=look1 (fun w=>fnV2 e (f [w]) e[i]?) (e[i]?.bind S.look):=by
 unfold dFnV look1;cases q:e[i]? with
 |none=>rfl
 |some s=>
  cases s with
  |no=>rfl
  |dic _=>rfl
  |thr _ _ _=>rfl
  |nest _=>rfl
  |x k=>
   show(match k.look with|none=>R.no|some w=>match f [w]with|none=>R.no|some v=>if scalW v=true then R.ok v e else R.no)=look1 (fun w=>fnV2 e (f [w]) (some (.x k))) k.look
   cases k.look with
   |none=>rfl
   |some w=>
    show(match f [w]with|none=>R.no|some v=>if scalW v=true then R.ok v e else R.no)=fnV2 e (f [w]) (some (.x k));generalize f [w]=y;cases y<;>rfl
  |dw _ _ _=>rfl
  |fr w=>
   show(match f [w]with|none=>R.no|some v=>R.ok v e)=fnV2 e (f [w]) (some (.fr w));generalize f [w]=y;cases y<;>rfl
  |own b ws=>
   show(match f [W.lst ws]with|none=>R.no|some v=>if scalW v=true then R.ok v e else R.no)=fnV2 e (f [W.lst ws]) (some (.own b ws));generalize f [W.lst ws]=y;cases y<;>rfl
theorem z0b{y:Option W}:fnV2 e y (some (.fr w))=ofOpt y e:=rfl
theorem z2u{k:SK}{v:W}:fnV2 e (some v) (some (.x k))=if scalW v=true then .ok v e else .no:=rfl
theorem y56{v:W}:fnV2 e (some v) (some (.own b ws))=if scalW v=true then .ok v e else .no:=rfl
noncomputable def appK(i:Nat)(e:List S):List W->Option S->SR
 |[w],some (.own b xs)=>if xs.length<16777216 then .nx (e.set i (.own b (xs++[w])))else .no
 |_,_=>.no
noncomputable def ownQ(k:SR):Option S->SR
 |some (.own _ _)=>k
 |_=>.no
theorem z0c{d:Den (List W)}:dApp i d e=ownQ ((d e).stm fun ws e1=>appK i e1 ws e1[i]?) e[i]?:=by
 unfold dApp ownQ;cases e[i]? with
 |none=>rfl
 |some s=>cases s with
  |own b xs=>
   dsimp only;try congr 1
  |_=>rfl
theorem z2v{k:SR}:ownQ k (some (.own b ws))=k:=rfl
theorem z2w{xs:List W}:appK i e [w] (some (.own b xs))=if xs.length<16777216 then .nx (e.set i (.own b (xs++[w])))else .no:=rfl
noncomputable def popK(i:Nat)(e:List S)(b:Option Nat)(ws:List W):Option W->R W
 |some w=>.ok w (e.set i (.own b ws.dropLast))
 |none=>.no
noncomputable def popS(i:Nat)(e:List S):Option S->R W
 |some (.own b ws)=>popK i e b ws ws[ws.length-1]?
 |_=>.no
theorem z0d:dPop i e=popS i e e[i]?:=by
 unfold dPop popS;cases e[i]? with
 |none=>rfl
 |some s=>cases s with
  |own b ws=>
   show(match ws[ws.length-1]? with|some w=>_|none=>_)=popK i e b ws ws[ws.length-1]?;cases ws[ws.length-1]?<;>rfl
  |_=>rfl
theorem y57:popS i e (some (.own b (ws++[w])))=.ok w (e.set i (.own b ws)):=by
 show popK i e b (ws++[w]) (ws++[w])[(ws++[w]).length-1]?=_;have:(ws++[w])[(ws++[w]).length-1]?=some w:=by simp
 rw[this];show R.ok w (e.set i (.own b (ws++[w]).dropLast))=_;rw[List.dropLast_concat]
theorem y2g{C:Addr}{d:Den (List W)}:dRaise C d e=(d e).stm fun ws e1=>if ws.length<=16777216 then .ex (.ref C) e1 else .no:=rfl
theorem z2x{dl dh:Den (Option Int)}:dSl d dl dh e=(d e).bind fun w e1=>(dl e1).bind fun lo e2=>(dh e2).bind fun hi e3=>ofOpt (slW w lo hi) e3:=rfl
theorem x9m:dNoPart e=.ok none e:=rfl
noncomputable def partK(e:List S):W->R (Option Int)
 |.int i=>.ok (some i) e
 |_=>.no
theorem y58:dPart d e=(d e).bind fun w e1=>partK e1 w:=rfl
theorem y2h{i:Int}:partK e (.int i)=.ok (some i) e:=rfl
noncomputable def isiK(e:List S):Option W->R W
 |some (.bl b)=>.ok (.bl b) e
 |_=>.no
theorem z0e:dIsi K cv d e=(d e).bind fun w e1=>isiK e1 (isiW K cv w):=by
 unfold dIsi;congr 1
theorem z0f{b:Bool}:isiK e (some (.bl b))=.ok (.bl b) e:=rfl
theorem x58{b:Int}{k:Bool}(h:kitOne K (.type "int") cv=some k):isiW K cv (.int b)=some (.bl k):=by show(kitOne K (.type "int") cv).map W.bl=_;rw[h];rfl
theorem x59{b:List W}{k:Bool}(h:kitOne K (.type "tuple") cv=some k):isiW K cv (.tup b)=some (.bl k):=by show(kitOne K (.type "tuple") cv).map W.bl=_;rw[h];rfl
theorem y59{b:List W}{k:Bool}(h:kitOne K (.type "list") cv=some k):isiW K cv (.lst b)=some (.bl k):=by show(kitOne K (.type "list") cv).map W.bl=_;rw[h];rfl
theorem q3o{D:Addr}{k:Bool}(hc:excClsIn K D=true)(h:kitOne K (.ref D) cv=some k):isiW K cv (.exc (.ref D))=some (.bl k):=by show(if excClsIn K D=true then _ else _)=_;rw[if_pos hc,h];rfl
noncomputable def tryH(n:Nat):SR->SR
 |.nx _=>.nx (List.replicate n .no)
 |.bk _=>.bk (List.replicate n .no)
 |.ct _=>.ct (List.replicate n .no)
 |.rt s e=>.rt s e
 |_=>.no
noncomputable def tryK(K:PySem.W.Frag)(c:Addr)(i n:Nat)(h:List S->SR):SR->SR
 |.ex cls e'=>if exmOne K cls (.ref c)=some true then tryH n (h (e'.set i (.fr (.exc cls))))else .no
 |r=>r
theorem z0g{c : Addr}{b h : List S -> SR} : dTry K c i n b h e = tryK K c i n h (b e) := by
  unfold dTry tryK;cases b e with
  | ex cls e' => dsimp only; split
                 . cases h (e'.set i (.fr (.exc cls))) <;> rfl
                 . rfl
  | _ => rfl
theorem z0h{c:Addr}:tryK K c i n h (.nx e)=.nx e:=rfl
theorem z0i{c:Addr}:tryK K c i n h (.rt st e)=.rt st e:=rfl
theorem z0j{c:Addr}(hx:exmOne K v (.ref c)=some true):tryK K c i n h (.ex v e)=tryH n (h (e.set i (.fr (.exc v)))):=by show(if _ then _ else _)=_;rw[if_pos hx]
theorem y6a:tryH n (.rt st e)=.rt st e:=rfl
theorem y6b:tryH n (.nx e)=.nx (List.replicate n .no):=rfl
noncomputable def compR(e:List S):Option (List W)->R (List W)
 |some out=>.ok out e
 |none=>.no
theorem y6c:compK js cc d ws e=if ws.length<=16777216 then compR (frzs js e) (compD cc d (pjS js (frzs js e)) ws)else .no:=by
 unfold compK compR;split
 ·cases compD cc d (pjS js (frzs js e)) ws<;>rfl
 ·rfl
noncomputable def compW(js:List Nat)(cc:Den Bool)(d:Den W)(e:List S):Option (List W)->R (List W)
 |some ws=>compK js cc d ws e
 |none=>.no
theorem y6d{di:Den W}:dComp js di cc d e=(di e).bind fun w e1=>compW js cc d e1 (seqW w):=by
 unfold dComp;congr 1
theorem y2i{g:List W->Option (List W)}{di:Den (List W)}:dCompR g js di cc d e=(di e).bind fun w e1=>compW js cc d e1 (g w):=by
 unfold dCompR;congr 1
theorem x7o:compW js cc d e (some ws)=compK js cc d ws e:=rfl
theorem x7p{out:List W}:compR e (some out)=.ok out e:=rfl
theorem z0k:dYes e=.ok true e:=rfl
theorem y2j:frzs [] e=e:=rfl
theorem x9n:frzs (j::js) e=frzs js (frz1 e j):=rfl
theorem y6e:pjS [] e=[]:=rfl
theorem y2k:pjS (j::js) e=pj1 e j::pjS js e:=rfl
theorem x32{g:W->W}:∀(ws:List W),(∀w∈ws,∃e',d (.fr w::pe)=.ok (g w) e')->compD dYes d pe ws=some (ws.map g)
 |[],_=>rfl
 |w::ws,h=>by
  obtain⟨e',he⟩:=h w (by simp);show(match d (.fr w::pe)with|.ok y _=>(compD dYes d pe ws).map (y::·)|_=>none)=_;rw[he,x32 ws fun u hu=>h u (by simp[hu])]
  rfl
theorem x9o:compD cc d pe (w::ws)=(match cc (.fr w::pe)with
  |.ok true e1=>(match d e1 with|.ok y _=>(compD cc d pe ws).map (y::·)|_=>none)
  |.ok false _=>compD cc d pe ws
  |_=>none):=rfl
end
section
variable{i j:Int}{b c:Bool}{us:List W}
theorem z0l:addW (.int i) (.int j)=some (.int (i+j)):=rfl
theorem z0m:addW (.str x) (.str y)=if x.length+y.length<=16777216 then some (.str (x++y))else none:=rfl
theorem z0n:addW (.lst ws) (.lst us)=if ws.length+us.length<=16777216 then some (.lst (ws++us))else none:=rfl
theorem z0o:subW (.int i) (.int j)=some (.int (i-j)):=rfl
theorem z0p:mulW (.int i) (.int j)=if(-18446744073709551616<i/\i<18446744073709551616)\/(-18446744073709551616<j/\j<18446744073709551616)then some (.int (i*j))else none:=rfl
theorem y6f:fdivW (.int i) (.int j)=if 0<j/\j<1073741824 then some (.int (i / j))else none:=rfl
theorem z0q:modW (.int i) (.int j)=if 0<j then some (.int (i%j))else none:=rfl
theorem z2y:ltW (.int i) (.int j)=some (.bl (decide (i<j))):=rfl
theorem z2z:leW (.int i) (.int j)=some (.bl (decide (i<=j))):=rfl
theorem z20:gtW (.int i) (.int j)=some (.bl (decide (j<i))):=rfl
theorem z21:geW (.int i) (.int j)=some (.bl (decide (j<=i))):=rfl
theorem z22:eq2 (.int i) (.int j)=some (.bl (decide (i=j))):=by
 show some (W.bl (i==j))=_;congr 2
theorem z23:eq2 (.str x) (.str y)=some (.bl (decide (x=y))):=by
 show some (W.bl (x==y))=_;congr 2
theorem z24:eq2 (.bl b) (.bl c)=some (.bl (decide (b=c))):=by
 show some (W.bl (b==c))=_;congr 2
theorem z25:ne2 (.int i) (.int j)=some (.bl (!decide (i=j))):=by
 show some (W.bl (!(i==j)))=_;congr 2
theorem z26:ne2 (.str x) (.str y)=some (.bl (!decide (x=y))):=by
 show some (W.bl (!(x==y)))=_;congr 2
theorem z27:ne2 (.bl b) (.bl c)=some (.bl (!decide (b=c))):=by
 show some (W.bl (!(b==c)))=_;congr 2
theorem ix_t:ixW (.tup ws) (.int i)=atI ws i:=rfl
theorem ix_l:ixW (.lst ws) (.int i)=atI ws i:=rfl
theorem z28:len1 [.tup ws]=some (.int ws.length):=rfl
theorem z29:len1 [.lst ws]=some (.int ws.length):=rfl
theorem z3a:tup1 [.lst ws]=some (.tup ws):=rfl
theorem z3b:tup1 [.tup ws]=some (.tup ws):=rfl
theorem z3c:lst1 [.lst ws]=some ws:=rfl
theorem z3d:lst1 [.tup ws]=some ws:=rfl
theorem z3e:truW (.bl b)=some b:=rfl
theorem z3f:truW (.int i)=some (i != 0):=rfl
theorem z3g:truW .non=some false:=rfl
theorem z3h:truW (.tup ws)=some (!ws.isEmpty):=rfl
theorem z3i:truW (.lst ws)=some (!ws.isEmpty):=rfl
theorem z3j:seqW (.tup ws)=some ws:=rfl
theorem z3k:seqW (.lst ws)=some ws:=rfl
theorem sc_i:scalW (.int i)=true:=rfl
theorem sc_b:scalW (.bl b)=true:=rfl
theorem sc_s:scalW (.str x)=true:=rfl
theorem sc_n:scalW .non=true:=rfl
theorem sl_l{lo hi:Option Int}:slW (.lst ws) lo hi=some (.lst (cutW ws lo hi)):=rfl
theorem at0{xs:List α}:atI xs 0=xs[0]?:=by
 cases xs with
 |nil=>rfl
 |cons a l=>exact q4u (j:=0) rfl
theorem at1{xs:List α}:atI xs 1=xs[1]?:=by
 cases xs with
 |nil=>rfl
 |cons a l=>
  cases l with
  |nil=>rfl
  |cons b l=>exact q4u (j:=1) rfl
theorem at2{xs:List α}:atI xs 2=xs[2]?:=by
 cases xs with
 |nil=>rfl
 |cons a l=>
  cases l with
  |nil=>rfl
  |cons b l=>
   cases l with
   |nil=>rfl
   |cons c l=>exact q4u (j:=2) rfl
theorem z0r{xs:List α}{k:Int}(h0:0<=k):atI xs k=xs[k.toNat]?:=by
 unfold atI ixN;rw[if_pos h0]
 by_cases h:k<xs.length
 ·rw[if_pos h];rfl
 ·rw[if_neg h];exact(w3b (by omega)).symm
theorem x33{a b:String}(h:Str.ofString a=Str.ofString b):a=b:=by
 rw[Str.ofString_eq_toList,Str.ofString_eq_toList]at h;have h1:(a.toList.map Char.toNat).toArray=(b.toList.map Char.toNat).toArray:=congrArg Str.cps h;have h2:a.toList.map Char.toNat=b.toList.map Char.toNat:=by simpa using congrArg Array.toList h1
 have h3:a.toList=b.toList:=by
  have inj:∀c d:Char,c.toNat=d.toNat->c=d:=fun c d e=>by
   apply Char.ext;exact UInt32.toNat_inj.mp e
  exact(List.map_inj_right inj).mp h2
 exact String.toList_inj.mp h3
theorem z0s{a b:String}:(Str.ofString a=Str.ofString b)=(a=b):=propext ⟨x33,fun h=>by rw[h]⟩
end
noncomputable def tuprevW:W->Option W
 |.lst ws=>some (.tup ws.reverse)
 |_=>none
noncomputable def boolsW:List W->Option (List Bool)
 |[]=>some []
 |.bl b::ws=>(boolsW ws).map (b::·)
 |_=>none
noncomputable def all1:List W->Option W
 |[.lst ws]=>(boolsW ws).map fun bs=>.bl (bs.all id)
 |_=>none
noncomputable def int1:List W->Option W
 |[.int i]=>some (.int i)
 |[.bl b]=>some (.int (if b then 1 else 0))
 |_=>none
noncomputable def eqS(y x:W):Bool:=(eqW y x).getD false
noncomputable def ninW:W->W->Option W
 |x,.tup ws=>if scalW x=true/\ws.all scalW=true then some (.bl (!ws.any fun y=>eqS y x))else none
 |x,.lst ws=>if scalW x=true/\ws.all scalW=true then some (.bl (!ws.any fun y=>eqS y x))else none
 |_,_=>none
theorem q8m(h:scalW w=true)(p:Rep K G w v):flatV v=true:=by
 cases w with
 |non=>cases p;rfl
 |bl b=>cases p;rfl
 |int b=>cases p;rfl
 |str b=>cases p;rfl
 |_=>cases h
theorem y6g{u:W}{x:V}(h:scalW w=true)(h':scalW u=true)(p:Rep K G w v)(q:Rep K G u x):eqV v x=eqS w u:=by
 cases w<;>cases u<;>first|(cases p;cases q;rfl)|exact absurd (show false=true from h') w0t|exact absurd (show false=true from h) w0t
theorem q9w{u:W}{x:V}(hu:scalW u=true)(q:Rep K G u x):∀{ws:List W}{xs:List V},ws.all scalW=true->Reps K G ws xs->xs.all flatV=true/\inV x xs=ws.any fun y=>eqS y u
 |[],xs,_,r=>by cases r;exact⟨rfl,rfl⟩
 |w::ws,xs,h,r=>by
  obtain⟨y,r',rfl,p,r⟩:=r;rw[w2p,w0s]at h;obtain⟨i1,i2⟩:=q9w hu q h.2 r;refine⟨by rw[w2p,q8m h.1 p,i1];rfl,?_⟩;show(eqV y x||inV x r')=(eqS w u||ws.any _);rw[y6g h.1 hu p q,i2]
theorem z0t:Op2 K (rIn K true) ninW:=by
 intro G H x y wx wy w Q s px py hf h;cases wy with
 |tup ws=>
  simp only[ninW]at hf;split at hf
  ·rename_i hc;cases hf;obtain⟨a,xs,rfl,ha,ra⟩:=py;obtain⟨i1,i2⟩:=q9w hc.1 px hc.2 ra;refine⟨a,xs,rfl,.inr (s.tup ha),q8m hc.1 px,i1,?_⟩;rw[i2];exact h G _ H (.refl s) rfl
  ·cases hf
 |lst ws=>
  simp only[ninW]at hf;split at hf
  ·rename_i hc;cases hf;obtain⟨a,xs,rfl,ha,ra⟩:=py;obtain⟨i1,i2⟩:=q9w hc.1 px hc.2 ra;refine⟨a,xs,rfl,.inl (s.seq ha),q8m hc.1 px,i1,?_⟩;rw[i2];exact h G _ H (.refl s) rfl
  ·cases hf
 |_=>simp[ninW]at hf
theorem q7p:∀{ws:List W}{bs:List Bool},boolsW ws=some bs->ws=bs.map .bl
 |[],bs,h=>by cases h;rfl
 |.bl b::ws,bs,h=>by
  obtain⟨cs,h1,rfl⟩:=w0f.mp (show(boolsW ws).map (b::·)=some bs from h);rw[q7p h1];rfl
 |.non::ws,bs,h=>by cases h
 |.int _::ws,bs,h=>by cases h
 |.str _::ws,bs,h=>by cases h
 |.tup _::ws,bs,h=>by cases h
 |.lst _::ws,bs,h=>by cases h
 |.exc _::ws,bs,h=>by cases h
theorem x2g:∀(bs:List Bool),boolsW (bs.map .bl)=some bs
 |[]=>rfl
 |b::bs=>by
  show(boolsW (bs.map W.bl)).map (b::·)=_;rw[x2g bs];rfl
theorem q7q:∀{bs:List Bool}{xs:List V},Reps K G (bs.map W.bl) xs->xs=bs.map V.bl
 |[],xs,h=>h
 |b::bs,xs,h=>by
  obtain⟨x,r,rfl,h1,h2⟩:=h;rw[q7q h2,show x=V.bl b from h1];rfl
theorem z0u:OpN K (fun xs H Q=>∃p ys,xs=[.ref p]/\SqL K H p ys/\(∀y∈ys,∃b,y=.bl b)/\Q (.bl (ys.all fun y=>decide (y=.bl true))) H) all1:=by
 intro G H xs ws w Q s pr hf h;unfold all1 at hf;split at hf
 ·obtain⟨bs,hb,rfl⟩:=w0f.mp hf;have:=q7p hb;subst this;obtain⟨x,r,rfl,px,pr⟩:=pr;cases(show r=[]from pr);obtain⟨a,ys,rfl,ha,ra⟩:=px;have:=q7q ra;subst this;refine⟨a,_,rfl,s.seq ha,fun y hy=>?_,h G _ H (.refl s) ?_⟩
  ·obtain⟨b,_,rfl⟩:=w1u.mp hy;exact⟨b,rfl⟩
  ·show V.bl _=V.bl _;congr 1;rw[w4r];congr 1;funext b
   cases b<;>rfl
 ·cases hf
theorem z0v:OpN K (fun xs H Q=>(∃i,xs=[.int i]/\Q (.int i) H)\/∃k,xs=[.bl k]/\Q (.int (if k then 1 else 0)) H) int1:=by
 intro G H xs ws w Q s pr hf h;unfold int1 at hf;split at hf
 ·cases hf;obtain⟨x,r,rfl,px,pr⟩:=pr;cases(show r=[]from pr);cases px;exact .inl ⟨_,rfl,h G _ H (.refl s) rfl⟩
 ·cases hf;obtain⟨x,r,rfl,px,pr⟩:=pr;cases(show r=[]from pr);cases px;exact .inr ⟨_,rfl,h G _ H (.refl s) rfl⟩
 ·cases hf
section
variable{a b c e:Expr}{p pos1 pos2:Pos}
theorem x9p(hu:X.A.units+150<cLine)(ha:DE Z X EE a da)(hb:DE Z X EE b db)(hm:behindInMarks .NotIn b=false:=by with_unfolding_all rfl):DT Z X EE (.Compare a [.NotIn] [b] pos) (dTest (dOp ninW da db)):=q6l x3r z0t ha hb hm
theorem x34(hc:X.calm=true)(hm:X.mg "all"=none)(ha:DA Z X EE [e] dA)(hg:Gl X "all":=by rfl)(he:starEach [e] X.env=(false,eval e X.env)::starEach [] X.env:=by rfl)(hpl:(backTo pos (starEach [] X.env)).any (·.1)=false:=by rfl):DE Z X EE (.Call (.Name "all" p) [e] [] pos) (dFn all1 dA):=
 q68 (y1s hc) z0u PyProof.Rows.Boot.«all» hm ha hg (by decide) (by decide) he hpl
theorem y6h(hm:X.mg "int"=none)(ha:DA Z X EE [e] dA)(hg:Gl X "int":=by rfl)(he:starEach [e] X.env=(false,eval e X.env)::starEach [] X.env:=by rfl)(hpl:(backTo pos (starEach [] X.env)).any (·.1)=false:=by rfl):DE Z X EE (.Call (.Name "int" p) [e] [] pos) (dFn int1 dA):=
 x82 x8p z0v PyProof.Rows.Boot.«int» hm ha hg (by decide) (by decide) he hpl
end
theorem y2l:tuprevW (.lst ws)=some (.tup ws.reverse):=rfl
theorem z3l{bs:List Bool}:all1 [.lst (bs.map .bl)]=some (.bl (bs.all id)):=by
 show(boolsW (bs.map W.bl)).map _=_;rw[x2g];rfl
theorem z3m{i:Int}:int1 [.int i]=some (.int i):=rfl
theorem z3n{b:Bool}:int1 [.bl b]=some (.int (if b then 1 else 0)):=rfl
theorem cast0:((0:Nat):Int)=0:=rfl
theorem cast1:((1:Nat):Int)=1:=rfl
theorem for_ix{i:Nat}{b:List S->SR}(I:Nat->List S->Prop):∀(ws:List W)(k:Nat)(e:List S),I k e->(∀(j:Nat)(w:W)(e:List S),ws[j]?=some w->I (k+j) e->∃e',b (e.set i (.fr w))=.nx e'/\I (k+j+1) e')->∃e',forD i b ws e=.nx e'/\I (k+ws.length) e'
 |[],k,e,h0,_=>⟨e,rfl,h0⟩
 |w::ws,k,e,h0,h=>by
  obtain⟨e1,h1,h2⟩:=h 0 w e rfl h0
  obtain⟨e2,h3,h4⟩:=for_ix I ws (k+1) e1 h2 fun j u e hu hI=>by
   have z:=h (j+1) u e (by simpa using hu) (by rw[show k+(j+1)=k+1+j by omega];exact hI);rw[show k+(j+1)+1=k+1+j+1 by omega]at z;exact z
  refine⟨e2,?_,?_⟩
  ·rw[q6o,h1,q81,h3]
  ·rw[w0v,show k+(ws.length+1)=k+1+ws.length by omega];exact h4
theorem q8n{hi:Int}:(rangeW lo hi).length=(hi-lo).toNat:=by simp[rangeW]
theorem x9q{hi:Int}(h:(rangeW lo hi)[j]?=some w):w=.int (lo+j)/\j<(hi-lo).toNat:=by
 unfold rangeW at h;rw[w0h]at h;obtain⟨k,h1,rfl⟩:=w0f.mp h;obtain⟨h2,h3⟩:=w0b.mp h1;simp at h2 h3;subst h3;exact⟨rfl,by omega⟩
theorem q7r{b:List S->SR}{hi:Int}(n:Nat)(hn:(hi-lo).toNat=n)(I:Nat->List S->Prop)(e:List S)(h0:I 0 e)(h:∀(j:Nat)(e:List S),j<n->I j e->∃e',b (e.set i (.fr (.int (lo+j))))=.nx e'/\I (j+1) e'):∃e',forD i b (rangeW lo hi) e=.nx e'/\I n e':=by
 obtain⟨e',h1,h2⟩:=for_ix (b:=b) (i:=i) I (rangeW lo hi) 0 e h0 fun j w e hw hI=>by
  obtain⟨rfl,hj⟩:=x9q hw;rw[w3j]at hI |-
  exact h j e (by omega) hI
 rw[q8n,hn,w3j]at h2;exact⟨e',h1,h2⟩
mutual
noncomputable def conIn(K:PySem.W.Frag):W->Value->Bool
 |.non,u=>match u with|.none=>true|_=>false
 |.bl b,u=>match u with|.bool c=>b==c|_=>false
 |.int i,u=>match u with|.int j _=>decide (i=j)|_=>false
 |.str x,u=>match u with|.str y _=>decide (x=y)|_=>false
 |.tup ws,u=>match u with
  |.ref a=>match K.lookup a with
   |some o=>(o.cls==.type "tuple"&&o.dict.isNone)&&(match o.data with|.seq its _=>Nat.ble its.size 1000000&&consIn K ws its.toList|_=>false)
   |none=>false
  |_=>false
 |.lst _,_=>false
 |.exc _,_=>false
 |.dic _,_=>false
 |.dw _ _ _ _,_=>false
 |.fn _ _ _,_=>false
noncomputable def consIn(K:PySem.W.Frag):List W->List Value->Bool
 |[],us=>us.isEmpty
 |w::ws,us=>match us with
  |u::us=>conIn K w u&&consIn K ws us
  |[]=>false
end
mutual
theorem x6a{K:PySem.W.Frag}:∀(w:W){u:Value},conIn K w u=true->∃v,RelV v u/\∀G,Rep K G w v
 |.non,u,h=>by
  unfold conIn at h;split at h
  ·exact⟨.non,rfl,fun _=>rfl⟩
  ·cases h
 |.bl b,u,h=>by
  unfold conIn at h;split at h
  ·rename_i c;have:b=c:=by simpa using h
   exact⟨.bl b,by rw[this];rfl,fun _=>rfl⟩
  ·cases h
 |.int i,u,h=>by
  unfold conIn at h;split at h
  ·rename_i j t;have:i=j:=by simpa using h
   exact⟨.int i,⟨t,by rw[this]⟩,fun _=>rfl⟩
  ·cases h
 |.str x,u,h=>by
  unfold conIn at h;split at h
  ·rename_i y t;have:x=y:=by simpa using h
   exact⟨.str x,⟨t,by rw[this]⟩,fun _=>rfl⟩
  ·cases h
 |.tup ws,u,h=>by
  unfold conIn at h;split at h
  ·rename_i a;split at h
   ·rename_i o ho;rw[w0s]at h;obtain⟨h1,h2⟩:=h;split at h2
    ·rename_i its n hd;rw[w0s]at h2;obtain⟨h3,h4⟩:=h2;obtain⟨xs,r,q⟩:=x35 ws h4;exact⟨.ref a,rfl,fun G=>⟨a,xs,rfl,.inr ⟨o,its,n,ho,by simpa using ((w0s _ _).mp h1).1,Option.isNone_iff_eq_none.mp ((w0s _ _).mp h1).2,hd,by rw[sizeLine_eq];have:=w3x h3;omega,r⟩,q G⟩⟩
    ·cases h2
   ·cases h
  ·cases h
 |.lst _,u,h=>by unfold conIn at h;cases h
 |.exc _,u,h=>by unfold conIn at h;cases h
 |.dic _,u,h=>by unfold conIn at h;cases h
 |.dw _ _ _ _,u,h=>by unfold conIn at h;cases h
 |.fn _ _ _,u,h=>by unfold conIn at h;cases h
theorem x35{K:PySem.W.Frag}:∀(ws:List W){us:List Value},consIn K ws us=true->∃xs,Vals xs us/\∀G,Reps K G ws xs
 |[],us,h=>by
  unfold consIn at h;cases us with
  |nil=>exact⟨[],.nil,fun _=>rfl⟩
  |cons _ _=>cases h
 |w::ws,us,h=>by
  unfold consIn at h;cases us with
  |nil=>cases h
  |cons u us=>
   rw[w0s]at h;obtain⟨v,r,q⟩:=x6a w h.1;obtain⟨xs,r',q'⟩:=x35 ws h.2;exact⟨v::xs,.cons r r',fun G=>⟨v,xs,rfl,q G,q' G⟩⟩
end
theorem z0w(hm:X.mg x=some u)(hc:conIn X.K w u=true)(hg:Gl X x:=by rfl)(hd:(x==("__debug__":Str))=false:=by decide):DE Z X EE (.Name x pos) (dC w):=by
 obtain⟨v,r,q⟩:=x6a w hc;exact PE.mono (pe_glob hg hm r hd) fun σ H Q ⟨G,e,rel,h⟩=>h G v H rel (.refl _) (q G)
noncomputable def dPut(i:Nat)(dv dk:Den W):List S->SR:=fun e=>(dv e).stm fun w e1=>match e1[i]? with
 |some (.own _ _)=>(dk e1).stm fun k e2=>match k,e2[i]? with
  |.int k,some (.own b ws)=>match ixN ws.length k with
   |some j=>.nx (e2.set i (.own b (ws.set j w)))
   |none=>.no
  |_,_=>.no
 |_=>.no
section
variable{e k:Expr}{p tpos:Pos}
theorem x9r(i:Nat)(he:DE Z X EE e d)(hk:DE Z X EE k dk)(hN:X.N[i]?=some x:=by rfl)(hv:Vis X.env.scope x:=by walk_at "1")(hd:(x==("__debug__":Str))=false:=by decide)(hcd:(x==("__classdict__":Str))=false:=by decide)
  (ha:∀v,assign (.Subscript (.Name x p) k tpos) X.env v=(do
   let ov <- holding [v] (eval (.Name x p) X.env)
   let iv <- holding [v,ov] (eval k X.env)
   standAt tpos
   holding [v,ov,iv] (setItem ov iv v)
   release [v,ov,iv] []):=by intro _;rfl)
  (hs:swapsWithSole [.Subscript (.Name x p) k tpos] e pos.line X.env=pure false:=by rfl)(hw:swappedStores [.Subscript (.Name x p) k tpos] e X.env=pure none:=by rfl)
  (h1:(assignEach [.Subscript (.Name x p) k tpos] X.env).map (·.2)=[assign (.Subscript (.Name x p) k tpos) X.env]:=by rfl):
  DS Z X EE (.Assign [.Subscript (.Name x p) k tpos] e pos) (dPut i d dk):=by
 refine PS.mono (y8n he (y8m (pv i hN hv hd hcd) hk y1n ha) hs hw h1) ?_;rintro D σ H ⟨G,e,rel,h⟩;refine⟨G,e,rel,(q1f h).imp (fun w e1 h G1 v1 H1 r1 s1 p1=>?_) fun _ _ h=>h⟩
 split at h
 ·rename_i b0 ws0 he0;obtain⟨a,xs,q1,q2,q3,q4,q5⟩:=r1.own he0;refine⟨.ref a,q1,G1,e1,r1,(q1f (σ:=σ) h).imp (fun kw e2 h G2 v2 H2 r2 s2 p2=>?_) fun _ _ h G' H' r s=>h G' H' r (s1.trans s)⟩
  ·split at h
   ·rename_i kk b ws he2;obtain⟨a',zs,g1,g2,g3,g4,g5⟩:=r2.own he2;rw[q1]at g1;cases g1;cases p2;split at h
    ·rename_i j hj;refine⟨a,zs,_,j,rfl,rfl,g2,by rw[g5.length];exact hj,?_⟩;exact h G2 σ _ (r2.mut he2 q1 (g5.set j (Rep.mono s2 w p1))) (s1.trans s2)
    ·exact h.elim
   ·exact h.elim
 ·exact h.elim
end
def OpM(K:PySem.W.Frag)(r:V->List V->Hp->VK->Prop)(f:W->List W->Option W):Prop:=∀(G H:Hp)(x:V)(xs:List V)(wx:W)(ws:List W)(w:W)(Q:VK),Same G H->Rep K G wx x->Reps K G ws xs->f wx ws=some w->(∀G' v H',Grow G H G' H'->Rep K G' w v->Q v H')->r x xs H Q
noncomputable def kindW(T:String):W->Bool
 |.str _=>T=="str"
 |.lst _=>T=="list"
 |_=>false
noncomputable def dMeth(T:String)(f:W->List W->Option W)(d:Den W)(dA:Den (List W)):Den W:=fun e=>(d e).bind fun x e1=>if kindW T x=true then(dA e1).bind fun ws e2=>ofOpt (f x ws) e2 else .no
section
variable{o e:Expr}{p:Pos}
theorem x6b{id:String}{name:Str}{r:V->List V->Hp->VK->Prop}{f:W->List W->Option W}(pa:PlainAttrs T)(slot:Slot T name id)(hty:typeOf (.builtin id)=pure (.type "method_descriptor"))(hm:MtR X id r)(hf:OpM X.K r f)(ho:DE Z X EE o d)(ha:DA Z X EE (e::es) dA)
  (hbase:attributeBase o name X.env (eval o X.env)=eval o X.env:=by rfl)
  (hfew:((backTo cpos (starEach (e::es) X.env)).all (fun x=>!x.1)&&(backToKw cpos (keywordEach [] X.env)).all (fun x=>x.1.isSome)&&decide ((e::es).length+([]:List Keyword).length+(if([]:List Keyword).isEmpty then 0 else 1)<30))=true:=by rfl)
  (hline:(apos.endLine==cpos.line)=true:=by rfl)(hs:starEach (e::es) X.env=(false,eval e X.env)::starEach es X.env:=by rfl)(hplain:(backTo cpos (starEach es X.env)).any (·.1)=false:=by rfl):
  DE Z X EE (.Call (.Attribute o name apos) (e::es) [] cpos) (dMeth T f d dA):=by
 refine PE.mono (y36 pa slot hty hm ho ha hbase hfew hline hs hplain) ?_;rintro σ H Q ⟨G,e,rel,h⟩;simp only[dMeth,R.holds_bind]at h;refine⟨G,e,rel,h.imp (fun wx e1 h G1 v1 H1 r1 s1 p1=>?_) fun _ _ h=>h⟩
 split at h
 ·rename_i hk;refine⟨?_,G1,e1,r1,(R.holds_bind.mp h).imp (fun ws e2 h G2 vs H2 r2 s2 p2=>?_) fun _ _ h=>XH.trans s1 h⟩
  ·cases wx with
   |str z=>cases p1;exact(by simpa [kindW]using hk:T="str")
   |lst ws=>
    obtain⟨a,xs,rfl,q,_⟩:=p1;exact .inl ⟨by simpa [kindW]using hk,xs,r1.sub.seq q⟩
   |_=>cases hk
  ·obtain⟨w,hw,h⟩:=ofOpt_holds.mp h;exact hf G2 H2 v1 vs wx ws w Q r2.sub (Rep.mono s2 wx p1) p2 hw fun G' v H' g p=>h G' v H' (r2.grow g) ((s1.trans s2).trans g.gg) p
 ·exact h.elim
end
structure TabK(P:Program)(w:World)(K:PySem.W.Frag)(d:Addr)(tb:List (Str×Int)):Prop where
 tab:∀h,K.In h->PyProof.Rows.StrTab P w h d (PySem.W.kdpD tb)
 obj:∃o,K.lookup d=some o/\o.cls=.type "dict" /\ o.dict=none
noncomputable def putC(i:Nat)(e:List S)(b:Option Nat)(ws:List W)(w:W):Option Nat->SR
 |some j=>.nx (e.set i (.own b (ws.set j w)))
 |none=>.no
noncomputable def putB(i:Nat)(e:List S)(w:W):W->Option S->SR
 |.int k,some (.own b ws)=>putC i e b ws w (ixN ws.length k)
 |_,_=>.no
noncomputable def putA(i:Nat)(dk:Den W)(w:W)(e:List S):Option S->SR
 |some (.own _ _)=>(dk e).stm fun k e2=>putB i e2 w k e2[i]?
 |_=>.no
theorem z0x{dv:Den W}:dPut i dv dk e=(dv e).stm fun w e1=>putA i dk w e1 e1[i]?:=by
 unfold dPut;congr 1
theorem y2m:putA i dk w e (some (.own b ws))=(dk e).stm fun k e2=>putB i e2 w k e2[i]?:=rfl
theorem y2n{k:Int}:putB i e w (.int k) (some (.own b ws))=putC i e b ws w (ixN ws.length k):=rfl
theorem x9s:putC i e b ws w (some j)=.nx (e.set i (.own b (ws.set j w))):=rfl
noncomputable def extB(i:Nat)(e:List S)(b:Option Nat)(xs:List W):Option (List W)->SR
 |some ys=>if xs.length+ys.length<=16777216 then .nx (e.set i (.own b (xs++ys)))else .no
 |none=>.no
theorem x9t{xs ys:List W}:extB i e b xs (some ys)=if xs.length+ys.length<=16777216 then .nx (e.set i (.own b (xs++ys)))else .no:=rfl
theorem y6i{f:W->List W->Option W}:dMeth T f d dA e=(d e).bind fun x e1=>if kindW T x=true then(dA e1).bind fun ws e2=>ofOpt (f x ws) e2 else .no:=rfl
theorem z0y{z:Str}:kindW "str" (.str z)=true:=rfl
theorem z0z:kindW "list" (.lst ws)=true:=rfl
noncomputable def compP(c:Den Bool)(d:Den W)(pe:List S):List (W×W)->Option (List W)
 |[]=>some []
 |p::ps=>match c (.fr p.1::.fr p.2::pe)with
  |.ok true e1=>match d e1 with
   |.ok y _=>(compP c d pe ps).map (y::·)
   |_=>none
  |.ok false _=>compP c d pe ps
  |_=>none
noncomputable def compPK(js:List Nat)(c:Den Bool)(d:Den W)(ps:List (W×W))(e1:List S):R (List W):=
 if ps.length<=16777216 then(match compP c d (pjS js (frzs js e1)) ps with
  |some out=>.ok out (frzs js e1)
  |none=>.no)else .no
noncomputable def dCompP(js:List Nat)(di:Den (List (W×W)))(c:Den Bool)(d:Den W):Den (List W):=fun e=>(di e).bind fun ps e1=>compPK js c d ps e1
structure Walk2(K:PySem.W.Frag)(G1:Hp)(J:It)(ps:List (W×W)):Prop where
 go:∀(i:Nat)(G H:Hp),Same G1 G->Same G H->i<ps.length->J.go i H
 yld:∀(i:Nat)(G H:Hp)(x:V)(H':Hp),Same G1 G->Same G H->J.yld i H x H'->∀u v,ps[i]?=some (u,v) ->
  Grow G H G H'/\∀(m n:Nat)(σ:St)(Q:St->Hp->Prop),(∀y z,Rep K G u y->Rep K G v z->Q ((σ.set m (some y)).set n (some z)) H')->gTup K 2 (gCons (gName m) (gCons (gName n) gNil)) x σ H' Q
 stop:∀(i:Nat)(G H:Hp),Same G1 G->Same G H->ps.length<=i->J.stop i H
def liftI(K:PySem.W.Frag)(Z:Zt)(EE:L2.St->XK)(d:Den (List (W×W))):TI:=fun σ H R=>AtG K Z σ H fun G e=>(d e).holds (fun ps e1=>∀G1 H1 J,Rel K Z G1 σ H1 e1->Same G G1->Walk2 K G1 J ps->R J H1) (XH K Z EE σ G)
def DI(Z:Zt)(X:Cx)(EE:L2.St->XK)(tg iter:Expr)(d:Den (List (W×W))):Prop:=PI X tg iter (liftI X.K Z EE d)
theorem PI.mono{tg iter:Expr}{wi wi':TI}(h:PI X tg iter wi)(m:∀σ H R,wi' σ H R->wi σ H R):PI X tg iter wi':=fun pins s σ H R I q=>h pins s σ H R I (m σ H R q)
theorem x7q{k:Nat}{p:W×W}(h:ps[k]?=some p):ps.drop k=p::ps.drop (k+1):=by
 obtain⟨h1,h2⟩:=w0b.mp h;rw[w3m h1,h2]
theorem Rel.block2(r:Rel K Z G σ H e)(js:List Nat){u:W}{y x:V}(q:Rep K G u y)(p:Rep K G w x):Rel K ⟨H,G,[]⟩ G (some y::some x::pj js σ) H (.fr u::.fr w::pjS js e):=by
 have b:=r.block js p
 have hfr:∀(i:Nat)(s:S),(S.fr w::pjS js e)[i]?=some s->s=.no\/∃u,s=.fr u:=fun i s h=>by
  cases i with
  |zero=>cases h;exact .inr ⟨w,rfl⟩
  |succ k=>
   rw[w0o]at h;unfold pjS at h;rw[w0h]at h;obtain⟨j,h1,h2⟩:=w0f.mp h;unfold pj1 at h2;split at h2
   ·subst h2;exact .inr ⟨_,rfl⟩
   ·subst h2;exact .inl rfl
 refine⟨b.sub,fun i s h=>?_,?_,fun i j b1 b2 w1 w2 a h1 h2 _ _=>?_,b.ent,b.ion,b.gen⟩
 ·cases i with
  |zero=>cases h;exact⟨y,rfl,q⟩
  |succ i=>
   rw[w0o]at h;have z:=b.slot i s h;rcases hfr i s h with rfl|⟨u',rfl⟩
   ·trivial
   ·obtain⟨v,z1,z2⟩:=b.fr h;exact⟨v,by rw[w0o,z1];rfl,z2⟩
 ·have:=b.len;simp only[w0v]at this |-
  omega
 ·cases i with
  |zero=>cases h1
  |succ i=>
   rw[w0o]at h1;rcases hfr i _ h1 with z|⟨u',z⟩<;>cases z
theorem y2o{J:It}{out:List W}{Q:VK}{G0 H1:Hp}{e1:List S}(W0:Walk2 K G1 J ps)(r1:Rel K Z G1 σ H1 e1)(s1:Same G0 G1)(hl:ps.length<=16777216)
  (hz:∀p,H1 p=none->p∉Z.io)(hc:compP c d (pjS js e1) ps=some out)
  (h:∀G' a xs H',Rel K Z G' σ H' e1->Same G0 G'->H' a=some (.lst xs)->G' a=none->Z.H a=none->Free σ e1 a->Reps K G' out xs->Q (.ref a) H'):
  ∀D,H1 D=none->∃W:Nat->Nat->Hp->Prop,(∃m,W 0 m (upd H1 D (.lst [])))/\∀i m H2,W i m H2 ->
   (J.stop i H2/\Q (.ref D) H2)\/(J.go i H2/\∀x H3,J.yld i H2 x H3->gTup K 2 (gCons (gName 0) (gCons (gName 1) gNil)) x (List.replicate 2 none++pj js σ) H3 fun σ4 H4=>Kp (List.replicate 2 none++pj js σ) σ4/\cT K c σ4 H4 fun b H5=>
    if b=true then cE K d σ4 H5 fun y H6=>∃ys,H6 D=some (.lst ys)/\ys.length<sizeLine/\∃m',m'<m/\W (i+1) m' (upd H6 D (.lst (ys++[y])))else ∃m',m'<m/\W (i+1) m' H5):=by
 intro D hD
 refine⟨fun i m H2=>m=ps.length-i/\i<=ps.length/\∃G2 ys done rest,Rel K Z G2 σ H2 e1/\Same G1 G2/\H2 D=some (.lst ys)/\G2 D=none/\Reps K G2 done ys/\done.length<=i/\compP c d (pjS js e1) (ps.drop i)=some rest/\done++rest=out,
  ⟨ps.length,by omega,w1i _,G1,[],[],out,r1.grow (Grow.hid r1.sub hD _),.refl _,q0h,r1.sub.free hD,rfl,w0e _,hc,rfl⟩,?_⟩
 rintro i m H2 ⟨rfl,hi,G2,ys,done,rest,r2,s2,hd2,hg2,rp2,hdl,hc2,ho⟩;have hfree:Free σ e1 D:=q7n r1 hD;have hzh:Z.H D=none:=q4c r1 hD
 by_cases hlt:i<ps.length
 ·refine .inr ⟨W0.go i G2 H2 s2 r2.sub hlt,fun x H3 hy=>?_⟩
  have hp:ps[i]?=some ((ps[i]).1,(ps[i]).2):=by rw[w0a hlt]
  obtain⟨g3,hgo⟩:=W0.yld i G2 H2 x H3 s2 r2.sub hy _ _ hp;have r2':=r2.grow g3;have hd3:H3 D=some (.lst ys):=g3.hh _ _ hd2;rw[x7q hp]at hc2;refine hgo 0 1 _ _ fun yv zv py pz=>⟨Kp.two,⟨H3,G2,[]⟩,G2,.fr (ps[i]).1::.fr (ps[i]).2::pjS js e1,r2'.block2 js py pz,?_⟩
  unfold compP at hc2;cases qc:c (.fr (ps[i]).1::.fr (ps[i]).2::pjS js e1)with
  |no=>rw[qc]at hc2;cases hc2
  |ex _ _=>rw[qc]at hc2;cases hc2
  |ok k e2=>
   rw[qc]at hc2;intro G3 H5 r3 s3;have g3:=r3.toGrow s3;cases k with
   |false=>
    exact⟨ps.length-(i+1),by omega,rfl,hlt,G3,ys,done,rest,r2'.grow g3,s2.trans s3,g3.hh _ _ hd3,by rw[g3.new D (by rw[hd3];simp)];exact hg2,Reps.mono s3 _ rp2,by omega,hc2,ho⟩
   |true=>
    refine⟨⟨H3,G2,[]⟩,G3,e2,r3,?_⟩;dsimp only at hc2;cases qd:d e2 with
    |no=>rw[qd]at hc2;cases hc2
    |ex _ _=>rw[qd]at hc2;cases hc2
    |ok y e3=>
     rw[qd]at hc2;intro G4 v H6 r4 s4 p4;have g4:=r4.toGrow (s3.trans s4);obtain⟨rest',hr,rfl⟩:=w0f.mp hc2;have hd6:H6 D=some (.lst ys):=g4.hh _ _ hd3;have hg6:G4 D=none:=by rw[g4.new D (by rw[hd3];simp)];exact hg2
     refine⟨ys,hd6,?_,ps.length-(i+1),by omega,rfl,hlt,G4,ys++[v],done++[y],rest',(r2'.grow g4).mutFree hg6 hzh (hz D hD) hfree hd6,s2.trans (s3.trans s4),q0h,hg6,(Reps.mono (s3.trans s4) _ rp2).append (.one p4),by simp;omega,hr,by rw[w1h];exact ho⟩;rw[rp2.length,sizeLine_eq];omega
 ·have:i=ps.length:=by omega
  subst this;rw[w3r]at hc2;cases hc2;rw[w1n]at ho;subst ho;exact .inl ⟨W0.stop _ G2 H2 s2 r2.sub (by omega),h G2 D ys H2 r2 (s1.trans s2) hd2 hg2 hzh hfree rp2⟩
section
variable{elt iter e a:Expr}{body:List Stmt}{ifs:List Expr}{scope sc:Scope}{pt p3:Pos}{Nf N:List Str}{di:Den (List (W×W))}{d0:Den W}{s1:List S->SR}
theorem x7r:∀σ H Q,liftF K Z EE (dCompP js di c d) σ H Q->tComp (liftI K Z EE di) 2 js (gTup K 2 (gCons (gName 0) (gCons (gName 1) gNil))) (cT K c) (cE K d) σ H Q:=by
 rintro σ H Q ⟨G,e,rel,h⟩;simp only[dCompP,R.holds_bind]at h;refine⟨G,e,rel,h.imp (fun ps e1 h G1 H1 J r1 s1 W0=>?_) fun _ _ h=>h⟩
 unfold compPK at h;split at h
 ·rename_i hl;split at h
  ·rename_i out ho;obtain⟨G2,s2,r2⟩:=r1.frzs js;have W1:Walk2 K G2 J ps:=⟨fun i G H a=>W0.go i G H (s2.trans a),fun i G H x H' a=>W0.yld i G H x H' (s2.trans a),fun i G H a=>W0.stop i G H (s2.trans a)⟩
   exact y2o W1 r2 (s1.trans s2) hl (ionone r2) ho h
  ·exact h.elim
 ·exact h.elim
theorem q9x(hc:X.calm=true)(hi:DI Z X EE (.Tuple [.Name x p1,.Name y p2] kt p3) iter di)(ok:compOk sc scope N Nf js=true)
  (ht:∀Z' cl C s₀ H₀ ex,DTs Z' (X.cp ([x,y]++Nf) scope cl C s₀ H₀ ex) (fun _=>E0) ifs c)(he:∀Z' cl C s₀ H₀ ex,DE Z' (X.cp ([x,y]++Nf) scope cl C s₀ H₀ ex) (fun _=>E0) elt d)
  (hg:∀cl C s₀ H₀ ex,PG (X.cp ([x,y]++Nf) scope cl C s₀ H₀ ex) (.Tuple [.Name x p1,.Name y p2] kt p3) (gTup X.K 2 (gCons (gName 0) (gCons (gName 1) gNil))))
  (hsc:X.env.scope=sc:=by rfl)(hN:X.N=N:=by rfl)(hs:∀x,foldedSetIterable iter X.env x=pure x:=by intro _;rfl):
  DF Z X EE (.ListComp elt [⟨.Tuple [.Name x p1,.Name y p2] kt p3,iter,ifs,0⟩] scope pos) (dCompP js di c d):=by
 exact PE.mono (q9p (Nl:=[x,y]) (tc:=cT X.K c) (te:=cE X.K d) hc hi ok hg (x0k ht) (x0l he) hsc hN hs) x7r
noncomputable def pairsW:List W->Option (List (W×W))
 |[]=>some []
 |.tup [u,v]::ws=>(pairsW ws).map ((u,v)::·)
 |_=>none
noncomputable def srcP(d:Den W):Den (List (W×W)):=fun e=>(d e).bind fun w e1=>match seqW w with
 |some ws=>ofOpt (pairsW ws) e1
 |none=>.no
theorem x2h:∀{ws:List W}{ps:List (W×W)},pairsW ws=some ps->ws.length=ps.length/\∀(i:Nat) u v,ps[i]?=some (u,v)->ws[i]?=some (.tup [u,v])
 |[],ps,h=>by cases h;exact⟨rfl,fun i u v z=>by simp at z⟩
 |w::ws,ps,h=>by
  unfold pairsW at h;split at h
  ·rename_i z;cases z
  ·rename_i u v ws' z;cases z;obtain⟨q,hq,rfl⟩:=w0f.mp h;obtain⟨h1,h2⟩:=x2h hq;refine⟨by simp[h1],fun i u' v' z=>?_⟩
   cases i with
   |zero=>simp at z;simp[z.1,z.2]
   |succ i=>simp only[w0o]at z |-;exact h2 i _ _ z
  ·cases h
theorem x2i{J:It}{SQ:Hp->Prop}(W0:Walk J xs SQ)(rp:Reps K G1 ws xs)(hp:pairsW ws=some ps)(hSQ:∀G' H',Same G1 G'->Same G' H'->SQ H'):Walk2 K G1 J ps:=by
 obtain⟨hl,hg⟩:=x2h hp;have hx:=rp.length;refine⟨fun i G H a b h=>W0.go i H (hSQ G H a b) (by omega),fun i G H x H' a b hy u v h=>?_,fun i G H a b h=>W0.stop i H (hSQ G H a b) (by omega)⟩
 have hlt:i<ps.length:=(w0b.mp h).1;obtain⟨rfl,hx'⟩:=W0.yld i H x H' (hSQ G H a b) hy (by omega);refine⟨Grow.refl b,fun m n σ Q hQ=>?_⟩
 obtain⟨w,hw,pw⟩:=rp.getV hx';rw[hg i u v h]at hw;cases hw;have pw:=Rep.mono a _ pw;obtain⟨c,ys,rfl,hq,y1,q1,rfl,p1,y2,q2,rfl,p2,rfl⟩:=pw;exact⟨c,[y1,y2],rfl,b.tup hq,rfl,y1,[y2],rfl,y2,[],rfl,rfl,hQ y1 y2 p1 p2⟩
theorem q9y{tg l:Expr}(hl:DE Z X EE l d0):DI Z X EE tg l (srcP d0):=by
 refine PI.mono (x0i hl) ?_;rintro σ H RR ⟨G,e,rel,h⟩;simp only[srcP,R.holds_bind]at h;refine⟨G,e,rel,h.imp (fun w e1 h G1 v1 H1 r1 s1 p1=>?_) fun _ _ h=>h⟩
 split at h
 ·rename_i ws hw;obtain⟨ps,hp,h⟩:=ofOpt_holds.mp h;cases w with
  |tup us=>
   cases hw;obtain⟨a,xs,rfl,hq,rp⟩:=p1;exact⟨a,rfl,.inr ⟨⟨xs,r1.sub.tup hq⟩,h _ _ _ r1 s1 (x2i x89 rp hp fun G' H' s s'=>Same.tup s' (Same.tup s hq))⟩⟩
  |lst us=>
   cases hw;obtain⟨a,xs,rfl,hq,rp⟩:=p1;exact⟨a,rfl,.inl ⟨⟨xs,r1.sub.seq hq⟩,h _ _ _ r1 s1 (x2i x88 rp hp fun G' H' s s'=>Same.seq s' (Same.seq s hq))⟩⟩
  |_=>cases hw
 ·exact h.elim
end
theorem x36{p3:Pos}(hN:X.N.Nodup)(hc:X.calm=true)
  (hi:X.N[0]?=some x:=by rfl)(hx:Loc X.env.scope x:=by walk_at "3")(hf:X.fn x=true\/X.env.scope.names.lookup x=some .local:=by walk_at "2")
  (hj:X.N[1]?=some y:=by rfl)(hy:Loc X.env.scope y:=by walk_at "3")(hf':X.fn y=true\/X.env.scope.names.lookup y=some .local:=by walk_at "2")
  (hn:(assignEach [.Name x p1,.Name y p2] X.env).length=2:=by rfl)(hst:(assignEach [.Name x p1,.Name y p2] X.env).findIdx? (·.1)=none:=by rfl)
  (g1:(assignEach [.Name x p1,.Name y p2] X.env).map (·.2)=assign (.Name x p1) X.env::(assignEach [.Name y p2] X.env).map (·.2):=by rfl)(g2:(assignEach [.Name y p2] X.env).map (·.2)=assign (.Name y p2) X.env::(assignEach [] X.env).map (·.2):=by rfl):
  PG X (.Tuple [.Name x p1,.Name y p2] kt p3) (gTup X.K 2 (gCons (gName 0) (gCons (gName 1) gNil))):=
 y8l hc (x3n (q29 0 hN hi hx hf) (x3n (q29 1 hN hj hy hf') y4m g2) g1) hn hst
section
variable{di:Den (List (W×W))}{b:List S->SR}{c:Prop} [Decidable c]{s t:SR}{k:List S->SR}{v:Value}{st:S}
noncomputable def srcPW(e:List S):Option (List W)->R (List (W×W))
 |some ws=>ofOpt (pairsW ws) e
 |none=>.no
theorem z00:srcP d e=(d e).bind fun w e1=>srcPW e1 (seqW w):=by
 unfold srcP;congr 1
theorem x7s:srcPW e (some ws)=ofOpt (pairsW ws) e:=rfl
theorem y2p:compPK js cc d ps e=if ps.length<=16777216 then compR (frzs js e) (compP cc d (pjS js (frzs js e)) ps)else .no:=by
 unfold compPK compR;split
 ·cases compP cc d (pjS js (frzs js e)) ps<;>rfl
 ·rfl
theorem y2q:dCompP js di cc d e=(di e).bind fun ps e1=>compPK js cc d ps e1:=rfl
theorem x7t{p:W×W}:compP cc d pe (p::ps)=(match cc (.fr p.1::.fr p.2::pe)with
  |.ok true e1=>(match d e1 with|.ok y _=>(compP cc d pe ps).map (y::·)|_=>none)
  |.ok false _=>compP cc d pe ps
  |_=>none):=rfl
end
theorem x9u(l:Addr)(items:Array Value)(n:Nat)(x:Int)(u:Tok)(dd:Option Addr)(sl:Array (Option Value))(hc0:¬(!Builtin.List.listFitsIndex x)=true)(hc1:¬items.size*x.toNat>(2^63-1) / 8)(hc2:¬Builtin.List.listTooLong (items.size*x.toNat)=true):
  Meets (Builtin.«list.__mul__» ⟨[.ref l,.int x u],[]⟩) (fun _ R s=>s.heap.get? l=some {cls:=.type "list", dict:=dd,data:=.seq items n,slots:=sl}/\R (.ok (.ret (Value.ref s.heap.objs.size))) {s with heap:=s.heap.push {cls:=Value.type "list", data:=Data.seq (List.foldl (fun x1 x2=>x1++x2) #[] (List.replicate (if items.isEmpty=true then 0 else x.toNat) items))},toks:=s.toks}):=
 .of_wp fun prog w A R s h=>by
  obtain⟨hp,g,d,tk,os⟩:=s;obtain⟨hl,h⟩:=h;have hsz:=PySem.AutoListH.joined_fits hc2
  wp_walk;refine wpAny_ite_false (decide_eq_false (w4c.mpr hsz)) ?_;wp_walk;exact⟨_,rfl,h⟩
theorem x9v(a:Int)(t:Tok)(l:Addr)(items:Array Value)(n:Nat)(dd:Option Addr)(sl:Array (Option Value)):
  Meets (Builtin.«int.__rmul__» ⟨[.int a t,.ref l],[]⟩) (fun _ R s=>s.heap.get? l=some {cls:=.type "list", dict:=dd,data:=.seq items n,slots:=sl}/\R (.ok (.ret Value.notImplemented)) s):=
 .of_wp fun prog w A R s h=>by obtain⟨hp,g,d,tk,os⟩:=s;obtain⟨hl,h⟩:=h;wp_walk;exact⟨_,rfl,h⟩
def rRepS(K:PySem.W.Frag):R2:=fun x y H Q=>∃l k xs,x=.ref l/\y=.int k/\SqL K H l xs/\-(2^63)<=k/\k<2^63/\xs.length*k.toNat<=sizeLine /\
 ∀p,H p=none->Q (.ref p) (upd H p (.lst (List.replicate k.toNat xs).flatten))
theorem y6j:OpR X (binaryOp .Mult) (rRepS X.K):=by
 intro pins s σ H x y v u Q I rx ry h;obtain⟨l,k,xs,rfl,rfl,hH,h1,h2,hz,q⟩:=h;cases rx;obtain⟨t,rfl⟩:=ry;obtain⟨its,r,p1,_⟩:=I.list hH;obtain⟨⟨cls,dd,data,sl⟩,ho,hc,n,hd⟩:=id p1.isList;simp only at hc hd;subst hc hd;have hl:=r.length;have hlen:its.toArray.size*k.toNat<=sizeLine:=by rw[w0d,<- hl];exact hz
 have hcap:¬its.toArray.size*k.toNat>(2^63-1) / 8:=by
  have:(sizeLine:Nat)<=(2^63-1) / 8:=by decide
  omega
 have hfit:¬(!Builtin.List.listFitsIndex k)=true:=by
  rw[fitsIndex_both h1 h2];exact w0t
 have hlong:¬Builtin.List.listTooLong (its.toArray.size*k.toNat)=true:=by
  rw[notLongL hlen];exact w0t
 have hnew:List.foldl (fun x1 x2=>x1++x2) #[] (List.replicate (if its.toArray.isEmpty=true then 0 else k.toNat) its.toArray)=(List.replicate k.toNat its).flatten.toArray:=by
  have f0:∀m:Nat,List.foldl (fun x1 x2=>x1++x2) #[] (List.replicate m its.toArray)=(List.replicate m its).flatten.toArray:=fun m=>by
   have:=q8d its m [];rw[w2m]at this;exact this
  rw[f0];cases its with
  |nil=>simp
  |cons a r'=>rw[if_neg (by simp)]
 refine wpAny_binaryOp_repeat_ref (T:="list") (U:="int") (by decide) ⟨_,ho,rfl⟩ (fun s'=>typeIs_int s' k t) noFill_list_mul F.fills_int_mul F.slot_int_rmul repeat_list F.slot_int_index.lookup
  (PySem.call_meets F.slot_int_rmul (typeIs_int s k t) F.entry_int_rmul (F.args_int_rmul_2 _ _) (x9v k t l its.toArray n dd sl)
   ⟨ho,rfl,⟨_,ho,rfl⟩,PySem.call_meets F.slot_list_mul ⟨_,ho,rfl⟩ F.entry_list_mul (F.args_list_mul_2 _ _) (x9u l its.toArray n k t dd sl hfit hcap hlong) ⟨ho,?_⟩⟩)
 rw[hnew];exact⟨.ref _,_,I.lnew (t':=s.toks) (r.rep k.toNat) (by rw[x1e,w4s];exact hz),rfl,q _ I.fresh⟩
theorem q9z(r:Reps K G ws xs):∀k:Nat,Reps K G (List.replicate k ws).flatten (List.replicate k xs).flatten
 |0=>rfl
 |k+1=>by
  rw[w0y,w0y,w1w,w1w];exact r.append (q9z r k)
noncomputable def idxI(x:Int):List Int->Option Nat
 |[]=>none
 |y::ys=>if y=x then some 0 else(idxI x ys).map (·+1)
theorem x37{x:Int}:∀{ys:List Int}{j:Nat},idxI x ys=some j->ys[j]?=some x/\∀(m:Nat)(y:Int),m<j->ys[m]?=some y->y≠x
 |[],j,h=>by cases h
 |y::ys,j,h=>by
  unfold idxI at h;split at h
  ·rename_i hy;cases h;exact⟨by rw[hy];rfl,fun m y hm _=>by omega⟩
  ·rename_i hy;obtain⟨k,h1,rfl⟩:=w0f.mp h;obtain⟨h2,h3⟩:=x37 h1;refine⟨by simpa using h2,fun m z hm hz=>?_⟩
   cases m with
   |zero=>simp at hz;rw[<- hz];exact hy
   |succ m=>exact h3 m z (by omega) (by simpa using hz)
noncomputable def intsW:List W->Option (List Int)
 |[]=>some []
 |.int x::r=>(intsW r).map (x::·)
 |_=>none
theorem q6p:∀{ws:List W}{ys:List Int}{xs:List V},intsW ws=some ys->Reps K G ws xs->xs=ys.map V.int
 |[],ys,xs,h,r=>by cases h;cases(show xs=[]from r);rfl
 |w::ws,ys,xs,h,r=>by
  unfold intsW at h;split at h
  ·rename_i z;cases z
  ·rename_i y r' z;cases z;obtain⟨ys',h1,rfl⟩:=w0f.mp h;obtain⟨v,vs,rfl,p1,p2⟩:=r;cases(show v=V.int y from p1);rw[q6p h1 p2];rfl
  ·cases h
noncomputable def indexI:W->List W->Option W
 |.lst ws,[.int x]=>match intsW ws with
  |some ys=>match idxI x ys with
   |some j=>some (.int j)
   |none=>none
  |none=>none
 |_,_=>none
def rIndexI(K:PySem.W.Frag):V->List V->Hp->VK->Prop:=fun v vs H Q=>∃b ys x j,v=.ref b/\vs=[.int x]/\SqL K H b (ys.map V.int)/\idxI x ys=some j/\Q (.int (j:Nat)) H
theorem x6c:∀{ys:List Int}{its:List Value},Vals (ys.map V.int) its->∀(m:Nat)(u:Value),its[m]?=some u->∃y t,ys[m]?=some y/\u=.int y t
 |[],its,h,m,u,hu=>by cases h;simp at hu
 |y::ys,its,h,m,u,hu=>by
  cases h with
  |cons r t=>
   obtain⟨k,rfl⟩:=r;cases m with
   |zero=>simp at hu;exact⟨y,k,rfl,hu.symm⟩
   |succ m=>simpa using x6c t m u (by simpa using hu)
theorem x9w:MtR X "list.index" (rIndexI X.K):=by
 intro pins s σ H x vs v us Q I rx rv h;obtain⟨b,ys,x0,j,rfl,rfl,hB,hj,q⟩:=h;cases rx;obtain⟨u,rfl,ru⟩:=rv.one;obtain⟨t,rfl⟩:=ru;obtain⟨its,r,pl,hz⟩:=I.list hB;obtain⟨⟨cls,dd,data,sl⟩,ho,hc,n,hd⟩:=pl.isList;simp only at hc hd;subst hc hd;obtain⟨h1,h2⟩:=x37 hj;have hlen:=r.length;rw[w0c]at hlen hz;have hjl:j<ys.length:=(w0b.mp h1).1;have hl63:=line63
 let e:Value->Bool:=fun u=>match u with|.int y _=>y==x0|_=>false
 have at':∀(m:Nat)(hm:m<its.toArray.size),∃y k,ys[m]?=some y/\its.toArray[m]=.int y k:=fun m hm=>by
  have hm':m<its.length:=by simpa using hm
  obtain⟨y,k,z1,z2⟩:=x6c r m its[m] (w0a hm');exact⟨y,k,z1,by simpa using z2⟩
 refine call_meets F.slot_list_index ⟨_,ho,rfl⟩ F.entry_list_index (F.args_list_index_2 _ _) (SeqAt.list_indexAt b its.toArray n dd sl (.int x0 t) e j (by simp only[w0d];omega) (by omega) ?_ ?_) ⟨ho,?_,?_⟩
 ·obtain⟨y,k,z1,z2⟩:=at' j (by simp only[w0d];omega);rw[h1]at z1;cases z1;rw[z2];simp[e]
 ·intro m hm hlt;obtain⟨y,k,z1,z2⟩:=at' m hm;rw[z2]
  simpa [e]using h2 m y hlt z1
 ·intro y hy;obtain⟨m,hm,rfl⟩:=Array.mem_iff_getElem.mp hy;obtain⟨y,k,z1,z2⟩:=at' m hm;rw[z2];exact SeqAt.EqAt.int_int y k x0 t
 ·exact⟨.int j,H,I.tok _,⟨_,rfl⟩,q⟩
theorem x9x:OpM K (rIndexI K) indexI:=by
 intro G H x xs wx ws w Q s px pr hf h;unfold indexI at hf;split at hf
 ·rename_i us x0;obtain⟨y,r,rfl,py,pr⟩:=pr;cases(show r=[]from pr);cases py;split at hf
  ·rename_i ys hy;split at hf
   ·rename_i j hj;cases hf;obtain⟨a,cs,rfl,hq,rp⟩:=px;have:=q6p hy rp;subst this;exact⟨a,ys,x0,j,rfl,rfl,s.seq hq,hj,h G _ H (.refl s) rfl⟩
   ·cases hf
  ·cases hf
 ·cases hf
section
variable{o e:Expr}
theorem x9y(ho:DE Z X EE o d)(ha:DA Z X EE [e] dA)
  (hbase:attributeBase o "index" X.env (eval o X.env)=eval o X.env:=by rfl)
  (hfew:((backTo cpos (starEach [e] X.env)).all (fun x=>!x.1)&&(backToKw cpos (keywordEach [] X.env)).all (fun x=>x.1.isSome)&&decide ([e].length+([]:List Keyword).length+(if([]:List Keyword).isEmpty then 0 else 1)<30))=true:=by rfl)
  (hline:(apos.endLine==cpos.line)=true:=by rfl)(hs:starEach [e] X.env=(false,eval e X.env)::starEach [] X.env:=by rfl)(hplain:(backTo cpos (starEach [] X.env)).any (·.1)=false:=by rfl):
  DE Z X EE (.Call (.Attribute o "index" apos) [e] [] cpos) (dMeth "list" indexI d dA):=
 x6b PySem.F.plainAttrs_list PySem.F.slot_list_index PySem.F.type_list_index x9w x9x ho ha hbase hfew hline hs hplain
end
section
variable{prog:Program}{w:World}{E:Value->Shared->Prop}
structure Apart(z I O i j a b:Addr):Prop where
 Iz:I≠z
 Oz:O≠z
 iz:i≠z
 jz:j≠z
 IO:I≠O
 Ii:I≠i
 Ij:I≠j
 Oi:O≠i
 Oj:O≠j
 ij:i≠j
 az:a≠z
 aO:a≠O
 ai:a≠i
 aj:a≠j
 bz:b≠z
 bO:b≠O
 bi:b≠i
 bj:b≠j
end
noncomputable def blsW:List W->Option (List Bool)
 |[]=>some []
 |.bl x::r=>(blsW r).map (x::·)
 |_=>none
theorem x6d:∀{ws:List W}{ys:List Bool}{xs:List V},blsW ws=some ys->Reps K G ws xs->xs=ys.map V.bl
 |[],ys,xs,h,r=>by cases h;cases(show xs=[]from r);rfl
 |w::ws,ys,xs,h,r=>by
  unfold blsW at h;split at h
  ·rename_i z;cases z
  ·rename_i y r' z;cases z;obtain⟨ys',h1,rfl⟩:=w0f.mp h;obtain⟨v,vs,rfl,p1,p2⟩:=r;cases(show v=V.bl y from p1);rw[x6d h1 p2];rfl
  ·cases h
noncomputable def countW:W->List W->Option W
 |.lst ws,[.bl x]=>match blsW ws with
  |some ys=>some (.int (ys.countP fun y=>y==x))
  |none=>none
 |_,_=>none
def rCount(K:PySem.W.Frag):V->List V->Hp->VK->Prop:=fun v vs H Q=>∃(b:Addr)(ys:List Bool)(x:Bool),v=.ref b/\vs=[.bl x]/\SqL K H b (ys.map V.bl)/\Q (.int (ys.countP fun y=>y==x:Nat)) H
theorem x6e:∀{ys:List Bool}{its:List Value},Vals (ys.map V.bl) its->its=ys.map Value.bool
 |[],its,h=>by cases h;rfl
 |y::ys,its,h=>by
  cases h with
  |cons r t=>
   cases r;rw[x6e t];rfl
theorem y2r:MtR X "list.count" (rCount X.K):=by
 intro pins s σ H x vs v us Q I rx rv h;obtain⟨b,ys,x0,rfl,rfl,hB,q⟩:=h;cases rx;obtain⟨u,rfl,ru⟩:=rv.one;cases ru;obtain⟨its,r,pl,hz⟩:=I.list hB;obtain⟨⟨cls,dd,data,sl⟩,ho,hc,n,hd⟩:=pl.isList;simp only at hc hd;subst hc hd;have hits:=x6e r;subst hits
 let e:Value->Bool:=fun u=>match u with|.bool y=>y==x0|_=>false
 refine call_meets F.slot_list_count ⟨_,ho,rfl⟩ F.entry_list_count (F.args_list_count_2 _ _) (SeqAt.list_countAt b _ n dd sl (.bool x0) e) ⟨ho,?_,?_⟩
 ·intro y hy;obtain⟨k,hk,rfl⟩:=w1u.mp (by simpa using hy:y∈ys.map Value.bool);exact SeqAt.EqAt.bool_bool k x0
 ·have ec:(ys.map Value.bool).toArray.toList.countP e=ys.countP fun y=>y==x0:=by
   simp only[List.countP_map];rfl
  rw[ec];exact⟨.int _,H,I.tok _,⟨_,rfl⟩,q⟩
theorem y2s:OpM K (rCount K) countW:=by
 intro G H x xs wx ws w Q s px pr hf h;unfold countW at hf;split at hf
 ·rename_i us x0;obtain⟨y,r,rfl,py,pr⟩:=pr;cases(show r=[]from pr);cases py;split at hf
  ·rename_i ys hy;cases hf;obtain⟨a,cs,rfl,hq,rp⟩:=px;have:=x6d hy rp;subst this;exact⟨a,ys,x0,rfl,rfl,s.seq hq,h G _ H (.refl s) rfl⟩
  ·cases hf
 ·cases hf
section
variable{o e a b c:Expr}{dc:Den W}{p3:Pos}
theorem x38(ho:DE Z X EE o d)(ha:DA Z X EE [e] dA)
  (hbase:attributeBase o "count" X.env (eval o X.env)=eval o X.env:=by rfl)
  (hfew:((backTo cpos (starEach [e] X.env)).all (fun x=>!x.1)&&(backToKw cpos (keywordEach [] X.env)).all (fun x=>x.1.isSome)&&decide ([e].length+([]:List Keyword).length+(if([]:List Keyword).isEmpty then 0 else 1)<30))=true:=by rfl)
  (hline:(apos.endLine==cpos.line)=true:=by rfl)(hs:starEach [e] X.env=(false,eval e X.env)::starEach [] X.env:=by rfl)(hplain:(backTo cpos (starEach [] X.env)).any (·.1)=false:=by rfl):
  DE Z X EE (.Call (.Attribute o "count" apos) [e] [] cpos) (dMeth "list" countW d dA):=
 x6b PySem.F.plainAttrs_list PySem.F.slot_list_count PySem.F.type_list_count y2r y2s ho ha hbase hfew hline hs hplain
end
theorem x6f:∀ns:List Int,intsW (ns.map .int)=some ns
 |[]=>rfl
 |n::ns=>by rw[w0i];show(intsW (ns.map .int)).map (n::·)=_;rw[x6f ns];rfl
noncomputable def hide1:S->S
 |.own _ ws=>.fr (.lst ws)
 |.dic kvs=>.fr (.dic kvs)
 |.thr us ws vs=>.fr (.tup (us++.lst ws::vs))
 |.nest wss=>.fr (.lst (wss.map W.lst))
 |.x (.old w)=>.fr w
 |.x (.new w)=>.fr w
 |.x (.acc ws)=>.fr (.lst ws)
 |.x (.thro us ws vs)=>.fr (.tup (us++.lst ws::vs))
 |.x (.tn us wss)=>.fr (.tup (us++[.lst (wss.map W.lst)]))
 |.x (.pt _ _ _)=>.no
 |.dw sh ks ws=>.fr (.dw false sh ks ws)
 |s=>s
theorem NestIn.reps{G':Hp}(sg:Same G G')(hf:∀l o ys,FzAt Z G H l o ys->G' l=some (.frz o (.lst ys))):∀{ls:List Addr}{wss:List (List W)},NestIn K Z G H ls wss->Reps K G' (wss.map W.lst) (ls.map V.ref)
 |[],[],_=>rfl
 |l::ls,ws::wss,⟨⟨o,ys,h1,h4⟩,h⟩=>⟨.ref l,ls.map V.ref,rfl,⟨l,ys,rfl,.inl (.inr ⟨o,hf l o ys h1⟩),Reps.mono sg ws h4⟩,h.reps sg hf⟩
 |[],_::_,h=>h.elim
 |_::_,[],h=>h.elim
noncomputable def hideS(e:List S):List S:=e.map hide1
noncomputable def borrowT(e:List S):R Bool->R Bool
 |.ok b _=>.ok b e
 |.ex c _=>.ex c e
 |.no=>.no
noncomputable def dBorrowT(d:Den Bool):Den Bool:=fun e=>borrowT e (d (hideS e))
theorem Rel.hide(r:Rel K Z G σ H e):Rel K ⟨H,H,[]⟩ H σ H (hideS e):=by
 have g:∀(i:Nat)(s:S),(hideS e)[i]?=some s->∃s0,e[i]?=some s0/\s=hide1 s0:=fun i s h=>by
  unfold hideS at h;rw[w0h]at h;obtain⟨s0,h1,h2⟩:=w0f.mp h;exact⟨s0,h1,h2.symm⟩
 refine⟨.refl _,fun i s h=>?_,by unfold hideS;rw[w0c];exact r.len,fun i j b b' ws ws' a h1 _ _ _=>?_,fun a o h _=>h,(fun a h=>nomatch h),fun a _=>rfl⟩
 ·obtain⟨s0,h0,rfl⟩:=g i s h;have q:=r.slot i s0 h0;cases s0 with
  |no=>trivial
  |fr w=>
   obtain⟨u,q1,q2⟩:=q;exact⟨u,q1,Rep.mono r.sub w q2⟩
  |own b ws=>
   obtain⟨a,xs,q1,q2,q3,q4,q5⟩:=q;exact⟨.ref a,q1,a,xs,rfl,SqL.of q2,Reps.mono r.sub ws q5⟩
  |dic kvs=>
   obtain⟨a,q1,q2,_⟩:=q;exact⟨.ref a,q1,a,rfl,q2⟩
  |thr us ws vs=>
   obtain⟨t,l,o,xs,ys,zs,q1,q2,q3,_,_,q6,q7,q8⟩:=q;exact⟨.ref t,q1,t,_,rfl,SqT.of (r.sub _ _ q2),(Reps.mono r.sub us q6).append ⟨.ref l,zs,rfl,⟨l,ys,rfl,.inl (.inr ⟨o,q3⟩),Reps.mono r.sub ws q7⟩,Reps.mono r.sub vs q8⟩⟩
  |nest wss=>
   obtain⟨a,ls,q1,q2,_,q4⟩:=q;exact⟨.ref a,q1,a,_,rfl,SqL.of (r.sub _ _ q2),q4.reps r.sub fun l o ys z=>z.1⟩
  |x k=>
   cases k with
   |old w=>obtain⟨u,q1,_,q2⟩:=q;exact⟨u,q1,Rep.mono r.sub w q2⟩
   |new w=>obtain⟨u,q1,q2⟩:=q;exact⟨u,q1,Rep.mono r.sub w (RepN.rep w q2)⟩
   |acc ws=>obtain⟨a,o,xs,q1,q2,q3⟩:=q;exact⟨.ref a,q1,a,xs,rfl,.inl (.inr ⟨o,q2.1⟩),Reps.mono r.sub ws (RepNs.reps ws q3)⟩
   |thro us ws vs=>
    obtain⟨t,l,o,xs,ys,zs,q1,_,q2,q3,_,q6,q7,q8⟩:=q;exact⟨.ref t,q1,t,_,rfl,SqT.of (r.sub _ _ q2),(Reps.mono r.sub us q6).append ⟨.ref l,zs,rfl,⟨l,ys,rfl,.inl (.inr ⟨o,q3.1⟩),Reps.mono r.sub ws q7⟩,Reps.mono r.sub vs q8⟩⟩
   |tn us wss=>
    obtain⟨t,l,o,ls,xs,q1,q2,q3,_,q5,q6⟩:=q;exact⟨.ref t,q1,t,_,rfl,SqT.of (r.sub _ _ q2),(Reps.mono r.sub us q5).append ⟨.ref l,[],rfl,⟨l,_,rfl,.inl (.inr ⟨o,q3.1⟩),q6.reps r.sub fun l o ys z=>z.1⟩,rfl⟩⟩
   |pt _ _ _=>trivial
  |dw sh ks ws=>
   obtain⟨a,kvs,kas,q1,q2,_,_,q5,q6,q7⟩:=q;exact⟨.ref a,q1,a,kvs,kas,rfl,q2,q5,q6.mono r.sub,Reps.mono r.sub ws q7⟩
 ·obtain⟨s0,_,h2⟩:=g i _ h1;cases s0 with
  |x k=>cases k<;>cases h2
  |_=>cases h2
theorem Rel.back{G2 H2:Hp}{e2:List S}(r:Rel K Z G σ H e)(r2:Rel K ⟨H,H,[]⟩ G2 σ H2 e2):Rel K Z G σ H2 e:=by
 have hh:Same H H2:=fun a o h=>r2.ent a o h (fun z=>nomatch z)
 exact r.grow ⟨hh,.refl _,fun a o h=>hh a o (r.sub a o h),fun _ _=>rfl⟩
section
variable{e:Expr}
theorem x2j(he:∀Z',DT Z' X EE e c):DT Z X EE e (dBorrowT c):=by
 intro pins s σ H Q I hq;obtain⟨G,e0,rel,h⟩:=hq;refine he ⟨H,H,[]⟩ pins s σ H Q I ⟨H,hideS e0,rel.hide,?_⟩;unfold dBorrowT borrowT at h;cases q:c (hideS e0)with
 |ok w e2=>
  rw[q]at h;intro G2 H2 r2 s2;exact h G H2 (rel.back r2) (.refl _)
 |ex k e2=>
  rw[q]at h;intro G2 H2 r2 s2;exact h G H2 (rel.back r2) (.refl _)
 |no=>rw[q]at h;exact h.elim
end
section
variable{e':List S}{v:Value}{k:Bool}{s:S}{p:Prop} [Decidable p]
theorem x7u{d:Den Bool}:dBorrowT d e=borrowT e (d (hideS e)):=rfl
theorem x7v:borrowT e (.ok k e')=.ok k e:=rfl
theorem x7w:borrowT e (.ex v e')=.ex v e:=rfl
theorem x5p{x y:R Bool}:borrowT e (if p then x else y)=if p then borrowT e x else borrowT e y:=by split<;>rfl
theorem y2t:hideS []=[]:=rfl
theorem x9z:hideS (s::e)=hide1 s::hideS e:=rfl
theorem y2u:hide1 (.own b ws)=.fr (.lst ws):=rfl
theorem y6k:hide1 (.fr w)=.fr w:=rfl
theorem y6l:hide1 .no=.no:=rfl
end
end D
namespace L2
open PySem PySem.Spec PyProof.Rows
structure FlyA(outer:List Env)(H H':Hp)(h h':Heap)(e:Addr)(cls:Value)(B:Heap):Prop where
 stay:B.StaysIn h'
 bare:B.get? e=none
 ff:h'.FunFrames B outer
 tr:∃a0 fl,h'.TracedAtW B e cls a0 fl
 old:∀b o,h.get? b=some o->H b=none->b∉frs outer->B.get? b=some o
 trk:∀b u o,H' b=some u->h'.get? b=some o->B.get? b=some o
 all:∀b o,h.get? b=some o->b∈frs outer\/∃o',B.get? b=some o'
 new:h.get? e=none
end L2
namespace D
open PySem L2
variable{e:List S}
noncomputable def compX(c:Den Bool)(d:Den W)(pe:List S):List W->Option (Value ⊕ List W)
 |[]=>some (.inr [])
 |w::ws=>match c (.fr w::pe)with
  |.ok true e1=>match d e1 with
   |.ok y _=>(compX c d pe ws).map (Sum.map id (y::·))
   |.ex k _=>some (.inl k)
   |.no=>none
  |.ok false _=>compX c d pe ws
  |.ex k _=>some (.inl k)
  |.no=>none
noncomputable def compXR(e:List S):Option (Value ⊕ List W)->R (List W)
 |some (.inr out)=>.ok out e
 |some (.inl k)=>.ex k e
 |none=>.no
noncomputable def compKX(js:List Nat)(c:Den Bool)(d:Den W)(ws:List W)(e1:List S):R (List W):=
 if ws.length<=16777216 then compXR (frzs js e1) (compX c d (pjS js (frzs js e1)) ws)else .no
theorem y2v{js:List Nat}{cc:Den Bool}{d:Den W}{ws:List W}:compKX js cc d ws e=if ws.length<=16777216 then compXR (frzs js e) (compX cc d (pjS js (frzs js e)) ws)else .no:=rfl
theorem x90{out:List W}:compXR e (some (.inr out))=.ok out e:=rfl
theorem x91{k:Value}:compXR e (some (.inl k))=.ex k e:=rfl
section
variable{X:Cx}{Z:Zt}{EE:L2.St->XK}{elt iter a b:Expr}{ifs:List Expr}{scope sc:Scope}{pos pt:Pos}{x:Str}{Nf N:List Str}{js:List Nat}{di:Den W}{dA:Den (List W)}{c:Den Bool}{d:Den W}
theorem z01{ws:List W}{P:List W->List S->Prop}{Ex:Value->List S->Prop}{e1:List S}(h:(compKX js c d ws e1).holds P Ex):ws.length<=16777216/\∃out,compX c d (pjS js (frzs js e1)) ws=some out/\Sum.elim (fun k=>Ex k (frzs js e1)) (fun o=>P o (frzs js e1)) out:=by
 unfold compKX at h;split at h
 ·rename_i hl;cases ho:compX c d (pjS js (frzs js e1)) ws with
  |none=>rw[ho]at h;exact h.elim
  |some out=>rw[ho]at h;exact⟨hl,out,rfl,by cases out<;>exact h⟩
 ·exact h.elim
end
end D
namespace L2
open PySem PySem.Spec PyProof.Rows
variable{A:Around}{prog:Program}{s:Shared}{E:Value->Shared->Prop}{w:World}
def Rise(t:SetTable):Prop:=t.place.toList.Pairwise (·<·)/\t.dummies=#[]
noncomputable def valI:Value->Int
 |.int n _=>n
 |_=>0
structure SetData(prog:Program)(w:World)(es:Array (Int×Value))(t:SetTable)(S:List Int):Prop where
 el:ElemsOf (intKind prog w) es.toList
 sz:es.size<scanBound
 fit:t.fits es.size=true
 rise:Rise t
 led:t.led=!w.params.followText "set-order"
 whole:∀e∈es.toList,∃n k,e.2=Value.int n k
 perm:(es.toList.map fun e=>valI e.2).Perm S
namespace SI
theorem own:Manifest.owners.lookup (String.ofList ['r','o','t','a','r','e','t','i','_','t','e','s'].reverse)=some Manifest.sig_set_iterator:=by kernel_rfl
theorem next:Slot "set_iterator" "__next__" "set_iterator.__next__":=.of (owner:="set_iterator") (n:="__next__") (by rw[typeLookup_type,builtinLookup_eq_fast];kernel_rfl) (by decide +kernel) (by decide +kernel) (by decide +kernel) (by first|exact .inl (by decide +kernel)|exact .inr (by decide +kernel)) (by rw[isSubtype_type];kernel_rfl)
theorem iter:Slot "set_iterator" "__iter__" "set_iterator.__iter__":=.of (owner:="set_iterator") (n:="__iter__") (by rw[typeLookup_type,builtinLookup_eq_fast];kernel_rfl) (by decide +kernel) (by decide +kernel) (by decide +kernel) (by first|exact .inl (by decide +kernel)|exact .inr (by decide +kernel)) (by rw[isSubtype_type];kernel_rfl)
end SI
open PySem PySem.Spec PyProof.Rows
end L2
namespace D
open PySem L2
section
variable(l:Addr)(items:Array Value)(n:Nat)(k:Int)(u:Tok)(dd:Option Addr)(sl:Array (Option Value))
theorem y2w(h1:¬(k < -(2^63)||k>=2^63)=true)(h2:¬(items.isEmpty||k==1)=true)(h3:¬(k<=0||items.isEmpty)=true)(h4:¬items.size*k>(2^63-1) / 8)(h5:¬Builtin.Tuple.tupleTooMany (items.size*k)=true)(h6:(List.foldl (fun x1 x2=>x1++x2) #[] (List.replicate k.toNat items)).size<=sizeLine):
  Meets (Builtin.«tuple.__mul__» ⟨[.ref l,.int k u],[]⟩) (fun _ R s=>s.heap.get? l=some {cls:=.type "tuple", dict:=dd,data:=.seq items n,slots:=sl}/\R (.ok (.ret (Value.ref s.heap.objs.size))) {s with heap:=s.heap.push {cls:=Value.type "tuple", data:=Data.seq (List.foldl (fun x1 x2=>x1++x2) #[] (List.replicate k.toNat items))}}):=
 .of_wp fun prog w A R s h=>by
  obtain⟨hp,g,d,tk,os⟩:=s;obtain⟨hl,h⟩:=h
  wp_walk
  refine wpAny_ite_split (fun z=>absurd z h1) fun _=>?_
  wp_walk
  refine wpAny_ite_split (fun z=>absurd z h4) fun _=>?_
  wp_walk
  exact⟨_,rfl,h⟩
theorem y2x(h1:¬(k < -(2^63)||k>=2^63)=true)(h2:¬(items.isEmpty||k==1)=true)(h3:(k<=0||items.isEmpty)=true):
  Meets (Builtin.«tuple.__mul__» ⟨[.ref l,.int k u],[]⟩) (fun _ R s=>s.heap.get? l=some {cls:=.type "tuple", dict:=dd,data:=.seq items n,slots:=sl}/\R (.ok (.ret (Value.ref s.heap.objs.size))) {s with heap:=s.heap.push {cls:=Value.type "tuple", data:=Data.seq #[]}}):=
 .of_wp fun prog w A R s h=>by
  obtain⟨hp,g,d,tk,os⟩:=s;obtain⟨hl,h⟩:=h
  wp_walk
  refine wpAny_ite_split (fun z=>absurd z h1) fun _=>?_
  wp_walk
  exact⟨_,rfl,h⟩
theorem y2y(h1:¬(k < -(2^63)||k>=2^63)=true)(h2:(items.isEmpty||k==1)=true):
  Meets (Builtin.«tuple.__mul__» ⟨[.ref l,.int k u],[]⟩) (fun _ R s=>s.heap.get? l=some {cls:=.type "tuple", dict:=dd,data:=.seq items n,slots:=sl}/\R (.ok (.ret (Value.ref l))) s):=
 .of_wp fun prog w A R s h=>by
  obtain⟨hp,g,d,tk,os⟩:=s;obtain⟨hl,h⟩:=h
  wp_walk
  refine wpAny_ite_split (fun z=>absurd z h1) fun _=>?_
  wp_walk
  exact⟨_,rfl,h⟩
theorem x92:Meets (Builtin.«int.__rmul__» ⟨[.int k u,.ref l],[]⟩) (fun _ R s=>s.heap.get? l=some {cls:=.type "tuple", dict:=dd,data:=.seq items n,slots:=sl}/\R (.ok (.ret Value.notImplemented)) s):=
 .of_wp fun prog w A R s h=>by obtain⟨hp,g,d,tk,os⟩:=s;obtain⟨hl,h⟩:=h;wp_walk;exact⟨_,rfl,h⟩
end
variable{X:Cx}{dA:Den (List W)}{a e:Expr}{EE:L2.St->XK}{p pos:Pos}{K:PySem.W.Frag}{Z:Zt}
theorem x7x:fillsNumberSlot (.type "tuple") "mul"=pure false:=
 fillsNumberSlot_seq (id:="tuple.__mul__") (r:=some (.builtin "tuple.__rmul__")) PySem.F.slot_tuple_mul.lookup (by decide +kernel) PySem.F.slot_tuple_rmul.lookup (by decide +kernel)
theorem x7y:seqRepeat? (.type "tuple")=pure (some (.builtin "tuple.__mul__")):=by
 unfold seqRepeat?;rw[seqSlot_of (T:="tuple") (name:="__mul__") (id:="tuple.__mul__") PySem.F.slot_tuple_mul.lookup (by decide +kernel),seqSlot_of (T:="tuple") (name:="__rmul__") (id:="tuple.__rmul__") PySem.F.slot_tuple_rmul.lookup (by decide +kernel)];rfl
def rRepT(K:PySem.W.Frag):R2:=fun x y H Q=>∃l k xs,x=.ref l/\y=.int k/\SqT K H l xs/\xs≠[]/\-(2^63)<=k/\k<2^63/\xs.length*k.toNat<=sizeLine /\
 (k=1->Q (.ref l) H)/\(k≠1->∀p,H p=none->Q (.ref p) (upd H p (.tup (List.replicate k.toNat xs).flatten)))
theorem x0o(its:List Value)(m:Nat):List.foldl (fun x1 x2=>x1++x2) #[] (List.replicate m its.toArray)=(List.replicate m its).flatten.toArray:=by
 have:=q8d its m [];rw[w2m]at this;exact this
theorem y6m:OpR X (binaryOp .Mult) (rRepT X.K):=by
 intro pins s σ H x y v u Q I rx ry h;obtain⟨l,k,xs,rfl,rfl,hH,hne,h1,h2,hz,q1,q2⟩:=h;cases rx;obtain⟨t,rfl⟩:=ry;obtain⟨its,r,p1,_⟩:=I.tuple hH;obtain⟨⟨cls,dd,data,sl⟩,ho,hc,n,hd⟩:=id p1;simp only at hc hd;subst hc hd;have hl:=r.length;have hfit:¬(k < -(2^63)||k>=2^63)=true:=by simp;omega
 have hemp:its.toArray.isEmpty=false:=by
  cases its with
  |nil=>cases r;exact absurd rfl hne
  |cons a b=>rfl
 have top:∀{Q':Value->Shared->Prop},(wpAny (model X.prog X.w) X.A (call (.builtin "tuple.__mul__") [.ref l,.int k t]) Q' X.xe s)->wpAny (model X.prog X.w) X.A (binaryOp .Mult (.ref l) (.int k t)) Q' X.xe s:=fun {Q'} hq=>by
  refine wpAny_binaryOp_repeat_ref (T:="tuple") (U:="int") (by decide) ⟨_,ho,rfl⟩ (fun s'=>typeIs_int s' k t) x7x PySem.F.fills_int_mul PySem.F.slot_int_rmul x7y PySem.F.slot_int_index.lookup
   (PySem.call_meets PySem.F.slot_int_rmul (typeIs_int s k t) PySem.F.entry_int_rmul (PySem.F.args_int_rmul_2 _ _) (x92 l its.toArray n k t dd sl) ⟨ho,rfl,⟨_,ho,rfl⟩,hq⟩)
 by_cases hk1:k=1
 ·subst hk1;exact top (PySem.call_meets PySem.F.slot_tuple_mul ⟨_,ho,rfl⟩ PySem.F.entry_tuple_mul (PySem.F.args_tuple_mul_2 _ _) (y2y l its.toArray n 1 t dd sl hfit (by simp)) ⟨ho,.ref l,H,I,rfl,q1 rfl⟩)
 ·have h2':¬(its.toArray.isEmpty||k==1)=true:=by rw[hemp];simpa using hk1
  have fr:=I.hok.fresh (w0e s.heap.objs.size)
  by_cases hk0:k<=0
  ·refine top (PySem.call_meets PySem.F.slot_tuple_mul ⟨_,ho,rfl⟩ PySem.F.entry_tuple_mul (PySem.F.args_tuple_mul_2 _ _) (y2x l its.toArray n k t dd sl hfit h2' (by simp[hk0])) ⟨ho,?_⟩);have e:k.toNat=0:=by omega
   have z:=q2 hk1 _ fr;rw[e]at z;exact⟨.ref s.heap.objs.size,_,I.laid (t':=s.toks) (fun b o e=>Heap.get?_push_of_some _ e) (w0e _) (show ObjOk X.prog X.w _ _ _ (.tup (List.replicate 0 xs).flatten)from⟨w1i _,[],.nil,PyProof.Rows.IsTup.new _ _,_,Heap.get?_push_size _ rfl,rfl⟩),rfl,z⟩
  ·have hlen:its.length*k.toNat<=sizeLine:=by rw[<- hl];exact hz
   have hcast:((its.toArray.size:Nat):Int)*k=((its.length*k.toNat:Nat):Int):=by
    rw[w0d,Int.natCast_mul,Int.toNat_of_nonneg (by omega)]
   have sl8:(sizeLine:Int)<=(2^63-1) / 8:=by decide
   have hfl:(List.replicate k.toNat its).flatten.length=k.toNat*its.length:=x1e ..;refine top (PySem.call_meets PySem.F.slot_tuple_mul ⟨_,ho,rfl⟩ PySem.F.entry_tuple_mul (PySem.F.args_tuple_mul_2 _ _) (y2w l its.toArray n k t dd sl hfit h2' (by rw[hemp];simpa using hk0) (by rw[hcast];omega) (by rw[hcast];unfold Builtin.Tuple.tupleTooMany;rw[decide_eq_true_eq];omega) (by rw[x0o,w0d,hfl,w4s];exact hlen)) ⟨ho,?_⟩);rw[x0o];exact⟨.ref s.heap.objs.size,_,I.laid (t':=s.toks) (fun b o e=>Heap.get?_push_of_some _ e) (w0e _) (show ObjOk X.prog X.w _ _ _ (.tup (List.replicate k.toNat xs).flatten)from⟨by rw[x1e,w4s];exact hz,_,r.rep k.toNat,PyProof.Rows.IsTup.new _ _,_,Heap.get?_push_size _ rfl,rfl⟩),rfl,q2 hk1 _ fr⟩
noncomputable def repT:W->W->Option W
 |.tup ws,.int k=>if okI k=true/\ws≠[]/\ws.length*k.toNat<=16777216 then some (.tup (List.replicate k.toNat ws).flatten)else none
 |_,_=>none
theorem y6n:Op2 K (rRepT K) repT:=by
 intro G H x y wx wy w Q s px py hf h;unfold repT at hf;split at hf
 ·rename_i ws k;split at hf
  ·rename_i hc;cases hf;cases(show y=V.int k from py);obtain⟨l,xs,rfl,hq,rp⟩:=px;have hb:=q69 hc.1;refine⟨l,k,xs,rfl,rfl,s.tup hq,fun z=>hc.2.1 (by subst z;exact List.length_eq_zero_iff.mp rp.length.symm),by omega,by omega,by rw[sizeLine_eq,rp.length];exact hc.2.2,fun hk=>?_,fun hk p hp=>?_⟩
   ·subst hk;have e:(List.replicate (1:Int).toNat ws).flatten=ws:=by simp
    rw[e]at h;exact h G _ H (.refl s) ⟨l,xs,rfl,hq,rp⟩
   ·have g:Grow G H (upd G p (.tup (List.replicate k.toNat xs).flatten)) (upd H p (.tup (List.replicate k.toNat xs).flatten)):=Grow.laid s hp _;exact h _ _ _ g ⟨p,_,rfl,SqT.of q0h,Reps.mono g.gg _ (q9z rp _)⟩
  ·cases hf
 ·cases hf
section
variable{b:Expr}{da db:Den W}
theorem y6o(ha:DE Z X EE a da)(hb:DE Z X EE b db):DE Z X EE (.BinOp a .Mult b pos) (dOp repT da db):=q8v y6m y6n ha hb
end
theorem y6p{b:Bool}{k:Int}(h0:0<=k)(h1:k<=100000):repT (.tup [.bl b]) (.int k)=some (.tup ((List.replicate k.toNat b).map .bl)):=by
 show(if okI k=true/\[W.bl b]≠[]/\[W.bl b].length*k.toNat<=16777216 then some (W.tup (List.replicate k.toNat [W.bl b]).flatten)else none)=_;rw[if_pos ⟨q7a (by omega) (by omega),by simp,by simp;omega⟩];congr 2
 have:∀m:Nat,(List.replicate m [W.bl b]).flatten=(List.replicate m b).map .bl:=fun m=>by
  induction m with
  |zero=>rfl
  |succ m ih=>rw[w0y,w1w,ih,w0y];rfl
 exact this _
theorem y2z(hc:X.calm=true):CallR X (.builtin "any") (fun xs H Q=>∃p ys,xs=[.ref p]/\SqL X.K H p ys/\(∀y∈ys,∃b,y=.bl b)/\Q (.bl (ys.any fun y=>decide (y=.bl true))) H):=by
 intro pins s σ H xs us Q I r h;obtain⟨p,ys,rfl,hq,hb,q⟩:=h;obtain⟨u,rfl,rx⟩:=vals1 r;cases rx;obtain⟨its,r',pl,hz⟩:=I.list hq;have hl:=pl.isList;have hlt:p<s.heap.objs.size:=by obtain⟨_,e,_⟩:=hl;exact Heap.lt_size e
 have hh:X.A.in1.handled=none:=I.ok.hd hc;refine call_any_walk (wpAny_pyIter_list hl ⟨s.heap.objs.size,[s.heap.objs.size,p],[s.heap.objs.size],_,_,_,fun i=>decide (ys[i]?=some (.bl true)),rfl,Walks.list hh s.heap.objs.size p (w0p hlt) its.toArray,⟨⟨_,Heap.get?_push_size _ rfl,rfl,rfl⟩,hl.push _⟩,?_,fun h' tk kp=>?_⟩)
 ·intro i v s1 Q1 E1 hv hQ;have hv':its[i]?=some v:=by simpa using hv
  have hi:i<ys.length:=by rw[r'.length];exact(w0b.mp hv').1
  obtain⟨u,hu,ru⟩:=r'.get (w0a hi);rw[hv']at hu;cases hu;obtain⟨b,eb⟩:=hb ys[i] (w1p hi);rw[eb]at ru;cases ru;refine wpAny_truthy_bool ?_
  have e:decide (ys[i]?=some (V.bl true))=b:=by
   rw[w0a hi,eb];cases b<;>simp
  rw[<- e];exact hQ
 ·have e:(List.range its.toArray.size).any (fun i=>decide (ys[i]?=some (V.bl true)))=ys.any fun y=>decide (y=.bl true):=by
   rw[w0x,w2e,w2e];constructor
   ·rintro⟨i,hi,z⟩;rw[w1d,w0d,<- r'.length]at hi;rw[w0a hi]at z;exact⟨ys[i],w1p hi,by simpa using z⟩
   ·rintro⟨y,hy,z⟩;obtain⟨i,hi,rfl⟩:=w4g hy;exact⟨i,by rw[w1d,w0d,<- r'.length];exact hi,by rw[w0a hi];simpa using z⟩
  refine⟨.bl _,H,I.kept (t':=tk) fun b o hbo=>kp b o (fun z=>?_) (Heap.get?_push_of_some _ hbo),rfl,e ▸ q⟩
  rw[w0n]at z;exact absurd (Heap.lt_size hbo) (by rw[z];exact w1o _)
noncomputable def any1:List W->Option W
 |[.lst ws]=>(boolsW ws).map fun bs=>.bl (bs.any id)
 |_=>none
theorem z02:OpN K (fun xs H Q=>∃p ys,xs=[.ref p]/\SqL K H p ys/\(∀y∈ys,∃b,y=.bl b)/\Q (.bl (ys.any fun y=>decide (y=.bl true))) H) any1:=by
 intro G H xs ws w Q s pr hf h;unfold any1 at hf;split at hf
 ·obtain⟨bs,hb,rfl⟩:=w0f.mp hf;have:=q7p hb;subst this;obtain⟨x,r,rfl,px,pr⟩:=pr;cases(show r=[]from pr);obtain⟨a,ys,rfl,ha,ra⟩:=px;have:=q7q ra;subst this;refine⟨a,_,rfl,s.seq ha,fun y hy=>?_,h G _ H (.refl s) ?_⟩
  ·obtain⟨b,_,rfl⟩:=w1u.mp hy;exact⟨b,rfl⟩
  ·show V.bl _=V.bl _;congr 1;rw[w4t];congr 1;funext b
   cases b<;>rfl
 ·cases hf
theorem z03(hc:X.calm=true)(hm:X.mg "any"=none)(ha:DA Z X EE [e] dA)(hg:Gl X "any":=by rfl)(he:starEach [e] X.env=(false,eval e X.env)::starEach [] X.env:=by rfl)(hpl:(backTo pos (starEach [] X.env)).any (·.1)=false:=by rfl):DE Z X EE (.Call (.Name "any" p) [e] [] pos) (dFn any1 dA):=
 q68 (y2z hc) z02 PyProof.Rows.Boot.«any» hm ha hg (by decide) (by decide) he hpl
def rCat0(K:PySem.W.Frag):R2:=fun x y H Q=>∃a b ys,x=.ref a/\y=.ref b/\SqT K H a []/\SqT K H b ys/\Q (.ref b) H
open PyProof.Rows in
theorem op_cat0:OpR X (binaryOp .Add) (rCat0 X.K):=by
 intro pins s σ H x y v u Q I rx ry h;obtain⟨a,b,ys,rfl,rfl,ha,hb,q⟩:=h;cases rx;cases ry;obtain⟨its,r1,p1,_⟩:=I.tuple ha;obtain⟨its2,r2,p2,_⟩:=I.tuple hb;cases r1;obtain⟨⟨cls,dd,data,sl⟩,ho,hc,n,hd⟩:=id p1;obtain⟨⟨cls2,dd2,data2,sl2⟩,ho2,hc2,n2,hd2⟩:=id p2;simp only at hc hd hc2 hd2;subst hc hd hc2 hd2;exact concat_meets ⟨_,ho,rfl⟩ ⟨_,ho2,rfl⟩ noFill_tuple_add seq_tuple_add PySem.F.slot_tuple_add PySem.F.entry_tuple_add (PySem.F.args_tuple_add_2 _ _) (tuple_addW0 a b _ _ n n2 dd dd2 sl sl2 rfl) ⟨ho,ho2,.ref b,H,I,rfl,q⟩
noncomputable def addX:W->W->Option W
 |.tup xs,.tup ys=>if xs.length+ys.length<=16777216 then some (.tup (xs++ys))else none
 |x,y=>addW x y
theorem y6q{xs ys:List W}:addX (.tup xs) (.tup ys)=if xs.length+ys.length<=16777216 then some (.tup (xs++ys))else none:=rfl
theorem y6r{i j:Int}:addX (.int i) (.int j)=some (.int (i+j)):=rfl
theorem y6s{xs ys:List W}:addX (.lst xs) (.lst ys)=if xs.length+ys.length<=16777216 then some (.lst (xs++ys))else none:=rfl
theorem y6t{x y:Str}:addX (.str x) (.str y)=if x.length+y.length<=16777216 then some (.str (x++y))else none:=rfl
theorem y6u:Op2 K (fun x y H Q=>rCat0 K x y H Q\/(rI0 (fun i j=>.int (i+j)) x y H Q\/((∃i j,x=.str i/\y=.str j/\i.length+j.length<=sizeLine/\Q (.str (i++j)) H)\/(rCatT K x y H Q\/rCatS K x y H Q)))) addX:=by
 intro G H x y wx wy w Q s px py hf h;unfold addX at hf;split at hf
 ·rename_i xs ys;split at hf
  ·rename_i hl
   by_cases h0:xs=[]
   ·subst h0;cases hf;obtain⟨a,vs,rfl,hq,rp⟩:=px;obtain⟨b,us,rfl,hq2,rp2⟩:=py;cases(show vs=[]from rp);exact .inl ⟨a,b,us,rfl,rfl,s.tup hq,s.tup hq2,h G _ H (.refl s) ⟨b,us,rfl,hq2,rp2⟩⟩
   ·exact .inr (x85 G H x y (.tup xs) (.tup ys) w Q s px py (by show(if xs≠[]/\xs.length+ys.length<=16777216 then some (W.tup (xs++ys))else none)=some w;rw[if_pos ⟨h0,hl⟩];exact hf) h)
  ·cases hf
 ·exact .inr (x85 G H x y _ _ w Q s px py hf h)
section
variable{b:Expr}{da db:Den W}
theorem q2h(ha:DE Z X EE a da)(hb:DE Z X EE b db):DE Z X EE (.BinOp a .Add b pos) (dOp addX da db):=q8v (op_cat0.or (op_add.or (op_add_str.or (op_catT.or y49)))) y6u ha hb
end
noncomputable def minL:Int->List Int->Int
 |x,[]=>x
 |x,y::ys=>minL (if y<x then y else x) ys
theorem x1i:∀(ys:List Int)(x:Int),(minL x ys=x\/minL x ys∈ys)/\minL x ys<=x/\∀y∈ys,minL x ys<=y
 |[],x=>⟨.inl rfl,Int.le_refl _,fun y hy=>nomatch hy⟩
 |y::ys,x=>by
  obtain⟨h1,h2,h3⟩:=x1i ys (if y<x then y else x);have e:minL x (y::ys)=minL (if y<x then y else x) ys:=rfl;rw[e];refine⟨?_,?_,fun z hz=>?_⟩
  ·rcases h1 with h|h
   ·by_cases hq:y<x
    ·rw[if_pos hq]at h |-;rw[h];exact .inr (by simp)
    ·rw[if_neg hq]at h |-;exact .inl h
   ·exact .inr (by simp[h])
  ·have:(if y<x then y else x)<=x:=by split<;>omega
   omega
  ·rcases w0q.mp hz with rfl|hz
   ·have:(if z<x then z else x)<=z:=by split<;>omega
    omega
   ·exact h3 z hz
theorem q6d{l:List Int}{i:Nat}(h:i<l.length):l.getD i 0=l[i]:=by
 unfold List.getD;rw[w0a h];rfl
theorem x93(hc:X.calm=true):CallR X (.builtin "min") (fun xs H Q=>∃p n ns,xs=[.ref p]/\SqL X.K H p ((n::ns).map V.int)/\Q (.int (minL n ns)) H):=by
 intro pins s σ H xs us Q I r h;obtain⟨p,n,ns,rfl,hq,q⟩:=h;obtain⟨u,rfl,rx⟩:=vals1 r;cases rx;obtain⟨its,r',pl,hz⟩:=I.list hq;have hl:=pl.isList;have hlt:p<s.heap.objs.size:=by obtain⟨_,e,_⟩:=hl;exact Heap.lt_size e
 have hh:X.A.in1.handled=none:=I.ok.hd hc;have hlen:its.length=(n::ns).length:=by have:=r'.length;rw[w0c]at this;exact this.symm
 have hval:∀(i:Nat)(v:Value),its.toArray[i]?=some v->∃t,v=Value.int ((n::ns).getD i 0) t:=fun i v hv=>by
  have hv':its[i]?=some v:=by simpa using hv
  have hi:i<(n::ns).length:=by rw[<- hlen];exact(w0b.mp hv').1
  obtain⟨u,hu,ru⟩:=r'.get (i:=i) (x:=V.int ((n::ns).getD i 0)) (by rw[w0h,w0a hi,q6d hi];rfl);rw[hv']at hu;cases hu;exact ru
 refine call_min_walk (wpAny_pyIter_list hl ⟨s.heap.objs.size,[s.heap.objs.size,p],[s.heap.objs.size],_,_,_,_,rfl,Walks.list hh s.heap.objs.size p (w0p hlt) its.toArray,⟨⟨_,Heap.get?_push_size _ rfl,rfl,rfl⟩,hl.push _⟩,fun b hb=>?_,by rw[w0d,hlen];simp,CmpOf.ints_lt (fun i=>(n::ns).getD i 0) hval,fun v h' tk hP hk=>?_⟩)
 ·show b<(s.heap.push _).objs.size;rw[Heap.size_push];rcases w0q.mp hb with e|hb
  ·rw[e];exact w1q _
  ·rw[w0n.mp hb];exact w2c hlt
 ·obtain⟨t,rfl⟩:=hval _ _ hP;obtain⟨b1,b2⟩:=argBest_lt (fun i=>(n::ns).getD i 0) (its.toArray.size-1)
  have e:(n::ns).getD (argBest (fun i j=>decide ((n::ns).getD i 0<(n::ns).getD j 0)) (its.toArray.size-1)) 0=minL n ns:=by
   obtain⟨m1,m2,m3⟩:=x1i ns n;have hsz:its.toArray.size=ns.length+1:=by rw[w0d,hlen];simp
   generalize argBest (fun i j=>decide ((n::ns).getD i 0<(n::ns).getD j 0)) (its.toArray.size-1)=k at b1 b2
   have hk:k<(n::ns).length:=by simp;omega
   have ge:minL n ns<=(n::ns).getD k 0:=by
    rw[q6d hk];rcases w0q.mp (w1p hk)with z|z
    ·rw[z];exact m2
    ·exact m3 _ z
   have le:(n::ns).getD k 0<=minL n ns:=by
    have:∃j,j<=ns.length/\(n::ns).getD j 0=minL n ns:=by
     rcases m1 with z|z
     ·exact⟨0,w1i _,by simp[z]⟩
     ·obtain⟨j,hj,ej⟩:=w1t.mp z;exact⟨j+1,by omega,by simp[List.getD,hj,ej]⟩
    obtain⟨j,hj,ej⟩:=this;have:=b2 j (by omega);rw[ej]at this;exact this
   omega
  rw[e];refine⟨.int (minL n ns),H,I.kept (t':=tk) fun b o hbo=>hk b o (fun z=>?_) (Heap.get?_push_of_some _ hbo),⟨t,rfl⟩,q⟩
  rw[w0n]at z;exact absurd (Heap.lt_size hbo) (by rw[z];exact w1o _)
noncomputable def min1:List W->Option W
 |[.lst ws]=>match intsW ws with
  |some (n::ns)=>some (.int (minL n ns))
  |_=>none
 |_=>none
theorem y6v:OpN K (fun xs H Q=>∃p n ns,xs=[.ref p]/\SqL K H p ((n::ns).map V.int)/\Q (.int (minL n ns)) H) min1:=by
 intro G H xs ws w Q s pr hf h;unfold min1 at hf;split at hf
 ·obtain⟨x,r,rfl,px,pr⟩:=pr;cases(show r=[]from pr);split at hf
  ·rename_i n ns hns;cases hf;obtain⟨a,cs,rfl,hq,rp⟩:=px;have:=q6p hns rp;subst this;exact⟨a,n,ns,rfl,s.seq hq,h G _ H (.refl s) rfl⟩
  ·cases hf
 ·cases hf
theorem y6w(hc:X.calm=true)(hm:X.mg "min"=none)(ha:DA Z X EE [e] dA)(hg:Gl X "min":=by rfl)(he:starEach [e] X.env=(false,eval e X.env)::starEach [] X.env:=by rfl)(hpl:(backTo pos (starEach [] X.env)).any (·.1)=false:=by rfl):DE Z X EE (.Call (.Name "min" p) [e] [] pos) (dFn min1 dA):=
 q68 (x93 hc) y6v PyProof.Rows.Boot.«min» hm ha hg (by decide) (by decide) he hpl
theorem z04{n:Int}{ns:List Int}:min1 [.lst ((n::ns).map .int)]=some (.int (minL n ns)):=by
 show(match intsW ((n::ns).map .int)with|some (n::ns)=>some (W.int (minL n ns))|_=>none)=_;rw[x6f]
open PySem L2 PySem.Spec PyProof.Rows
section
variable{ta:TA}{p2 pos2:Pos}
def tLR(ta:TA):TE:=fun σ H Q=>ta σ H fun vs H1=>∃j:Int,vs=[.int j]/\j.toNat<=16777216/\-(2^62)<=j/\∀l,H1 l=none->Q (.ref l) (upd H1 l (.lst ((List.range j.toNat).map fun(k:Nat)=>V.int (k:Int))))
theorem y6x{vs:List V}{us:List Value}(hl:vs.length=us.length)(h:∀(i:Nat)(h1:i<vs.length)(h2:i<us.length),RelV vs[i] us[i]):Vals vs us:=by
 induction vs generalizing us with
 |nil=>
  cases us with
  |nil=>exact .nil
  |cons u us=>simp at hl
 |cons v vs ih=>
  cases us with
  |nil=>simp at hl
  |cons u us=>
   refine .cons (h 0 (by simp) (by simp)) (ih (by simpa using hl) fun i h1 h2=>?_)
   have:=h (i+1) (by simpa using h1) (by simpa using h2)
   simpa using this
theorem y20(hc:X.calm=true)(hgl:Gl X "list")(hml:X.mg "list"=none)(hg:Gl X "range")(hm:X.mg "range"=none)(ha:PA X [a] ta)(hs:starEach [a] X.env=[(false,eval a X.env)]:=by rfl)
  (he:starEach [.Call (.Name "range" p2) [a] [] pos2] X.env=[(false,eval (.Call (.Name "range" p2) [a] [] pos2) X.env)]:=by rfl):PE X (.Call (.Name "list" p) [.Call (.Name "range" p2) [a] [] pos2] [] pos) (tLR ta):=by
 intro pins s σ H Q I h;refine wpAny_Call_Name_kw (q67 I hgl hml PyProof.Rows.Boot.«list» ?_ (by decide) (by decide));refine PyProof.Rows.callWith_type1 ?_ (by rw[he];rfl) rfl;rw[he];show wpAny _ _ (spliced ((false,eval (.Call (.Name "range" p2) [a] [] pos2) X.env)::[])) _ _ s;refine Calls.spliced_cons ?_;refine Call_ (q67 I hg hm boot_range (PyProof.Rows.callWith_type1 (thn (ha pos2 pins s σ H _ I h) fun us s1 ⟨vs,H1,I1,r1,q1⟩=>?_) hs rfl))
 obtain⟨j,e,z1,z2,q⟩:=q1;subst e;cases r1 with
 |cons r rr=>
  cases rr;obtain⟨t,rfl⟩:=r;refine call_range_1 (Calls.spliced_nil ?_);have I2:Inv X pins σ H1 {s1 with heap:=s1.heap.push {cls:=.type "range", data:=.fields #[.int 0 s1.toks,.int j t,.int 1 (s1.toks+1)]},toks:=s1.toks+1+1}:=I1.kept fun b o e=>Heap.get?_push_of_some _ e
  have hn:Builtin.Range.rangeSize 0 j 1=((j.toNat:Nat):Int):=by rw[rangeSize_one];split<;>omega
  refine call_list_range (I.ok.hd hc) (IsRange.new ..) (small_one (by omega) (by omega) z2 (by omega)) hn (by omega) fun h' tk acc' c' hk hS' hacc=>?_
  refine⟨.ref _,_,I2.laid (t':=tk) hk (w0e _) (show ObjOk X.prog X.w _ h' _ (.lst ((List.range j.toNat).map fun(k:Nat)=>V.int (k:Int)))from⟨by simp[sizeLine];omega,acc'.toList,c',y6x (by simp[hacc.1]) (fun i h1 h2=>?_),by simpa using hS'⟩),rfl,q _ (I2.hok.fresh (w0e _))⟩
  have h2':i<acc'.size:=by simpa using h2
  obtain⟨t2,e2⟩:=hacc.2 i acc'[i] (by simp[h2']);have e3:acc'.toList[i]=.int (0+(i:Int)*1) t2:=by simpa using e2
  rw[e3];simp only[List.getElem_map,List.getElem_range];exact⟨t2,by simp⟩
end
section
variable{p2 pos2:Pos}
noncomputable def listR1:List W->Option (List W)
 |[.int j]=>if j.toNat<=16777216/\-(2^62)<=j then some ((List.range j.toNat).map fun(k:Nat)=>W.int (k:Int))else none
 |_=>none
noncomputable def dListR(dA:Den (List W)):Den (List W):=fun e=>(dA e).bind fun ws e1=>ofOpt (listR1 ws) e1
theorem x2k{G:Hp}:∀ks:List Nat,Reps K G (ks.map fun(k:Nat)=>W.int (k:Int)) (ks.map fun(k:Nat)=>V.int (k:Int))
 |[]=>rfl
 |k::ks=>⟨_,_,rfl,rfl,x2k ks⟩
theorem y21(hc:X.calm=true)(hml:X.mg "list"=none)(hm:X.mg "range"=none)(ha:DA Z X EE [e] dA)(hgl:Gl X "list":=by rfl)(hg:Gl X "range":=by rfl)(hs:starEach [e] X.env=[(false,eval e X.env)]:=by rfl)
  (he:starEach [.Call (.Name "range" p2) [e] [] pos2] X.env=[(false,eval (.Call (.Name "range" p2) [e] [] pos2) X.env)]:=by rfl):DF Z X EE (.Call (.Name "list" p) [.Call (.Name "range" p2) [e] [] pos2] [] pos) (dListR dA):=by
 refine PE.mono (y20 hc hgl hml hg hm ha hs he) ?_;rintro σ H Q ⟨G,e,rel,h⟩;simp only[dListR,R.holds_bind,ofOpt_holds]at h;refine⟨G,e,rel,h.imp (fun ws e1 h G1 vs H1 r1 s1 p1=>?_) fun _ _ h=>h⟩
 obtain⟨out,hf,h⟩:=h;unfold listR1 at hf;split at hf
 ·rename_i j;split at hf
  ·rename_i hj;cases hf;obtain⟨y,r,rfl,py,pr⟩:=p1;cases(show r=[]from pr);cases(show y=V.int j from py);exact⟨j,rfl,hj.1,hj.2,q6m r1 s1 (x2k _) h⟩
  ·cases hf
 ·cases hf
end
theorem y22{e:List S}:dListR dA e=(dA e).bind fun ws e1=>ofOpt (listR1 ws) e1:=rfl
end D
namespace Att
open PySem PySem.W PySem.Calls PyProof.Rows
end Att
namespace L2
open PySem PySem.Spec PyProof.Rows
end L2
namespace D
open PySem L2
end D
namespace L2
open PySem PySem.Spec PyProof.Rows
section
variable{κ:Type} [DecidableEq κ]
noncomputable def valV(kvs:List (κ×V))(k:κ):Option V:=(kvs.find? fun kv=>decide (kv.1=k)).map (·.2)
noncomputable def putK(kvs:List (κ×V))(k:κ)(v:V):List (κ×V):=
 if(kvs.any fun kv=>decide (kv.1=k))=true then kvs.map (fun kv=>if kv.1=k then(kv.1,v)else kv)else kvs++[(k,v)]
theorem q90{p:κ×V}{r:List (κ×V)}{k:κ}(e:p.1=k):valV (p::r) k=some p.2:=by simp[valV,w2i,e]
theorem q91{p:κ×V}{r:List (κ×V)}{k:κ}(e:¬p.1=k):valV (p::r) k=valV r k:=by simp[valV,w2i,e]
theorem q92(k:κ):∀kvs:List (κ×V),(kvs.any fun kv=>decide (kv.1=k))=(valV kvs k).isSome
 |[]=>rfl
 |p::r=>by
  rw[w2q]
  by_cases e:p.1=k
  ·simp only[q90 e,decide_eq_true e,Bool.true_or,w4k]
  ·rw[q91 e,decide_eq_false e,Bool.false_or];exact q92 k r
theorem q9i(kvs:List (κ×V))(k:κ)(v:V):(putK kvs k v).length<=kvs.length+1:=by
 unfold putK;split
 ·rw[w0c];omega
 ·rw[w0g,w0v,w1s];omega
theorem x39{kvs:List (κ×V)}{k:κ}(v:V)(h:valV kvs k=none):putK kvs k v=kvs++[(k,v)]:=by
 unfold putK;rw[q92,h];exact if_neg (by decide)
theorem RelO.isSome_eq{o:Option V}{u:Option Value}(r:RelO o u):o.isSome=u.isSome:=by
 cases o with
 |none=>cases u with
  |none=>rfl
  |some _=>exact(show False from r).elim
 |some _=>cases u with
  |none=>exact(show False from r).elim
  |some _=>rfl
theorem KV.val{kvs:List (κ×V)}{vs:List (κ×Value)}(r:KV kvs vs)(k:κ):RelO (valV kvs k) (valueAt vs k):=by
 unfold KV at r
 induction r with
 |nil=>exact True.intro
 | @cons p q ps qs h t ih=>
  obtain⟨h1,h2⟩:=h
  by_cases e:p.1=k
  ·have e':q.1=k:=h1.symm.trans e;have b:valueAt (q::qs) k=some q.2:=by simp[valueAt,w2i,e']
   rw[q90 e,b];exact h2
  ·have e':¬q.1=k:=fun z=>e (h1.trans z)
   have b:valueAt (q::qs) k=valueAt qs k:=by simp[valueAt,w2i,e']
   rw[q91 e,b];exact ih
theorem KV.any{kvs:List (κ×V)}{vs:List (κ×Value)}(r:KV kvs vs)(k:κ):(kvs.any fun kv=>decide (kv.1=k))=vs.any fun kv=>decide (kv.1=k):=by
 unfold KV at r
 induction r with
 |nil=>rfl
 |cons h t ih=>rw[w2q,w2q,ih,h.1]
theorem KV.repl{kvs:List (κ×V)}{vs:List (κ×Value)}(r:KV kvs vs)(k:κ){y:V}{u:Value}(ry:RelV y u):
  KV (kvs.map fun kv=>if kv.1=k then(kv.1,y)else kv) (vs.map fun kv=>if kv.1=k then(kv.1,u)else kv):=by
 unfold KV at r |-
 induction r with
 |nil=>exact .nil
 | @cons p q ps qs h t ih=>
  rw[w0i,w0i];refine .cons ?_ ih;obtain⟨h1,h2⟩:=h
  by_cases e:p.1=k
  ·rw[if_pos e,if_pos (h1.symm.trans e)];exact⟨h1,ry⟩
  ·rw[if_neg e,if_neg (fun z=>e (h1.trans z))];exact⟨h1,h2⟩
theorem KV.put{kvs:List (κ×V)}{vs:List (κ×Value)}(r:KV kvs vs)(k:κ){y:V}{u:Value}(ry:RelV y u):KV (putK kvs k y) (stored vs k u):=by
 unfold putK stored;rw[r.any k]
 by_cases e:(vs.any fun kv=>decide (kv.1=k))=true
 ·rw[if_pos e,if_pos e];exact r.repl k ry
 ·rw[if_neg e,if_neg e];exact Paired.snoc r ⟨rfl,ry⟩
theorem KV.length{kvs:List (κ×V)}{vs:List (κ×Value)}(r:KV kvs vs):kvs.length=vs.length:=Paired.length r
end
variable{a b:Addr}{A:Around}{X:Cx}{H H':Hp}{pins:List (Addr×Obj)}{xs:List (Kx×Addr×Value)}{kvs:List (Kx×V)}{kas:List Addr}{pos:Pos}{P:Program}{sh:Sh}{s:Shared}{σ:St}{v y:V}{u:Value}{E:Value->Shared->Prop}{w:World}
theorem x7z{k:Key}(r:RelV (kV k) u):(mixKind P w).is k u=true:=by
 cases k with
 |inl i=>obtain⟨t,e⟩:=(show ∃t,u=Value.int i t from r);subst e;exact x5l P w i t
 |inr x=>obtain⟨t,e⟩:=(show ∃t,u=Value.str x t from r);subst e;exact x5m P w x t
abbrev KT(sh:Sh)(H:Hp):List (Kx×V)->List (Kx×Addr×Value)->Prop:=Paired fun p q=>p.1=q.1/\(KRep H p.1 (.ref q.2.1)/\Conf p.1 sh/\p.1.depth<=7)/\RelV p.2 q.2.2
theorem KT.val(r:KT sh H kvs xs)(k:Kx):RelO (valV kvs k) ((atKey xs k).map (·.2)):=by
 induction r with
 |nil=>exact True.intro
 | @cons p q ps qs h t ih=>
  obtain⟨h1,_,h2⟩:=h
  by_cases e:p.1=k
  ·have e':q.1=k:=h1.symm.trans e;have b:atKey (q::qs) k=some q.2:=by simp[atKey,w2i,e']
   rw[q90 e,b];exact h2
  ·have e':¬q.1=k:=fun z=>e (h1.trans z)
   have b:atKey (q::qs) k=atKey qs k:=by simp[atKey,w2i,e']
   rw[q91 e,b];exact ih
theorem KT.repl(r:KT sh H kvs xs)(k:Kx)(ry:RelV y u):
  KT sh H (kvs.map fun kv=>if kv.1=k then(kv.1,y)else kv) (xs.map (putAt k u)):=by
 induction r with
 |nil=>exact .nil
 | @cons p q ps qs h t ih=>
  rw[w0i,w0i];refine .cons ?_ ih;obtain⟨h1,h2,h3⟩:=h;unfold putAt
  by_cases e:p.1=k
  ·rw[if_pos e,if_pos (h1.symm.trans e)];exact⟨h1,h2,ry⟩
  ·rw[if_neg e,if_neg (fun z=>e (h1.trans z))];exact⟨h1,h2,h3⟩
theorem KT.put(r:KT sh H kvs xs)(k:Kx)(hb:KRep H k (.ref b)/\Conf k sh/\k.depth<=7)(ry:RelV y u):
  KT sh H (putK kvs k y) (storedH xs k b u):=by
 have e:(kvs.any fun kv=>decide (kv.1=k))=(atKey xs k).isSome:=by
  rw[q92,(r.val k).isSome_eq,w3o]
 unfold putK storedH;rw[e]
 by_cases q:(atKey xs k).isSome=true
 ·rw[if_pos q,if_pos q];exact r.repl k ry
 ·rw[if_neg q,if_neg q];exact Paired.snoc r ⟨rfl,hb,ry⟩
noncomputable def putAd(kvs:List (Kx×V))(kas:List Addr)(k:Kx)(b:Addr):List Addr:=if(valV kvs k).isSome=true then kas else kas++[b]
theorem KT.putAd(r:KT sh H kvs xs)(ka:xs.map (·.2.1)=kas)(k:Kx):(storedH xs k b u).map (·.2.1)=L2.putAd kvs kas k b:=by
 unfold storedH L2.putAd;rw[(r.val k).isSome_eq,w3o]
 by_cases q:(atKey xs k).isSome=true
 ·rw[if_pos q,if_pos q,w1f,<- ka];refine w1x fun x _=>?_
  show(putAt k u x).2.1=x.2.1;unfold putAt;split<;>rfl
 ·rw[if_neg q,if_neg q,w0r,ka];rfl
theorem KT.keeps(r:KT sh H kvs xs)(ht:∀b u,TupLike u->H b=some u->H' b=some u):KT sh H' kvs xs:=
 Paired.mapP r fun _ _ z=>⟨z.1,⟨KRep.keeps ht _ z.2.1.1,z.2.1.2⟩,z.2.2⟩
section
variable{h:Heap}
theorem y4f{u:HO}(ok:HOk P w H h)(e:Rd H a u):ObjOk P w H h a u:=e.ok ok
theorem x3f{kvs:List (Key×V)}(ok:HOk P w H h)(e:Rd H a (.dK kvs)):kvs.length<=sizeLine/\(a==sysModules)=false/\∃vs,KV kvs vs/\h.DictOf (mixKind P w) a vs:=
 show ObjOk P w H h a (.dK kvs)from y4f ok e
theorem z3o{kvs:List (Key×V)}(ok:HOk P w H h)(e:H a=some (.dK kvs)):kvs.length<=sizeLine/\(a==sysModules)=false/\∃vs,KV kvs vs/\h.DictOf (mixKind P w) a vs:=x3f ok (.inl e)
theorem IsTup.seq{h:Heap}{its:List Value}(p:IsTup h a its.toArray):∃o n,h.get? a=some o/\o.cls=.type "tuple" /\ o.data=.seq its.toArray n:=by
 obtain⟨o,h1,h2,n,h3⟩:=p;exact⟨o,n,h1,h2,h3⟩
mutual
theorem KRep.is(ok:HOk P w H h):∀(k:Kx){x:V}{v:Value},KRep H k x->RelV x v->KIs h k v
 |.non,x,v,e,r=>by cases(show x=.non from e);exact r
 |.bl b,x,v,e,r=>by cases(show x=.bl b from e);exact r
 |.int b,x,v,e,r=>by cases(show x=.int b from e);exact r
 |.str b,x,v,e,r=>by cases(show x=.str b from e);exact r
 |.tup ks,x,v,e,r=>by
  obtain⟨a,xs,rfl,q,rs⟩:=e;cases(show v=Value.ref a from r);obtain⟨_,its,rv,p,_⟩:=(show ObjOk P w H h a (.tup xs)from Rd.ok q ok);obtain⟨o,n,h1,h2,h3⟩:=IsTup.seq p;exact⟨a,o,its.toArray,n,rfl,h1,h2,h3,by simpa using KReps.are ok ks rs rv⟩
theorem KReps.are(ok:HOk P w H h):∀(ks:List Kx){xs:List V}{vs:List Value},KReps H ks xs->Vals xs vs->KAre h ks vs
 |[],xs,vs,e,r=>by
  cases(show xs=[]from e);cases r;rfl
 |k::ks,xs,vs,e,r=>by
  obtain⟨x,r0,rfl,h1,h2⟩:=e;cases r with
  |cons q t=>exact⟨_,_,rfl,KRep.is ok k h1 q,KReps.are ok ks h2 t⟩
end
theorem x0p{k:Kx}(ok:HOk P w H h)(e:KRep H k (.ref a)/\Conf k sh/\k.depth<=7):(treeKind P w sh).is h k a:=⟨KRep.is ok k e.1 rfl,e.2⟩
theorem x3g(ok:HOk P w H h)(e:Rd H a (.dT sh kvs kas)):kvs.length<=sizeLine/\(a==sysModules)=false /\
  ∃xs,KT sh H kvs xs/\xs.map (·.2.1)=kas/\h.DictOfH (treeKind P w sh) a xs:=by
 obtain⟨z,y,xs,r,ka,o,es,ep,h1,h2,h3,h4,h5⟩:=(show ObjOk P w H h a (.dT sh kvs kas)from y4f ok e);refine⟨z,y,xs,r,ka,o,es,ep,h1,h2,h3,h4,fun x hx=>?_,h5⟩
 have all:∀{l:List (Kx×V)}{m:List (Kx×Addr×Value)},KT sh H l m->∀x∈m,(treeKind P w sh).is h x.1 x.2.1:=by
  intro l m q
  induction q with
  |nil=>intro x hx;exact nomatch hx
  | @cons p q ps qs hq t ih=>
   intro x hx;rcases w0q.mp hx with e|hx
   ·subst e;exact x0p ok (by rw[<- hq.1];exact hq.2.1)
   ·exact ih x hx
 exact all r x hx
theorem z3p(ok:HOk P w H h)(e:H a=some (.dT sh kvs kas)):kvs.length<=sizeLine/\(a==sysModules)=false /\
  ∃xs,KT sh H kvs xs/\xs.map (·.2.1)=kas/\h.DictOfH (treeKind P w sh) a xs:=x3g ok (.inl e)
end
def DGet(H:Hp)(a:Addr)(y:V)(r:Option V):Prop:=
 (∃kvs k,Rd H a (.dK kvs)/\y=kV k/\r=valV kvs k)\/∃sh kvs kas k b,Rd H a (.dT sh kvs kas)/\y=.ref b/\(KRep H k (.ref b)/\Conf k sh/\k.depth<=7)/\r=valV kvs k
def DPut(H:Hp)(a:Addr)(y v:V)(H':Hp):Prop:=
 (∃kvs k,H a=some (.dK kvs)/\y=kV k/\kvs.length<sizeLine/\H'=upd H a (.dK (putK kvs k v))) \/
 ∃sh kvs kas k b,H a=some (.dT sh kvs kas)/\y=.ref b/\(KRep H k (.ref b)/\Conf k sh/\k.depth<=7)/\kvs.length<sizeLine/\H'=upd H a (.dT sh (putK kvs k v) (putAd kvs kas k b))
theorem DGet.t{k:Kx}(e:Rd H a (.dT sh kvs kas))(eb:KRep H k (.ref b)/\Conf k sh/\k.depth<=7):DGet H a (.ref b) (valV kvs k):=.inr ⟨sh,kvs,kas,k,b,e,rfl,eb,rfl⟩
theorem DPut.k{kvs:List (Key×V)}{k:Key}(e:H a=some (.dK kvs))(hl:kvs.length<sizeLine):DPut H a (kV k) v (upd H a (.dK (putK kvs k v))):=.inl ⟨kvs,k,e,rfl,hl,rfl⟩
theorem DPut.t{k:Kx}{v:V}(e:H a=some (.dT sh kvs kas))(eb:KRep H k (.ref b)/\Conf k sh/\k.depth<=7)(hl:kvs.length<sizeLine):
  DPut H a (.ref b) v (upd H a (.dT sh (putK kvs k v) (putAd kvs kas k b))):=.inr ⟨sh,kvs,kas,k,b,e,rfl,eb,hl,rfl⟩
section
variable{r:Value}{o:Option V}
theorem Inv.big(I:Inv X pins σ H s):sysModules<s.heap.objs.size:=by
 have h:mainGlobals<s.heap.objs.size:=(I.mod.glob.keeps I.bk).lt;exact Nat.lt_trans (by decide) h
theorem q93(hu:A.units+20<cLine):(treeKind P w sh).room A.in1:=by
 show A.in1.units+8<cLine;rw[Around.in1_units];omega
theorem x94{Q:Value->Shared->Prop}(hu:A.units+20<cLine)(I:Inv X pins σ H s)(g:DGet H a y (some v))(ry:RelV y u)(h:∀w' s',Inv X pins σ H s'->RelV v w'->Q w' s'):
  wpAny (model X.prog X.w) A (getItem (.ref a) u) Q E s:=by
 rcases g with⟨kvs,k,e,ey,l⟩|⟨sh,kvs,kas,k,b,e,ey,eb,l⟩
 ·subst ey;obtain⟨z,hd,vs,rel,dd⟩:=x3f I.hok e;obtain⟨w',hw,rw'⟩:=RelO.some_of (v:=v) (o:=valueAt vs k) (by rw[l];exact rel.val k);exact wpAny_getItem_of (x7z ry) dd.mapOf hw (h w' _ (I.tok _) rw')
 ·subst ey;cases(show u=Value.ref b from ry);obtain⟨z,hd,xs,rel,_,dd⟩:=x3g I.hok e;obtain⟨w',hw,rw'⟩:=RelO.some_of (v:=v) (o:=(atKey xs k).map (·.2)) (by rw[l];exact rel.val k);obtain⟨p,hp,hp2⟩:=w0f.mp hw;refine wpAny_getItem_heap (q93 hu) (x0p I.hok eb) dd hp ?_;rw[hp2];exact h w' _ (I.tok _) rw'
theorem y6y{Q:Value->Shared->Prop}(hu:A.units+20<cLine)(I:Inv X pins σ H s)(g:DGet H a y o)(ry:RelV y u)(h:∀s',Inv X pins σ H s'->Q (.bool (!o.isSome)) s'):
  wpAny (model X.prog X.w) A (compareOp .NotIn u (.ref a)) Q E s:=by
 rcases g with⟨kvs,k,e,ey,l⟩|⟨sh,kvs,kas,k,b,e,ey,eb,l⟩
 ·subst ey;obtain⟨z,hd,vs,rel,dd⟩:=x3f I.hok e;refine wpAny_notIn_of (x7z ry) hd dd.mapOf ?_;rw[<- (rel.val k).isSome_eq,<- l];exact h _ (I.tok _)
 ·subst ey;cases(show u=Value.ref b from ry);obtain⟨z,hd,xs,rel,_,dd⟩:=x3g I.hok e;refine wpAny_notIn_heap (q93 hu) (x0p I.hok eb) hd dd ?_;have q:=(rel.val k).isSome_eq;rw[w3o]at q;rw[<- q,<- l];exact h _ (I.tok _)
theorem x6g{h':Heap}{t':Nat}{ob:HO}(I:Inv X pins σ H s)(mu:Mut (H a))(hs:Heap.SameBut a s.heap h')(he:∃q,h'.get? a=some q)(new:ObjOk X.prog X.w (upd H a ob) h' a ob):
  Inv X pins σ (upd H a ob) {s with heap:=h',toks:=t'}:=
 I.write (x:=a) (e:=a) mu (.inl rfl) (fun b q hb z=>(hs.2 b hb).trans z) he new
theorem z05{h':Heap}{kvs:List (Key×V)}{vs:List (Key×Value)}(z:kvs.length<=sizeLine)(hd:(a==sysModules)=false)(rel:KV kvs vs)(dd:h'.DictOf (mixKind P w) a vs):
  ObjOk P w H' h' a (.dK kvs):=⟨z,hd,vs,rel,dd⟩
theorem x95{Q:Unit->Shared->Prop}(hu:A.units+20<cLine)(I:Inv X pins σ H s)(g:DPut H a y v H')(ry:RelV y u)(rv:RelV v r)(h:∀s',Inv X pins σ H' s'->Q () s'):
  wpAny (model X.prog X.w) A (setItem (.ref a) u r) Q E s:=by
 rcases g with⟨kvs,k,e,ey,l,eH⟩|⟨sh,kvs,kas,k,b,e,ey,eb,l,eH⟩
 ·subst ey eH;obtain⟨z,hd,vs,rel,dd⟩:=z3o I.hok e;have hz:vs.length<=sizeLine:=by rw[<- rel.length];exact z
  have hl:(putK kvs k v).length<=sizeLine:=by have:=q9i kvs k v;omega
  refine wpAny_setItem_pairs (hsz:=hz) (x7z ry) dd fun h' dd' hs=>h _ ?_
  have he:∃q,h'.get? a=some q:=let ⟨q,_,_,hq,_⟩:=dd';⟨q,hq⟩;exact x6g I (by rw[e];exact True.intro) hs he (z05 hl hd (rel.put k rv) dd')
 ·subst ey eH;cases(show u=Value.ref b from ry);obtain⟨z,hd,xs,rel,ka,dd⟩:=z3p I.hok e;have hz:xs.length<=sizeLine:=by rw[<- Paired.length rel];exact z
  have hl:(putK kvs k v).length<=sizeLine:=by have:=q9i kvs k v;omega
  refine wpAny_setItem_heap (hsz:=hz) (q93 hu) (x0p I.hok eb) dd fun h' dd' hs=>h _ ?_
  obtain⟨q,es,ep,hq,h2,h3,h4,_,h5⟩:=dd';refine x6g I (by rw[e];exact True.intro) hs ⟨q,hq⟩ ⟨hl,hd,_,(rel.put k eb rv).keeps fun c u ys ec=>?_,rel.putAd ka k,q,es,ep,hq,h2,h3,h4,h5⟩
  rw[q0d (q06 ec e (fun z=>by subst z;exact ys))]
  exact ec
end
def NoSl(i:Expr):Prop:=∀ov iv,subscripted i false ov iv=operate [ov,iv] (getItem ov iv)
theorem y6z{prog:Program}{env:Env}{value slice:Expr}{T id:String}{Q:Value->Shared->Prop}
  (hl:typeLookup (.type T) "__getitem__"=pure (some (.builtin id)))(hs:NoSl slice)
  (h:wpAny (model prog w) A (eval value env) (fun o s₁=>wpAny (model prog w) A (eval slice env) (fun i s₂=>s₂.TypeIs o T/\wpAny (model prog w) A (getItem o i) Q E s₂) E s₁) E s):
  wpAny (model prog w) A (eval (.Subscript value slice pos) env) Q E s:=by
 refine Subscript_ (wpAny_mono h (fun o s₁ h₁=>wpAny_mono h₁ (fun i s₂ h₂=>?_) fun _ _ x=>x) fun _ _ x=>x)
 obtain⟨hT,h₂⟩:=h₂;unfold subscriptTail;refine wpAny_bind ?_;rw[getitemInPython_of_ne hT.not_modules];refine wpAny_bind (wpAny_specialOf hT hl ?_)
 have fin:wpAny (model prog w) A (subscripted slice false o i) (fun r s₃=>wpAny (model prog w) A (letTemporaryGo value o r >>= fun _=>pure r) Q E s₃) E s₂:=by
  rw[hs o i];exact wpAny_operating (wpAny_mono h₂ (fun r s₃ h₃=>wpAny_bind (wpAny_letTemporaryGo (wpAny_pure h₃))) fun _ _ x=>x)
 first
  |exact wpAny_pure (wpAny_bind fin)
  |exact wpAny_bind (wpAny_pure (wpAny_bind fin))
  |exact wpAny_bind fin
theorem x5q{o:Option V}(I:Inv X pins σ H s)(g:DGet H a y o):s.TypeIs (.ref a) "dict":=by
 rcases g with⟨kvs,k,e,_,_⟩|⟨sh,kvs,kas,k,b,e,_,_,_⟩
 ·obtain⟨_,_,vs,_,dd⟩:=x3f I.hok e;exact dd.typeIs
 ·obtain⟨_,_,xs,_,_,dd⟩:=x3g I.hok e;exact dd.typeIs
def tDGet(td ty:TE):TE:=fun σ H Q=>td σ H fun x H1=>ty σ H1 fun y H2=>∃a v,x=.ref a/\DGet H2 a y (some v)/\Q v H2
def tDNotIn(ty td:TE):TE:=fun σ H Q=>ty σ H fun y H1=>td σ H1 fun x H2=>∃a o,x=.ref a/\DGet H2 a y o/\Q (.bl (!o.isSome)) H2
def sDPut(td ty tv:TE):TS:=fun D σ H=>tv σ H fun v H1=>td σ H1 fun x H2=>ty σ H2 fun y H3=>∃a H4,x=.ref a/\DPut H3 a y v H4/\D.nx σ H4
section
variable{o i e value:Expr}{pos' tpos:Pos}{td ty tv:TE}
theorem x6h(hu:X.A.units+20<cLine)(ho:PE X o td)(hi:PE X i ty)(hs:NoSl i):PE X (.Subscript o i pos) (tDGet td ty):=by
 intro pins s σ H Q I h;refine y6z PySem.F.slot_dict_getitem.lookup hs (thn (ho pins s σ H _ I h) fun u s1 ⟨x,H1,I1,rx,q1⟩=>thn (hi pins s1 σ H1 _ I1 q1) fun iv s2 ⟨y,H2,I2,ry,a,v,ex,g,q2⟩=>?_)
 subst ex;obtain rfl:u=Value.ref a:=rx;exact⟨x5q I2 g,x94 hu I2 g ry fun w' s3 I3 rw'=>⟨v,H2,I3,rw',q2⟩⟩
theorem x2l(hu:X.A.units+20<cLine)(hi:PE X i ty)(ho:PE X o td):PC X .NotIn i o (tDNotIn ty td):=by
 intro pins s σ H Q I h;refine thn (hi pins s σ H _ I h) fun iv s1 ⟨y,H1,I1,ry,q1⟩=>thn (ho pins s1 σ H1 _ I1 q1) fun u s2 ⟨x,H2,I2,rx,a,ov,ex,g,q2⟩=>?_
 subst ex;obtain rfl:u=Value.ref a:=rx;exact y6y hu I2 g ry fun s3 I3=>⟨.bl (!ov.isSome),H2,I3,rfl,q2⟩
theorem x1j(hu:X.A.units+20<cLine)(ho:PE X o td)(hi:PE X i ty)(hv:PE X value tv)(hs:swapsWith value (some (.Subscript o i pos')) pos.line X.env=pure false):
  PS X (.Assign [.Subscript o i pos'] value pos) (sDPut td ty tv):=by
 intro pins s σ H D I h;refine wpAny_Assign_Subscript (thn (hv pins s σ H _ I h) fun r s1 ⟨v,H1,I1,rv,q1⟩=>thn (ho pins s1 σ H1 _ I1 q1) fun u s2 ⟨x,H2,I2,rx,q2⟩=>thn (hi pins s2 σ H2 _ I2 q2) fun iv s3 ⟨y,H3,I3,ry,a,H4,ex,g,q3⟩=>?_) hs
 subst ex;obtain rfl:u=Value.ref a:=rx;exact x95 hu I3 g ry rv fun s4 I4=>⟨σ,H4,I4,q3⟩
end
theorem y23(h:Heap)(hb:sysModules<h.objs.size):ObjOk P w H (h.push {cls:=.type "dict", data:=.dict #[]}) h.objs.size (.dK []):=
 ⟨w1i _,beq_eq_false_iff_ne.mpr (Ne.symm (w0p hb)),[],.nil,Heap.DictOf.new h⟩
theorem y24(h:Heap)(hb:sysModules<h.objs.size):ObjOk P w H (h.push {cls:=.type "dict", data:=.dict #[]}) h.objs.size (.dT sh [] []):=
 ⟨w1i _,beq_eq_false_iff_ne.mpr (Ne.symm (w0p hb)),[],.nil,rfl,_,#[],0,Heap.get?_push_size _ rfl,⟨rfl,rfl,rfl⟩,rfl,rfl,List.nodup_nil⟩
def tDNewK:TE:=fun _ H Q=>∀p,H p=none->Q (.ref p) (upd H p (.dK []))
def tDNewT(sh:Sh):TE:=fun _ H Q=>∀p,H p=none->Q (.ref p) (upd H p (.dT sh [] []))
theorem y25:PE X (.Dict [] [] pos) tDNewK:=fun pins s σ H Q I h=>
 wpAny_Dict_empty ⟨.ref s.heap.objs.size,_,I.laid (a:=s.heap.objs.size) (o:=.dK []) (t':=s.toks) (fun _ _ q=>Heap.get?_push_of_some _ q) (w0e _) (y23 s.heap I.big),rfl,h _ (I.hok.fresh (w0e _))⟩
theorem x4a{sh:Sh}:PE X (.Dict [] [] pos) (tDNewT sh):=fun pins s σ H Q I h=>
 wpAny_Dict_empty ⟨.ref s.heap.objs.size,_,I.laid (a:=s.heap.objs.size) (o:=.dT sh [] []) (t':=s.toks) (fun _ _ q=>Heap.get?_push_of_some _ q) (w0e _) (y24 s.heap I.big),rfl,h _ (I.hok.fresh (w0e _))⟩
end L2
namespace D
open PySem L2 PySem.Spec PyProof.Rows
open PyProof.Rows (envOfC)
section
variable{P:Program}{w:World}{K:PySem.W.Frag}{mg:Str->Option Value}{base:Heap}
theorem conZ{x:Str}{st:Stmt}{N ps:List Str}{k:Nat}{F:List W->FR}(A:At K mg x st ps)(sc:FnScope N ps (defScope st))(len:∀ws,F ws≠.no->ws.length=ps.length)
  (hb:∀ws,F ws≠.no->∀(f:Addr)(cdv:Value)(A:Around)(outer:List Env)(s:Shared)(H:Hp)(E:XK)(Z:Zt),Room k (A.deeper (envOfC x (defScope st) s.heap.objs.size f cdv))->(Z.H=H/\Z.io=[]) ->
   ∃d,DSs Z (cxOf (CX1 P w) P w K mg base N x (defScope st) f cdv A outer s H E) (fun _=>E) (defBody st) d/\(d (init N.length ws)).fn=F ws):Cal P w K mg base (k+1) x ps (spF K F):=by
 refine A.cal sc (fun vs H Q E h=>?_) (fun f cdv A outer s H vs Q E hr h=>?_)
 ·obtain⟨G,ws,hn,r⟩:=q7c h;rw[r.length];exact len ws hn
 ·obtain⟨G,ws,sg,rp,h⟩:=h;have hn:F ws≠.no:=fun z=>by rw[z]at h;exact h
  obtain⟨d,hd,he⟩:=hb ws hn f cdv A outer s H E ⟨H,G,[]⟩ hr ⟨rfl,rfl⟩;exact⟨_,hd,G,init N.length ws,q5c sg rp,q7d he h⟩
theorem conFZ{x:Str}{st:Stmt}{N ps:List Str}{k:Nat}{F:List W->FR}{f:Addr}{fd:FuncData}(A:Fun K x x st f fd)(sc:FnScope N ps (defScope st))(len:∀ws,F ws≠.no->ws.length=ps.length)
  (hb:∀ws,F ws≠.no->∀(cdv:Value)(A:Around)(outer:List Env)(s:Shared)(H:Hp)(E:XK)(Z:Zt),Room k (A.deeper (PyProof.Rows.envOfC x (defScope st) s.heap.objs.size f cdv))->(Z.H=H/\Z.io=[]) ->
   ∃d,DSs Z (cxOf (CX1 P w) P w K mg base N x (defScope st) f cdv A outer s H E) (fun _=>E) (defBody st) d/\(d (init N.length ws)).fn=F ws):FnOk P w K mg base (CX1 P w) (k+1) f fd ps (spF K F):=by
 refine A.okX sc (fun vs H Q E h=>?_) (fun cdv A outer s H vs Q E hr h=>?_)
 ·obtain⟨G,ws,hn,r⟩:=q7c h;rw[r.length];exact len ws hn
 ·obtain⟨G,ws,sg,rp,h⟩:=h;have hn:F ws≠.no:=fun z=>by rw[z]at h;exact h
  obtain⟨d,hd,he⟩:=hb ws hn cdv A outer s H E ⟨H,G,[]⟩ hr ⟨rfl,rfl⟩;exact⟨_,hd,G,init N.length ws,q5c sg rp,q7d he h⟩
end
section
variable{X:Cx}{Z:Zt}{EE:L2.St->XK}{a b c e:Expr}{es:List Expr}{da db d:Den W}{dF dA:Den (List W)}{x:Str}{pos p tpos:Pos}
noncomputable def isT:S->Bool
 |.thr _ _ _=>true
 |.nest _=>true
 |.x (.acc _)=>true
 |.x (.thro _ _ _)=>true
 |.x (.tn _ _)=>true
 |.x (.pt _ _ _)=>true
 |_=>false
end
variable{X:Cx}{e:Expr}{EE:L2.St->XK}{Z:Zt}
mutual
noncomputable def flatW:W->Bool
 |.non=>true
 |.bl _=>true
 |.int _=>true
 |.str _=>true
 |.tup ws=>flatWs ws
 |_=>false
noncomputable def flatWs:List W->Bool
 |[]=>true
 |w::ws=>flatW w&&flatWs ws
end
noncomputable def keepT:HO->Bool
 |.tup _=>true
 |.frz _ (.tup _)=>true
 |_=>false
noncomputable def withT0(G G2:Hp):Hp:=fun a=>match G a with
 |some o=>some o
 |none=>match G2 a with
  |some o=>if keepT o=true then some o else none
  |none=>none
noncomputable def lentG(Z:Zt)(G H:Hp):Hp:=fun a=>match Z.H a with
 |some _=>G a
 |none=>H a
section
variable{d:Den (List W)}{K:PySem.W.Frag}{G H:Hp}{σ:L2.St}{e0:List S}
theorem Rel.lent(r:Rel K Z G σ H e0)(hio:Z.io=[]):Rel K ⟨H,lentG Z G H,[]⟩ (lentG Z G H) σ H (hideS e0):=by
 have sg:Same G (lentG Z G H):=fun a o h=>by
  unfold lentG;cases q:Z.H a with
  |none=>exact r.sub a o h
  |some _=>exact h
 have fresh:∀a o,Z.H a=none->H a=some o->lentG Z G H a=some o:=fun a o h1 h2=>by
  unfold lentG;rw[h1];exact h2
 have g:∀(i:Nat)(s:S),(hideS e0)[i]?=some s->∃s0,e0[i]?=some s0/\s=hide1 s0:=fun i s h=>by
  unfold hideS at h;rw[w0h]at h;obtain⟨s0,h1,h2⟩:=w0f.mp h;exact⟨s0,h1,h2.symm⟩
 refine⟨fun a o h=>?_,fun i s h=>?_,by unfold hideS;rw[w0c];exact r.len,fun i j b b' ws ws' a h1 _ _ _=>?_,fun a o h _=>h,(fun a h=>nomatch h),fun a _=>rfl⟩
 ·unfold lentG at h;cases q:Z.H a with
  |none=>rw[q]at h;exact h
  |some _=>rw[q]at h;exact r.sub a o h
 ·obtain⟨s0,h0,rfl⟩:=g i s h;have q:=r.slot i s0 h0;cases s0 with
  |no=>trivial
  |fr w=>
   obtain⟨u,q1,q2⟩:=q;exact⟨u,q1,Rep.mono sg w q2⟩
  |own b ws=>
   obtain⟨a,xs,q1,q2,q3,q4,q5⟩:=q
   have hz:Z.H a=none:=by
    cases b with
    |none=>exact q4
    |some j=>have q4:a∈Z.io:=w0u q4;rw[hio]at q4;cases q4
   exact⟨.ref a,q1,a,xs,rfl,SqL.of (fresh _ _ hz q2),Reps.mono sg ws q5⟩
  |dic kvs=>
   obtain⟨a,q1,q2,_,q4⟩:=q;exact⟨.ref a,q1,a,rfl,fresh _ _ q4 q2⟩
  |thr us ws vs=>
   obtain⟨t,l,o,xs,ys,zs,q1,q2,q3,_,q5,q6,q7,q8⟩:=q;exact⟨.ref t,q1,t,_,rfl,SqT.of (sg _ _ q2),(Reps.mono sg us q6).append ⟨.ref l,zs,rfl,⟨l,ys,rfl,.inl (.inr ⟨o,fresh _ _ q5 q3⟩),Reps.mono sg ws q7⟩,Reps.mono sg vs q8⟩⟩
  |nest wss=>
   obtain⟨a,ls,q1,q2,_,q4⟩:=q;exact⟨.ref a,q1,a,_,rfl,SqL.of (sg _ _ q2),q4.reps sg fun l o ys z=>fresh _ _ z.2.2 z.1⟩
  |x k=>
   cases k with
   |old w=>obtain⟨u,q1,_,q2⟩:=q;exact⟨u,q1,Rep.mono sg w q2⟩
   |new w=>obtain⟨u,q1,q2⟩:=q;exact⟨u,q1,Rep.mono sg w (RepN.rep w q2)⟩
   |acc ws=>obtain⟨a,o,xs,q1,q2,q3⟩:=q;exact⟨.ref a,q1,a,xs,rfl,.inl (.inr ⟨o,fresh _ _ q2.2.2 q2.1⟩),Reps.mono sg ws (RepNs.reps ws q3)⟩
   |thro us ws vs=>
    obtain⟨t,l,o,xs,ys,zs,q1,_,q2,q3,_,q6,q7,q8⟩:=q;exact⟨.ref t,q1,t,_,rfl,SqT.of (sg _ _ q2),(Reps.mono sg us q6).append ⟨.ref l,zs,rfl,⟨l,ys,rfl,.inl (.inr ⟨o,fresh _ _ q3.2.2 q3.1⟩),Reps.mono sg ws q7⟩,Reps.mono sg vs q8⟩⟩
   |tn us wss=>
    obtain⟨t,l,o,ls,xs,q1,q2,q3,_,q5,q6⟩:=q;exact⟨.ref t,q1,t,_,rfl,SqT.of (sg _ _ q2),(Reps.mono sg us q5).append ⟨.ref l,[],rfl,⟨l,_,rfl,.inl (.inr ⟨o,fresh _ _ q3.2.2 q3.1⟩),q6.reps sg fun l o ys z=>fresh _ _ z.2.2 z.1⟩,rfl⟩⟩
   |pt _ _ _=>trivial
  |dw sh ks ws=>
   obtain⟨a,kvs,kas,q1,q2,_,q4,q5,q6,q7⟩:=q;exact⟨.ref a,q1,a,kvs,kas,rfl,fresh _ _ q4 q2,q5,q6.mono sg,Reps.mono sg ws q7⟩
 ·obtain⟨s0,_,h2⟩:=g i _ h1;cases s0 with
  |x k=>cases k<;>cases h2
  |_=>cases h2
end
section
variable{e e':List S}{ws us vs:List W}{v:Value}
theorem x96{wss:List (List W)}:hide1 (.nest wss)=.fr (.lst (wss.map W.lst)):=rfl
theorem y26:hide1 (.thr us ws vs)=.fr (.tup (us++.lst ws::vs)):=rfl
end
end D
namespace L2
open PySem PySem.Spec PyProof.Rows
end L2
namespace D
open PySem L2 PySem.Spec PyProof.Rows
end D
namespace L2
open PySem PySem.Spec PyProof.Rows
end L2
namespace D
open PySem L2 PySem.Spec PyProof.Rows
open Classical
variable{a:Addr}{X:Cx}{G:Hp}{EE:L2.St->XK}{e:List S}{pos:Pos}{K:PySem.W.Frag}{x:Str}{w:W}{Z:Zt}
mutual
noncomputable def kxW:W->Option Kx
 |.non=>some .non
 |.bl b=>some (.bl b)
 |.int i=>some (.int i)
 |.str x=>some (.str x)
 |.tup ws=>(kxWs ws).map .tup
 |_=>none
noncomputable def kxWs:List W->Option (List Kx)
 |[]=>some []
 |w::ws=>match kxW w,kxWs ws with
  |some k,some ks=>some (k::ks)
  |_,_=>none
end
def NoTup(K:PySem.W.Frag):Prop:=∀a o,K.lookup a=some o->o.cls≠.type "tuple"
theorem SqT.rd{xs:List V}(hK:NoTup K)(q:SqT K G a xs):Rd G a (.tup xs):=by
 rcases q with q|⟨o,its,n,h1,h2,_⟩
 ·exact q
 ·exact absurd h2 (hK a o h1)
mutual
theorem x97{K:PySem.W.Frag}{G H:Hp}(hK:NoTup K)(s:Same G H):∀(w:W){k:Kx}{v:V},kxW w=some k->Rep K G w v->KRep H k v
 |.bl b,k,v,e,r=>by cases e;exact r
 |.int b,k,v,e,r=>by cases e;exact r
 |.str b,k,v,e,r=>by cases e;exact r
 |.tup ws,k,v,e,r=>by
  have e:(kxWs ws).map Kx.tup=some k:=e;obtain⟨ks,h1,rfl⟩:=w0f.mp e;obtain⟨a,xs,rfl,q,rs⟩:=r;refine⟨a,xs,rfl,?_,x6i hK s ws h1 rs⟩;rcases SqT.rd hK q with z|⟨o,z⟩
  ·exact .inl (s _ _ z)
  ·exact .inr ⟨o,s _ _ z⟩
 |.non,k,v,e,r=>by cases e;exact r
 |.lst _,k,v,e,r=>by cases e
 |.exc _,k,v,e,r=>by cases e
 |.dic _,k,v,e,r=>by cases e
 |.dw _ _ _ _,k,v,e,r=>by cases e
 |.fn _ _ _,k,v,e,r=>by cases e
theorem x6i{K:PySem.W.Frag}{G H:Hp}(hK:NoTup K)(s:Same G H):∀(ws:List W){ks:List Kx}{vs:List V},kxWs ws=some ks->Reps K G ws vs->KReps H ks vs
 |[],ks,vs,e,r=>by cases e;exact r
 |w::ws,ks,vs,e,r=>by
  have e:(match kxW w,kxWs ws with|some k,some ks=>some (k::ks)|_,_=>none)=some ks:=e;split at e
  ·rename_i k0 ks0 h1 h2;cases e;obtain⟨x,xs,rfl,r1,r2⟩:=r;exact⟨x,xs,rfl,x97 hK s w h1 r1,x6i hK s ws h2 r2⟩
  ·cases e
end
noncomputable def keyT:W->Option Kx
 |.tup ws=>(kxWs ws).map .tup
 |_=>none
theorem x4b{H:Hp}(hK:NoTup K)(s:Same G H){k:Kx}{v:V}(e:keyT w=some k)(r:Rep K G w v):∃b,v=.ref b/\KRep H k (.ref b):=by
 cases w with
 |tup ws=>
  have z:=x97 hK s (.tup ws) e r;obtain⟨a,xs,rfl,q,rs⟩:=r;exact⟨a,rfl,z⟩
 |_=>cases e
def fits(k:Kx)(sh:Sh):Prop:=Conf k sh/\k.depth<=7
noncomputable def lkW:List Kx->List W->Kx->Option W
 |k::ks,w::ws,x=>if k=x then some w else lkW ks ws x
 |_,_,_=>none
noncomputable def inT(w d:W):Option W:=match keyT w,d with
 |some k,.dw _ sh ks ws=>if fits k sh then some (.bl (lkW ks ws k).isSome)else none
 |_,_=>none
section
variable{a b e k o:Expr}{es:List Expr}{da db d dk:Den W}{dA:Den (List W)}{p tpos:Pos}{body:List Stmt}{s1:List S->SR}
theorem Rel.setS{H:Hp}{σ:L2.St}{e:List S}(r:Rel K Z G σ H e){i:Nat}{s:S}{v:V}(hs:∀b ws,s≠.own b ws)(q:SlotOk K Z G H s (some v)):Rel K Z G (σ.set i (some v)) H (e.set i s):=by
 refine⟨r.sub,fun j t z=>?_,by simpa using r.len,fun j k b1 b2 w1 w2 c z1 z2 z3 z4=>?_,r.ent,r.ion,r.gen⟩
 ·by_cases hj:j=i
  ·subst hj
   have hi:j<e.length:=by
    have:=(w0b.mp z).1;simpa using this
   rw[w0l hi]at z;cases z;rw[w0l (by rw[<- r.len];exact hi)];exact q
  ·rw[w0j (fun z=>hj z.symm)]at z |-
   exact r.slot j t z
 ·have old:∀(k:Nat)(bb:Option Nat)(ww:List W),(e.set i s)[k]?=some (.own bb ww)->k≠i/\e[k]?=some (.own bb ww):=fun k bb ww z=>by
   by_cases hk:k=i
   ·subst hk
    have hi:k<e.length:=by
     have:=(w0b.mp z).1;simpa using this
    rw[w0l hi]at z;cases z;exact absurd rfl (hs _ _)
   ·rw[w0j (fun z=>hk z.symm)]at z;exact⟨hk,z⟩
  obtain⟨n1,q1⟩:=old _ _ _ z1;obtain⟨n2,q2⟩:=old _ _ _ z2;rw[w0j (fun z=>n1 z.symm)]at z3
  rw[w0j (fun z=>n2 z.symm)]at z4
  exact r.dis _ _ _ _ _ _ _ q1 q2 z3 z4
end
noncomputable def maxL:Int->List Int->Int
 |x,[]=>x
 |x,y::ys=>maxL (if x<y then y else x) ys
theorem x6j:∀(ys:List Int)(x:Int),(maxL x ys=x\/maxL x ys∈ys)/\x<=maxL x ys/\∀y∈ys,y<=maxL x ys
 |[],x=>⟨.inl rfl,Int.le_refl _,fun y hy=>nomatch hy⟩
 |y::ys,x=>by
  obtain⟨h1,h2,h3⟩:=x6j ys (if x<y then y else x);have e:maxL x (y::ys)=maxL (if x<y then y else x) ys:=rfl;rw[e];refine⟨?_,?_,fun z hz=>?_⟩
  ·rcases h1 with h|h
   ·by_cases hq:x<y
    ·rw[if_pos hq]at h |-;rw[h];exact .inr (by simp)
    ·rw[if_neg hq]at h |-;exact .inl h
   ·exact .inr (by simp[h])
  ·have:x<=(if x<y then y else x):=by split<;>omega
   omega
  ·rcases w0q.mp hz with rfl|hz
   ·have:z<=(if x<z then z else x):=by split<;>omega
    omega
   ·exact h3 z hz
section
variable{kw dflt:W}{sh:Sh}{ks:List Kx}{ws:List W}{i:Nat}{x:Kx}{fz:Bool}
theorem y60:hide1 (.dw sh ks ws)=.fr (.dw false sh ks ws):=rfl
end
noncomputable def tupAt(K:PySem.W.Frag)(a:Addr):Bool:=match K.lookup a with
 |some o=>(match o.cls with
  |.type n=>n=="tuple"
  |_=>false)
 |none=>false
noncomputable def dropT(K:PySem.W.Frag):PySem.W.Frag:=K.filter fun p=>!tupAt K p.1
theorem q5q{q:Addr->Bool}:∀{K:PySem.W.Frag}{o:Obj},(K.filter fun p=>q p.1).lookup a=some o->K.lookup a=some o/\q a=true
 |[],_,h=>by cases h
 |(b,u)::K,o,h=>by
  by_cases hq:q b=true
  ·rw[w2t (p:=fun p:Addr×Obj=>q p.1) (a:=(b,u)) hq]at h
   by_cases e:a=b
   ·subst e;rw[show List.lookup a ((a,u)::(K.filter fun p=>q p.1))=some u by simp[List.lookup]]at h
    refine⟨?_,hq⟩;rw[<- h];simp[List.lookup]
   ·rw[show List.lookup a ((b,u)::(K.filter fun p=>q p.1))=List.lookup a (K.filter fun p=>q p.1) by simp only[List.lookup];rw[beq_eq_false_iff_ne.mpr e]]at h
    obtain⟨h1,h2⟩:=q5q h;refine⟨?_,h2⟩;rw[<- h1];simp only[List.lookup];rw[beq_eq_false_iff_ne.mpr e]
  ·rw[w3q (p:=fun p:Addr×Obj=>q p.1) (a:=(b,u)) hq]at h
   obtain⟨h1,h2⟩:=q5q h;have e:a≠b:=fun z=>hq (by rw[<- z];exact h2)
   refine⟨?_,h2⟩;rw[<- h1];simp only[List.lookup];rw[beq_eq_false_iff_ne.mpr e]
theorem y27{h:Heap}(X:K.In h):(dropT K).In h:=fun a o e=>X a o (q5q (q:=fun a=>!tupAt K a) e).1
theorem y28:NoTup (dropT K):=fun a o e z=>by
 obtain⟨h1,h2⟩:=q5q (q:=fun a=>!tupAt K a) e
 unfold tupAt at h2;rw[h1]at h2;simp[z]at h2
theorem q0j{o:Obj}(h:K.lookup a=some o)(t:tupAt K a=false):(dropT K).lookup a=some o:=by
 have gen:∀(l:PySem.W.Frag)(q:Addr->Bool),q a=true->l.lookup a=some o->(l.filter fun p=>q p.1).lookup a=some o:=by
  intro l q hq
  induction l with
  |nil=>intro h;cases h
  |cons p l ih=>
   obtain⟨b,u⟩:=p;intro h
   by_cases e:a=b
   ·subst e;rw[w2t (p:=fun p:Addr×Obj=>q p.1) (a:=(a,u)) hq]
    rw[show List.lookup a ((a,u)::l)=some u by simp[List.lookup]]at h;rw[<- h];simp[List.lookup]
   ·rw[show List.lookup a ((b,u)::l)=List.lookup a l by simp only[List.lookup];rw[beq_eq_false_iff_ne.mpr e]]at h
    by_cases hb:q b=true
    ·rw[w2t (p:=fun p:Addr×Obj=>q p.1) (a:=(b,u)) hb,<- ih h]
     simp only[List.lookup];rw[beq_eq_false_iff_ne.mpr e]
    ·rw[w3q (p:=fun p:Addr×Obj=>q p.1) (a:=(b,u)) hb]
     exact ih h
 exact gen K (fun a=>!tupAt K a) (by rw[t];rfl) h
theorem q0g{r:Option Value}(h:PySem.W.nsIn K a x=some r)(t:tupAt K a=false):PySem.W.nsIn (dropT K) a x=some r:=by
 unfold PySem.W.nsIn at h |-
 cases q:K.lookup a with
 |none=>rw[q]at h;cases h
 |some o=>rw[q0j q t];rw[q]at h;exact h
noncomputable def tupAtV(K:PySem.W.Frag):Value->Bool
 |.ref a=>tupAt K a
 |_=>false
theorem q0l{cd:Value}(h:PySem.W.codeIn K cd x=true)(t:tupAtV K cd=false):PySem.W.codeIn (dropT K) cd x=true:=by
 cases cd with
 |ref a=>
  unfold PySem.W.codeIn at h |-
  dsimp only at h |-
  cases q:K.lookup a with
  |none=>rw[q]at h;cases h
  |some o=>rw[q0j q t];rw[q]at h;exact h
 |_=>cases h
noncomputable def funAt(K:PySem.W.Frag)(a:Addr):Bool:=!tupAt K a&&(match K.lookup a with
 |some ⟨_,_,.func _,_⟩=>true
 |_=>false)
noncomputable def lk{κ:Type} [DecidableEq κ](kvs:List (κ×Sv))(x:κ):Option Sv:=(kvs.find? fun p=>decide (p.1=x)).map (·.2)
theorem hu1{n:Nat}(h:n+150<cLine):n+20<cLine:=Nat.lt_of_le_of_lt (Nat.add_le_add_left (by decide:20<=150) _) h
section
variable{kw:W}{kvs:List (Key×Sv)}
theorem y29{dd:Dd}:hide1 (.dic dd)=.fr (.dic dd):=rfl
end
end D
namespace L2
open PySem PySem.Spec PyProof.Rows
theorem x98{P:Program}{w:World}{K:PySem.W.Frag}{mg mb:Str->Option Value}{CX:CXT}{k:Nat}{fa a:Addr}{fd:FuncData}{x:Str}{sp:Sp}{s₁:Shared}{vs:List Value}{ns:List Int}{tabs:List (Addr×Str)}
  (KX:K.In s₁.heap)(hns:s₁.heap.Ns mainGlobals mg)(hb:s₁.heap.Ns builtinsNs mb)(hbb:∀x:Str,x≠"__name__"->mb x=bootBuiltins x)(hlim:s₁.heap.NoLimit)(hg:s₁.gens=#[])
  (ha:s₁.heap.get? a=some {cls:=.type "list", data:=.seq vs.toArray})(hi:IntsAre vs ns)(hl:ns.length<=sizeLine)(hr:Room k callerA)
  (F:∀base:Heap,K.In base->base.Ns mainGlobals mg->BMain base mg->FnOk P w K mg base CX k fa fd [x] sp)(hbind:∀(s:Shared)(u:Value),BindsTo s fd ⟨[u],[]⟩ [(x,u)])
  (hsp:∀H:Hp,SqL K H a (ns.map V.int)->sp [.ref a] H (fun v _=>v=.bl true) fun _ _ _=>False)
  (hCX:∀H e s',CX [] H s₁ (fun _ _ _=>False) e s'->False)
  (hBM:BMain s₁.heap mg)(hM:∀a q P,(a,markO P q)∈K->tabs.lookup P=some q)(hT:∀P q,tabs.lookup P=some q->s₁.heap.get? P=some (tabObj #[])/\isCodeTable s₁.heap P)(hKT:∀P q,tabs.lookup P=some q->K.lookup P=none):
  codeAny (model P w) callerA (.call (.ref fa) ⟨[.ref a],[]⟩) (fun r s'=>r=.ok (.ret (.bool true))/\OldK s₁.heap s'.heap/\s'.os=s₁.os/\AllBare s'.gens) s₁:=by
 have rv:=q8f hi;have lenV:=hi.length
 have aT:tabs.lookup a=none:=by
  cases q:tabs.lookup a with
  |none=>rfl
  |some t=>rw[(hT a t q).1]at ha;cases ha
 have core:∀H0:Hp,(∀b,H0 b=none\/∃o xs,H0 b=some (.frz o (.lst xs)))->SqL K H0 a (ns.map V.int)->HOk P w H0 s₁.heap->(∀b,H0 b≠none->b=a)->(H0 a≠none->K.lookup a=none) ->
   codeAny (model P w) callerA (.call (.ref fa) ⟨[.ref a],[]⟩) (fun r s'=>r=.ok (.ret (.bool true))/\OldK s₁.heap s'.heap/\s'.os=s₁.os/\AllBare s'.gens) s₁:=by
  intro H0 hO hS0 hok0 hA hK;obtain⟨H,hH⟩:∃H:Hp,H=fun b=>match tabs.lookup b with|some q=>some (.tbl #[.bool true,.str q 0])|none=>H0 b:=⟨_,rfl⟩
  have inT:∀b q,tabs.lookup b=some q->H b=some (.tbl #[.bool true,.str q 0]):=fun b q z=>by rw[hH];simp only[z]
  have outT:∀b,tabs.lookup b=none->H b=H0 b:=fun b z=>by rw[hH];simp only[z]
  have up:∀b u,H0 b=some u->H b=some u:=fun b u z=>by
   have:b=a:=hA b (by rw[z];simp);subst this;rw[outT b aT];exact z
  have hS:SqL K H a (ns.map V.int):=by
   rcases hS0 with(z|⟨o,z⟩)|z
   ·exact .inl (.inl (up _ _ z))
   ·exact .inl (.inr ⟨o,up _ _ z⟩)
   ·exact .inr z
  have hok:HOk P w H s₁.heap:=fun b u z=>by
   cases q:tabs.lookup b with
   |some t=>
    rw[inT b t q]at z;cases z;exact .inl ⟨t,#[],rfl,rfl,(hT b t q).1,trivial,fun pos cv z=>by cases z⟩
   |none=>
    rw[outT b q]at z;exact(hok0 b u z).stay (fun c v _ q=>q) (fun c q=>up c _ q) fun c v _ q=>up c v q
  have base_of:∀{b:Addr}{o:Obj},s₁.heap.get? b=some o->H b=none->(hidT s₁.heap H).get? b=some o:=fun e n=>x3k e n
  have free:∀{b:Addr}{o:Obj},s₁.heap.get? b=some o->o≠{cls:=.type "list", data:=.seq vs.toArray}->o≠tabObj #[]->H b=none:=fun {b o} e d1 d2=>by
   cases q:tabs.lookup b with
   |some t=>rw[(hT b t q).1]at e;cases e;exact absurd rfl d2
   |none=>
    rw[outT b q];cases q0:H0 b with
    |none=>rfl
    |some u=>
     have e':b=a:=hA b (by rw[q0];simp);subst e';rw[ha]at e;cases e;exact absurd rfl d1
  have nsK:∀{b:Addr}{m:Str->Option Value},s₁.heap.Ns b m->(hidT s₁.heap H).Ns b m:=fun {b m} ⟨o,es,ep,e,d,r⟩=>⟨o,es,ep,base_of e (free e (fun z=>by rw[z]at d;cases d) fun z=>by rw[z]at d;cases d),d,r⟩
  have hKb:K.In (hidT s₁.heap H):=fun b o e=>base_of (KX b o e) (by
   cases q:tabs.lookup b with
   |some t=>rw[hKT b t q]at e;cases e
   |none=>
    rw[outT b q];cases q0:H0 b with
    |none=>rfl
    |some u=>
     have e':b=a:=hA b (by rw[q0];simp);subst e';rw[hK (by rw[q0];simp)]at e;cases e)
  have hBb:BMain (hidT s₁.heap H) mg:=by
   obtain⟨bm,ob,b1,b2,b3,b4,b5,b6⟩:=hBM;exact⟨bm,ob,b1,b2,base_of b3 (free b3 (fun z=>by rw[z]at b4;simp at b4) fun z=>by rw[z]at b4;cases b4),b4,b5,b6⟩
  have hMd:Mod K mg (hidT s₁.heap H):=⟨hKb,nsK hns,⟨mb,nsK hb,hbb⟩,let ⟨mc,h1,h2⟩:=hlim;⟨mc,nsK h1,h2⟩⟩;have e0:Env0 P w K mg (hidT s₁.heap H) callerA [] s₁ H:=⟨rfl,hMd,fun b o e=>x5z e,Nat.le_of_eq (x13 _ _),trivial,fun b hb=>absurd (show b∈([]:List Addr)from hb) (by simp),hok,.of_eq hg,fun a q P m=>⟨_,inT P q (hM a q P m),rfl,rfl⟩⟩
  refine codeAny_mono ((F _ hKb (nsK hns) hBb).run callerA [] s₁ H ⟨[.ref a],[]⟩ [.ref a] [.ref a] _ _ hr e0 (hbind s₁ (.ref a)) (.cons rfl .nil) (hsp H hS)) fun r s' h=>?_
  cases r with
  |error e=>exact(hCX H e s' h).elim
  |ok fl=>
   cases fl with
   |next=>exact False.elim h
   |brk=>exact False.elim h
   |cont=>exact False.elim h
   |ret u=>
    obtain⟨v,H',os,bare,un,hok',r',q⟩:=h;have q':v=.bl true:=q;subst q';obtain rfl:u=Value.bool true:=r'
    have kp:∀b o,tabs.lookup b=none->s₁.heap.get? b=some o->s'.heap.get? b=some o:=fun b o z e=>by
     cases q:H b with
     |none=>exact un.keep b o e q (by intro z;exact absurd (show b∈([]:List Addr)from z) (by simp)) (by simp)
     |some u=>
      have q0:=q;rw[outT b z]at q0;rcases hO b with z|⟨ob,xs,z⟩
      ·rw[q0]at z;cases z
      ·rw[q0]at z;cases z;have z2:=un.frzs b ob _ q;obtain⟨e1,_⟩:=(show s₁.heap.get? b=some ob/\_ from hok b _ q);obtain⟨e2,_⟩:=(show s'.heap.get? b=some ob/\_ from hok' b _ z2);rw[e]at e1;cases e1;exact e2
    have gr:∀b t,tabs.lookup b=some t->∃qs,s'.heap.get? b=some (tabObj qs):=fun b t z=>by
     obtain⟨more,e⟩:=un.tbls b _ (inT b t z);have o1:ObjOk P w H' s'.heap b (.tbl (#[.bool true,.str t 0]++more)):=hok' b _ e;rcases o1 with⟨_,qs,_,_,g,_⟩|⟨_,_,_,_,_,_,p0,_⟩
     ·exact⟨qs,g⟩
     ·rw[w1v (by simp)]at p0;cases p0
    refine⟨rfl,⟨fun b o e=>?_,fun b o e=>?_⟩,os,bare⟩
    ·cases z:tabs.lookup b with
     |none=>exact .inl (kp b o z e)
     |some t=>
      obtain⟨qs,g⟩:=gr b t z;obtain⟨g1,g2⟩:=hT b t z;rw[e]at g1;cases g1;exact .inr (.inl ⟨g2,rfl,#[],qs,rfl,by rw[Array.empty_append];exact g⟩)
    ·cases z:tabs.lookup b with
     |none=>exact⟨o,kp b o z e⟩
     |some t=>
      obtain⟨qs,g⟩:=gr b t z;exact⟨_,g⟩
 cases hk:K.lookup a with
 |some o=>
  have e:=KX a o hk;rw[ha]at e;cases e;refine core (fun _=>none) (fun _=>.inl rfl) (.inr ⟨_,vs.toArray,_,hk,rfl,rfl,rfl,by rw[w0d,lenV];exact hl,by simpa using rv⟩) (fun b u z=>by have z':(none:Option HO)=some u:=z;cases z') (fun b z=>absurd rfl z) fun z=>absurd rfl z
 |none=>
  refine core (fun b=>if b=a then some (.frz {cls:=.type "list", data:=.seq vs.toArray} (.lst (ns.map V.int)))else none) (fun b=>?_) (.inl (.inr ⟨{cls:=.type "list", data:=.seq vs.toArray},if_pos rfl⟩)) (fun b u z=>?_) (fun b z=>?_) fun _=>hk
  ·by_cases hb:b=a
   ·exact .inr ⟨_,_,if_pos hb⟩
   ·exact .inl (if_neg hb)
  ·by_cases hb:b=a
   ·have z':=(if_pos hb).symm.trans z;cases z';subst hb;exact⟨ha,by rw[w0c];exact hl,vs,_,rv,ha⟩
   ·have z':=(if_neg hb).symm.trans z;cases z'
  ·by_cases hb:b=a
   ·exact hb
   ·exact absurd (if_neg hb) z
theorem y3a{l:PySem.W.OpenLaw}{n k:Nat}{q:Program}{loose:List Str}{XP:(Str->Option Value)->Heap->Prop}{YP:World->Heap->Prop}{d:DefRec}{K:Params->PySem.W.Frag}{CX:World->CXT}{sp:World->Sp}{x:Str}{tabs:List (Addr×Str)}
  (hn:l.most=some n)(hn2:n<=sizeLine)(hdf:d.params.defaults=[])(hr:Room k callerA)
  (hY:∀(w:World)(h:Heap),YP w h->(K w.params).In h)
  (F:∀(w:World)(mg:Str->Option Value)(fa:Addr)(h:Heap),(K w.params).In h->h.Ns mainGlobals mg->mg d.name=some (.ref fa) ->
   ∃fd:FuncData,(∀(s:Shared)(u:Value),BindsTo s fd ⟨[u],[]⟩ [(x,u)]) /\
    ∀base:Heap,(K w.params).In base->base.Ns mainGlobals mg->BMain base mg->FnOk l.prog w (K w.params) mg base (CX w) k fa fd [x] (sp w))
  (hsp:∀(w:World)(H:Hp)(a:Addr)(ns:List Int),ns.length<=n->SqL (K w.params) H a (ns.map V.int)->sp w [.ref a] H (fun v _=>v=.bl true) fun _ _ _=>False)
  (hCX:∀(w:World)(H:Hp)(s:Shared)(e:Value)(s':Shared),CX w [] H s (fun _ _ _=>False) e s'->False)
  (hM:∀(w:World) a q P,(a,markO P q)∈K w.params->tabs.lookup P=some q)(hT:∀(w:World)(h:Heap),YP w h->∀P q,tabs.lookup P=some q->h.get? P=some (tabObj #[])/\isCodeTable h P)(hKT:∀(w:World) P q,tabs.lookup P=some q->(K w.params).lookup P=none):
  PySem.W.WalkO q loose XP YP l.row.toRowW d [] (fun f vs=>PySem.call f vs):=by
 refine Att.attach_call hn hdf fun w s₀ s₁ mg mb fa o pm cd doc a vs ns G Y ho hd hcd hmg hobj hints hlen hg=>?_
 have KX:=hY w _ Y;obtain⟨fd,hb,hF⟩:=F w mg fa _ KX G.T.g hmg;exact x98 KX G.T.g G.T.b G.T.builtins G.T.nolimit hg hobj hints (w1e hlen hn2) hr hF hb (fun H hS=>hsp w H a ns hlen hS) (fun H e s'=>hCX w H s₁ e s') G.T.bmain (hM w) (hT w _ Y) (hKT w)
end L2
namespace D
open PySem L2
variable{X:Cx}{dA:Den (List W)}{G H:Hp}{EE:L2.St->XK}{es:List Expr}{e:List S}{N ps:List Str}{F:List W->FR}{r:Nat->List W->FR}{p pos:Pos}{K:PySem.W.Frag}{x:Str}{Z:Zt}
mutual
noncomputable def noFn:W->Bool
 |.tup ws=>noFns ws
 |.lst ws=>noFns ws
 |.dw _ _ _ ws=>noFns ws
 |.fn _ _ _=>false
 |.non=>true
 |.bl _=>true
 |.int _=>true
 |.str _=>true
 |.exc _=>true
 |.dic _=>true
noncomputable def noFns:List W->Bool
 |[]=>true
 |w::ws=>noFn w&&noFns ws
end
section
variable{cs:Cs}
theorem Rd.rm{a:Addr}{u:HO}(c:CelsIn G cs)(h:Rd G a u)(n:∀o,u≠celO o)(n2:∀φ,u≠.ext φ):Rd (rmC G cs) a u:=by
 rcases h with h|⟨o,h⟩
 ·exact .inl (c.rm_some h n)
 ·exact .inr ⟨o,c.rm_some h fun o' z=>by cases z;exact n2 _ rfl⟩
theorem KeysG.rm(c:CelsIn G cs):∀{ks:List Kx}{bs:List Addr},KeysG G ks bs->KeysG (rmC G cs) ks bs
 |[],[],_=>trivial
 |k::ks,b::bs,h=>⟨KRep.keeps (fun _ _ t z=>c.rm_some z (q9f t)) k h.1,KeysG.rm c h.2⟩
 |[],_::_,h=>h.elim
 |_::_,[],h=>h.elim
mutual
theorem Rep.rm(c:CelsIn G cs):∀(w:W){v:V},noFn w=true->Rep K G w v->Rep K (rmC G cs) w v
 |.non,v,_,h=>h
 |.bl b,v,_,h=>h
 |.int i,v,_,h=>h
 |.str x,v,_,h=>h
 |.tup ws,v,n,h=>by
  obtain⟨a,xs,rfl,q,r⟩:=h;refine⟨a,xs,rfl,?_,Reps.rm c ws n r⟩;rcases q with q|q
  ·exact .inl (Rd.rm c q (fun o z=>nomatch z) fun φ z=>nomatch z)
  ·exact .inr q
 |.lst ws,v,n,h=>by
  obtain⟨a,xs,rfl,q,r⟩:=h;refine⟨a,xs,rfl,?_,Reps.rm c ws n r⟩;rcases q with q|q
  ·exact .inl (Rd.rm c q (fun o z=>nomatch z) fun φ z=>nomatch z)
  ·exact .inr q
 |.exc e,v,_,h=>by
  obtain⟨a,rfl,q⟩:=h;exact⟨a,rfl,c.rm_some q fun o z=>by unfold excO at z;cases z⟩
 |.dic kvs,v,_,h=>by
  obtain⟨a,rfl,q⟩:=h;exact⟨a,rfl,c.rm_some q fun o z=>by cases kvs;cases z⟩
 |.dw fz sh ks ws,v,n,h=>by
  obtain⟨a,kvs,kas,rfl,h1,h2,h3,h4⟩:=h;refine⟨a,kvs,kas,rfl,?_,h2,KeysG.rm c h3,Reps.rm c ws n h4⟩;cases fz with
  |true=>obtain⟨o,h1⟩:=h1;exact⟨o,c.rm_some h1 fun o z=>nomatch z⟩
  |false=>exact c.rm_some h1 fun o z=>nomatch z
 |.fn _ _ _,v,n,_=>by cases n
theorem Reps.rm(c:CelsIn G cs):∀(ws:List W){xs:List V},noFns ws=true->Reps K G ws xs->Reps K (rmC G cs) ws xs
 |[],xs,_,h=>h
 |w::ws,xs,n,h=>by
  obtain⟨x,r,rfl,h1,h2⟩:=h
  have n':noFn w=true/\noFns ws=true:=by
   have:(noFn w&&noFns ws)=true:=n
   rwa [w0s]at this
  exact⟨x,r,rfl,Rep.rm c w n'.1 h1,Reps.rm c ws n'.2 h2⟩
end
end
section
variable{G' H':Hp}{cs:Cs}
theorem x4c(h:∀b o,cs.lookup b=some o->H b=none):Same H (addC H cs):=fun b u e=>by
 cases q:cs.lookup b with
 |some o=>rw[h b o q]at e;cases e
 |none=>rw[q0w q];exact e
theorem x2m(h:Same G H):Same (addC G cs) (addC H cs):=fun b u e=>by
 cases q:cs.lookup b with
 |some o=>rw[q2g q]at e |-;exact e
 |none=>rw[q0w q]at e |-;exact h b u e
theorem x4d(h:Same G H):Same (rmC G cs) (rmC H cs):=fun b u e=>by
 obtain⟨e1,e2⟩:=x7h e;rw[q1i e2];exact h b u e1
theorem Grow.lam(ch:CelsIn H cs)(cg:CelsIn G cs)(e1:Same (rmC H cs) H')(e2:Same (rmC G cs) G')(e3:Same G' H')(e4:∀a,rmC H cs a≠none->G' a=rmC G cs a):Grow G H (addC G' cs) (addC H' cs) where
 hh:=fun b u e=>by
  cases q:cs.lookup b with
  |some o=>rw[q2g q];rw[ch b o q]at e;exact e
  |none=>rw[q0w q];exact e1 b u (by rw[q1i q];exact e)
 gg:=fun b u e=>by
  cases q:cs.lookup b with
  |some o=>rw[q2g q];rw[cg b o q]at e;exact e
  |none=>rw[q0w q];exact e2 b u (by rw[q1i q];exact e)
 sub:=x2m e3
 new:=fun a ha=>by
  cases q:cs.lookup a with
  |some o=>rw[q2g q,cg a o q]
  |none=>
   rw[q0w q,e4 a (by rw[q1i q];exact ha),q1i q]
theorem Grow.nocells(g:Grow (addC G cs) (addC H cs) G' H')(hn:∀b o,cs.lookup b=some o->H b=none)(sg:Same G H):Grow G H (rmC G' cs) (rmC H' cs) where
 hh:=fun b u e=>by
  cases q:cs.lookup b with
  |some o=>rw[hn b o q]at e;cases e
  |none=>rw[q1i q];exact g.hh b u (by rw[q0w q];exact e)
 gg:=fun b u e=>by
  cases q:cs.lookup b with
  |some o=>have:=sg b u e;rw[hn b o q]at this;cases this
  |none=>rw[q1i q];exact g.gg b u (by rw[q0w q];exact e)
 sub:=x4d g.sub
 new:=fun a ha=>by
  cases q:cs.lookup a with
  |some o=>exact absurd (hn a o q) ha
  |none=>rw[q1i q,g.new a (by rw[q0w q];exact ha),q0w q]
end
noncomputable def exprFR:R W->FR
 |.ok w _=>.ok (.fr w)
 |.ex c _=>.ex c
 |.no=>.no
def spV(K:PySem.W.Frag)(lams:Nat->Option Lm)(r:Nat->List W->FR):V->List V->Hp->VK->XK->Prop:=fun x vs H Q _=>∃G i l caps ws w,Same G H/\Rep K G (.fn i l caps) x/\Reps K G ws vs/\noFns ws=true/\noFns caps=true/\lams i=some l /\
 r i (ws++caps)=.ok (.fr w)/\∀G' H' v,Grow G H G' H'->Rep K G' w v->Q v H'
structure LamOk(P:Program)(w:World)(K:PySem.W.Frag)(mg:Str->Option Value)(base:Heap)(n:Nat)(l:Lm)(ps:List Str)(F:List W->FR):Prop where
 sc:LamScope ps l.nf l.scope
 bind:∀(cl:List (Str×Addr))(pm:Value)(c':Addr)(ctv:Value)(us:List Value),us.length=ps.length->bindArgs (PySem.W.kla_fn "<lambda>" l.qual l.params l.body l.scope cl pm (.ref c') ctv) ⟨us,[]⟩=pure (ps.zip us)
 len:∀ws,F ws≠.no->ws.length=ps.length+l.nf.length
 body:∀ws,F ws≠.no->∀(Z:Zt)(f:Addr)(cd:Value)(cl:List (Str×Addr))(A:Around)(outer:List Env)(s:Shared)(H:Hp),Room n (A.deeper (lamEnv l.qual l.scope f cd cl s)) ->
  ∃d,DE Z (cxLam P w K mg base (ps++l.nf) l.qual l.scope f cd cl A outer s H) (fun _=>E0) l.body d/\exprFR (d (ws.map .fr))=F ws
theorem z06{P:Program}{w:World}{mg:Str->Option Value}{base:Heap}{n:Nat}{lams:Nat->Option Lm}(h:∀i l,lams i=some l->∃ps,LamOk P w K mg base n l ps (r i)):
  FnV P w K mg base (CX1 P w) (n+1) (spV K lams r):=by
 rintro x vs H Q E ⟨G,i,l,caps,ws,w',sg,rf,rv,nw,nc,hl,hr,q⟩;obtain⟨ps,L⟩:=h i l hl;obtain⟨f,cl,zs,cs,rfl,⟨pm,c',ctv,ef⟩,FC,rz⟩:=rf;have hn:r i (ws++caps)≠.no:=by rw[hr];exact fun z=>nomatch z
 have hlen:=L.len _ hn;have hz:zs.length=l.nf.length:=FC.len;have hcl:caps.length=l.nf.length:=by rw[<- rz.length];exact hz
 have hwl:ws.length=ps.length:=by rw[w0g,hcl]at hlen;omega
 have hvl:vs.length=ps.length:=by rw[rv.length];exact hwl
 have cg:CelsIn G cs:=fun b o e=>(FC.cel b o e).1
 have ch:CelsIn H cs:=fun b o e=>sg _ _ (cg b o e)
 refine⟨f,_,_,_,_,_,rfl,sg _ _ ef,fun A outer s us hR e0 ru=>?_⟩
 have hul:us.length=ps.length:=by rw[<- ru.length];exact hvl
 have FC2:LamCells cl l.nf l.scope zs s.heap cs:=⟨FC.inj,FC.has,FC.all,fun c o e=>⟨(show s.heap.get? c=some o/\_ from e0.hok c _ (ch c o e)).1,(FC.cel c o e).2⟩,FC.val⟩
 obtain⟨d,hd,he⟩:=L.body _ hn ⟨rmC H cs,rmC G cs,[]⟩ f (.ref c') cl A outer s (rmC H cs) (hR.deeper _);refine lam_run hR e0 (sg _ _ ef) L.sc ch FC2 (L.bind cl pm c' ctv us hul) hvl hz ru hd ?_;have sg':Same (rmC G cs) (rmC H cs):=x4d sg;have rr:Reps K (rmC G cs) (ws++caps) (vs++zs):=(Reps.rm cg ws nw rv).append (Reps.rm cg caps nc rz);have rel:=q5c (N:=ps++l.nf) sg' rr
 have e1:L2.start (ps++l.nf) (vs++zs)=vs.map some++zs.map some:=by
  unfold L2.start;rw[show(ps++l.nf).length-(vs++zs).length=0 by simp[hvl,hz],w4i,w1n,w0r]
 have e2:init (ps++l.nf).length (ws++caps)=(ws++caps).map .fr:=by
  unfold init;rw[show(ps++l.nf).length-(ws++caps).length=0 by simp[hwl,hcl],w4i,w1n]
 rw[e1,e2]at rel;refine⟨rmC G cs,_,rel,?_⟩;cases hde:d ((ws++caps).map .fr)with
 |ok w2 e'=>
  rw[hde,hr]at he;cases he;intro G' v H' r' sG rp hnone
  have hn':∀b o,cs.lookup b=some o->G' b=none:=fun b o z=>by
   cases q2:G' b with
   |none=>rfl
   |some u=>have:=r'.sub b u q2;rw[hnone b o z]at this;cases this
  exact q (addC G' cs) (addC H' cs) v (Grow.lam ch cg (fun b u e=>r'.ent b u e (fun z=>nomatch z)) sG r'.sub r'.gen) (Rep.mono (x4c hn') _ rp)
 |ex c e'=>rw[hde,hr]at he;cases he
 |no=>rw[hde,hr]at he;cases he
section
variable{e:Expr}{k:Nat}{lams:Nat->Option Lm}
open Classical in
noncomputable def callVK(lams:Nat->Option Lm)(r:Nat->List W->FR)(j:Nat)(l:Lm)(caps:List W)(ws:List W)(e1:List S):R W:=
 if lams j=some l/\noFns ws=true/\noFns caps=true then(match r j (ws++caps)with
  |.ok (.fr w)=>.ok w e1
  |_=>.no)else .no
noncomputable def callV0(lams:Nat->Option Lm)(r:Nat->List W->FR)(dA:Den (List W))(e:List S):Option S->R W
 |some (.fr (.fn j l caps))=>(dA e).bind fun ws e1=>callVK lams r j l caps ws e1
 |_=>.no
end
noncomputable def capsOf:List Nat->List S->Option (List W)
 |[],_=>some []
 |j::js,e=>match e[j]? with
  |some (.fr w)=>(capsOf js e).map (w::·)
  |_=>none
theorem x2n{σ:L2.St}(r:Rel K Z G σ H e):∀{js:List Nat}{caps:List W},capsOf js e=some caps->∃zs:List V,Reps K G caps zs/\zs.length=js.length/\∀(i j:Nat) z,js[i]?=some j->zs[i]?=some z->σ[j]?=some (some z)
 |[],caps,h=>by
  cases h;exact⟨[],rfl,rfl,fun i j z h _=>by simp at h⟩
 |j::js,caps,h=>by
  unfold capsOf at h;split at h
  ·rename_i w hw;obtain⟨cs,h1,rfl⟩:=w0f.mp h;obtain⟨zs,r1,r2,r3⟩:=x2n r h1;obtain⟨v,v1,v2⟩:=r.fr hw;refine⟨v::zs,⟨v,zs,rfl,v2,r1⟩,by simp[r2],fun i j' z g1 g2=>?_⟩
   cases i with
   |zero=>
    simp only[w1g,Option.some.injEq]at g1 g2;subst g1;subst g2;exact v1
   |succ i=>exact r3 i j' z (by simpa using g1) (by simpa using g2)
  ·cases h
section
variable{a b:Expr}{da db:Den W}
noncomputable def repL:W->W->Option (List W)
 |.lst ws,.int k=>if okI k=true/\ws.length*k.toNat<=16777216 then some (List.replicate k.toNat ws).flatten else none
 |_,_=>none
noncomputable def dRepF(da db:Den W):Den (List W):=fun e=>(da e).bind fun x e1=>(db e1).bind fun y e2=>ofOpt (repL x y) e2
theorem z07(ha:DE Z X EE a da)(hb:DE Z X EE b db):DF Z X EE (.BinOp a .Mult b pos) (dRepF da db):=by
 refine PE.mono (x7b y6j ha hb) ?_;rintro σ H Q ⟨G,e,rel,h⟩;simp only[dRepF,R.holds_bind,ofOpt_holds]at h;refine⟨G,e,rel,h.imp (fun x e1 h G1 v1 H1 r1 s1 p1=>?_) fun _ _ h=>h⟩
 refine⟨G1,e1,r1,h.imp (fun y e2 h G2 v2 H2 r2 s2 p2=>?_) fun _ _ h G' H' r s=>h G' H' r (s1.trans s)⟩
 obtain⟨out,hf,h⟩:=h;unfold repL at hf;split at hf
 ·rename_i ws k;split at hf
  ·rename_i hc;cases hf;obtain⟨l,xs,rfl,hq,rp⟩:=Rep.mono s2 _ p1;cases(show v2=.int k from p2);have b:=q69 hc.1;refine⟨l,k,xs,rfl,rfl,r2.sub.seq hq,by omega,by omega,by rw[rp.length,sizeLine_eq];exact hc.2,?_⟩;exact q6m r2 (s1.trans s2) (q9z rp k.toNat) h
  ·cases hf
 ·cases hf
end
theorem y61{da db:Den W}:dRepF da db e=(da e).bind fun x e1=>(db e1).bind fun y e2=>ofOpt (repL x y) e2:=rfl
noncomputable def noE:Expr:=.Name "" ⟨0,0,0,0⟩
noncomputable def stAt(i:Nat)(st:Stmt):Stmt:=(defBody st).getD i (.Pass ⟨0,0,0,0⟩)
noncomputable def stVal:Stmt->Expr
 |.Assign _ v _=>v
 |.Return (some v) _=>v
 |.For _ it _ _ _=>it
 |.Expr v _=>v
 |_=>noE
noncomputable def argAt(i:Nat):Expr->Expr
 |.Call _ as _ _=>as.getD i noE
 |_=>noE
noncomputable def lamParams:Expr->Arguments
 |.Lambda p _ _ _=>p
 |_=>default
noncomputable def lamBody:Expr->Expr
 |.Lambda _ b _ _=>b
 |_=>noE
noncomputable def lamScope:Expr->Scope
 |.Lambda _ _ s _=>s
 |_=>default
def MakK(K:PySem.W.Frag)(x:Str)(cdv:Value):Prop:=∃c P a,cdv=.ref c/\codeHdIn K c P=true/\(a,markO P ((x++".<locals>.")++"<lambda>"))∈K
section
variable{P:Program}{w:World}{mg:Str->Option Value}{base:Heap}
theorem z3q{CX:CXT}{scope:Scope}{f:Addr}{cdv:Value}{A:Around}{outer:List Env}{s:Shared}{E:XK}(h:MakK K x cdv)(b:BMain base mg):Maker (cxOf CX P w K mg base N x scope f cdv A outer s H E):=by
 obtain⟨c,P,a,rfl,h1,h2⟩:=h;exact⟨⟨c,P,a,rfl,h1,h2⟩,b⟩
theorem conM{st:Stmt}{k:Nat}(A:At K mg x st ps)(hm:∀f oc od fd sl,mg x=some (.ref f)->K.lookup f=some ⟨oc,od,.func fd,sl⟩->MakK K x fd.code)(sc:FnScope N ps (defScope st))(len:∀ws,F ws≠.no->ws.length=ps.length)
  (hb:∀ws,F ws≠.no->∀(f:Addr)(cdv:Value)(A:Around)(outer:List Env)(s:Shared)(H:Hp)(E:XK)(Z:Zt),Room k (A.deeper (PyProof.Rows.envOfC x (defScope st) s.heap.objs.size f cdv))->MakK K x cdv ->
   ∃d,DSs Z (cxOf (CX1 P w) P w K mg base N x (defScope st) f cdv A outer s H E) (fun _=>E) (defBody st) d/\(d (init N.length ws)).fn=F ws):Cal P w K mg base (k+1) x ps (spF K F):=by
 obtain⟨f,fd,F0,m,b⟩:=A.ex;have kp:=F0.kp;obtain⟨oc,od,kV,doc,pm,an,cdv,ct,osl,rfl,lk,hcd⟩:=F0.ex;have hk:MakK K x cdv:=hm f _ _ _ _ m lk;refine⟨f,_,y35 lk hcd sc (fun vs H Q E h=>?_) (fun A outer s H vs Q E hr h=>?_),m,kp,b⟩
 ·obtain⟨G,ws,hn,r⟩:=q7c h;rw[r.length];exact len ws hn
 ·obtain⟨G,ws,sg,rp,h⟩:=h;have hn:F ws≠.no:=fun z=>by rw[z]at h;exact h
  obtain⟨d,hd,he⟩:=hb ws hn f cdv A outer s H E ⟨H,G,[]⟩ hr hk;exact⟨_,hd,G,init N.length ws,q5c sg rp,q7d he h⟩
theorem fnV0{lams:Nat->Option Lm}(h:∀i ws,r i ws=.no:=by intro _ _;rfl):FnV P w K mg base (CX1 P w) 0 (spV K lams r):=by
 rintro x vs H Q E ⟨G,i,l,caps,ws,w',sg,rf,rv,nw,nc,hl,hr,q⟩;rw[h]at hr;cases hr
end
noncomputable def markT(K:PySem.W.Frag)(tabs:List (Addr×Str)):PySem.W.Frag:=K++tabs.map fun p=>(mainGlobals,markO p.1 p.2)
section
variable{tabs:List (Addr×Str)}{a:Addr}{o:Obj}
theorem q0v(h:K.lookup a=some o):(markT K tabs).lookup a=some o:=by
 unfold markT;rw[w4l,h];rfl
theorem x1k(hG:(K.lookup mainGlobals).isSome=true):(markT K tabs).lookup a=K.lookup a:=by
 unfold markT;rw[w4l];cases q:K.lookup a with
 |some o=>rfl
 |none=>
  have ne:a≠mainGlobals:=fun z=>by rw[<- z,q]at hG;cases hG
  have:∀l:List (Addr×Str),(l.map fun p=>(mainGlobals,markO p.1 p.2)).lookup a=none:=fun l=>by
   induction l with
   |nil=>rfl
   |cons p l ih=>rw[w0i,w0z,beq_eq_false_iff_ne.mpr ne];exact ih
  rw[this];rfl
theorem in_m{h:Heap}(hG:(K.lookup mainGlobals).isSome=true)(X:K.In h):(markT K tabs).In h:=fun b u e=>X b u (by rw[<- x1k (tabs:=tabs) hG];exact e)
theorem no_m(hG:(K.lookup mainGlobals).isSome=true)(n:NoTup K):NoTup (markT K tabs):=fun b u e=>n b u (by rw[<- x1k (tabs:=tabs) hG];exact e)
theorem ns_m{r:Option Value}(h:PySem.W.nsIn K a x=some r):PySem.W.nsIn (markT K tabs) a x=some r:=by
 unfold PySem.W.nsIn at h |-
 cases q:K.lookup a with
 |none=>rw[q]at h;cases h
 |some o=>rw[q0v q];rw[q]at h;exact h
theorem q0y{cd:Value}(h:PySem.W.codeIn K cd x=true):PySem.W.codeIn (markT K tabs) cd x=true:=by
 cases cd with
 |ref a=>
  unfold PySem.W.codeIn at h |-
  dsimp only at h |-
  cases q:K.lookup a with
  |none=>rw[q]at h;cases h
  |some o=>rw[q0v q];rw[q]at h;exact h
 |_=>cases h
theorem q0z(t:funAt K a=true):keepIn (markT (dropT K) tabs) (.ref a)=true:=by
 have h:=t;unfold funAt at t
 rw[w0s]at t;obtain⟨t1,t2⟩:=t;have t1:tupAt K a=false:=by simpa using t1
 unfold keepIn;dsimp only;split at t2
 ·rename_i q;rw[q0v (q0j q t1)]
 ·cases t2
theorem x70(h:noMark K=true)(hd:tabs.all (fun p=>tabs.lookup p.1==some p.2)=true):∀a q P,(a,markO P q)∈markT K tabs->tabs.lookup P=some q:=fun a q P m=>by
 rcases w1r.mp m with m|m
 ·have:=w1c.mp h _ m;cases this
 ·obtain⟨p,hp,e⟩:=w1u.mp m;have e1:markO p.1 p.2=markO P q:=(Prod.mk.inj e).2;have e2:p.2=q:=by injection e1 with h1;injection h1
  have e3:p.1=P:=by
   injection e1 with _ _ h3
   injection h3 with h4
   have:=congrArg (fun a:Array Value=>a[0]?) h4
   simpa using this
  have:=w1c.mp hd p hp;rw[<- e2,<- e3]
  simpa using this
theorem x5r(h:noMark K=true):noMark (dropT K)=true:=w1c.mpr fun p hp=>w1c.mp h p (w3t.mp hp).1
theorem tabs_none(hG:(K.lookup mainGlobals).isSome=true)(h:tabs.all (fun p=>(K.lookup p.1).isNone)=true):∀P q,tabs.lookup P=some q->(markT K tabs).lookup P=none:=fun P q e=>by
 rw[x1k hG];have:=w1c.mp h _ (mem_look e)
 simpa using this
where
 mem_look:∀{l:List (Addr×Str)}{P:Addr}{q:Str},l.lookup P=some q->(P,q)∈l
 |[],_,_,e=>by cases e
 |(b,t)::l,P,q,e=>by
  rw[w0z]at e
  by_cases hb:(P==b)=true
  ·rw[hb]at e;cases e;rw[eq_of_beq hb];exact .head _
  ·rw[w1j.mpr hb]at e;exact .tail _ (mem_look e)
theorem y62{h:Heap}(X:K.In h)(hT:∀P∈tabs.map (·.1),h.get? P=some (tabObj #[]))(hc:∀p∈tabs,∃c,codeHdIn K c p.1=true):∀P q,tabs.lookup P=some q->h.get? P=some (tabObj #[])/\isCodeTable h P:=fun P q e=>by
 have m:=tabs_none.mem_look e;obtain⟨c,hc⟩:=hc _ m;have g:=hT P (w1u.mpr ⟨_,m,rfl⟩);exact⟨g,((PySem.W.codeHd_of_K X hc).tab g).isCodeTable⟩
end
section
variable{ws caps:List W}{lams:Nat->Option Lm}{d:Den W}{i j:Nat}{l:Lm}{w:W}{js:List Nat}
theorem x99:callV0 lams r dA e (some (.fr (.fn j l caps)))=(dA e).bind fun ws e1=>callVK lams r j l caps ws e1:=rfl
theorem y3b:capsOf [] e=some []:=rfl
end
end D
namespace L2
open PySem PySem.Spec PyProof.Rows
end L2
namespace D
open PySem L2
end D
namespace L2
open PySem PySem.Spec PyProof.Rows
end L2
namespace D
open PySem L2
end D
namespace L2
open PySem PySem.Spec PyProof.Rows
namespace RevT
end RevT
open PySem PySem.Spec PyProof.Rows
end L2
namespace D
open PySem L2
end D
namespace L2
open PySem PySem.Spec PyProof.Rows
end L2
namespace D
open PySem L2 PySem.Spec PyProof.Rows
open PyProof.Rows (envOfC)
variable{d1:Addr}{X:Cx}{dA dF:Den (List W)}{da:Den W}{e:Expr}{G G' H:Hp}{n v:Int}{σ:L2.St}{EE:L2.St->XK}{L ka:List Addr}{es:List Expr}{d:List S->SR}{ss:List Stmt}{ps:List Str}{vs:List V}{caps ws:List W}{F F2:List W->FR}{L' i m r:Nat}{p pos:Pos}{K:PySem.W.Frag}{spB:Sp}{tn x y:Str}{mg:Str->Option Value}{κ:Type}{va vt:V}{spA:V->List V->Hp->VK->XK->Prop}{tw w:W}{E:XK}{Z:Zt}
mutual
theorem x2o{K:PySem.W.Frag}{Z:Zt}{G:Hp}:∀(w:W){v:V},flatW w=true->Rep K G w v->RepN K Z G w v
 |.non,_,_,p=>p
 |.bl _,_,_,p=>p
 |.int _,_,_,p=>p
 |.str _,_,_,p=>p
 |.tup ws,_,h,⟨a,xs,e,q,r⟩=>⟨a,xs,e,q,q58 ws h r⟩
 |.lst _,_,h,_=>by cases h
 |.exc _,_,h,_=>by cases h
 |.dic _,_,h,_=>by cases h
 |.dw _ _ _ _,_,h,_=>by cases h
 |.fn _ _ _,_,h,_=>by cases h
theorem q58{K:PySem.W.Frag}{Z:Zt}{G:Hp}:∀(ws:List W){vs:List V},flatWs ws=true->Reps K G ws vs->RepNs K Z G ws vs
 |[],_,_,p=>p
 |w::ws,_,h,⟨x,r,e,p,q⟩=>by
  have h:(flatW w&&flatWs ws)=true:=h;rw[w0s]at h;exact⟨x,r,e,x2o w h.1 p,q58 ws h.2 q⟩
end
theorem RepNs.length{xs:List V}(h:RepNs K Z G ws xs):ws.length=xs.length:=(RepNs.reps ws h).length.symm
section
variable{e:List S}
theorem Rel.drop1(r:Rel K Z G σ H e)(i:Nat):Rel K Z G σ H (e.set i .no):=r.forget (by simp) fun k s z=>by
 by_cases hk:k=i
 ·subst hk
  have hi:k<e.length:=by
   have:=(w0b.mp z).1;simpa using this
  rw[w0l hi]at z;cases z;exact .inl rfl
 ·rw[w0j (fun z=>hk z.symm)]at z;exact .inr z
theorem Rel.give(r:Rel K Z G σ H e)(h:e[i]?=some (.own none ws)):∃a xs,σ[i]?=some (some (.ref a))/\Same G (upd G a (.lst xs))/\Z.H a=none/\Reps K G ws xs/\H a=some (.lst xs)/\Rel K Z (upd G a (.lst xs)) σ H (e.set i .no):=by
 obtain⟨a,xs,h1,h2,h3,h4,h5⟩:=r.own h;have h4:Z.H a=none:=h4
 have fr:Free σ (e.set i .no) a:=fun j b ws' z q=>by
  by_cases hj:j=i
  ·subst hj;have hi:j<e.length:=(w0b.mp h).1;rw[w0l hi]at z;cases z
  ·rw[w0j (fun z=>hj z.symm)]at z
   exact hj (r.dis _ _ _ _ _ _ _ z h q h1)
 obtain⟨sg,r2⟩:=(r.drop1 i).seen h2 h3 h4 fr;exact⟨a,xs,h1,sg,h4,h5,h2,r2⟩
end
section
variable{a b c:Expr}{db d:Den W}{dN:Den (List W)}{tpos p1 p2 p3:Pos}
noncomputable def appNK(i j:Nat)(e:List S):Option S->Option S->SR
 |some (.x (.acc us)),some (.own none ws)=>if(us.length<16777216/\flatWs ws=true)/\((e.set j .no).set i .no).all (fun s=>!isT s)=true then .nx ((e.set j .no).set i (.x (.acc (us++[.lst ws]))))else .no
 |_,_=>.no
end
section
variable(K:PySem.W.Frag)(Z:Zt)(EE:L2.St->XK)
def liftN(d:Den W):TE:=fun σ H Q=>AtG K Z σ H fun G e=>(d e).holds (fun w e'=>∀G' v H',Rel K Z G' σ H' e'->Same G G'->RepN K Z G' w v->Q v H') (XH K Z EE σ G)
def liftNA(d:Den (List W)):TA:=fun σ H Q=>AtG K Z σ H fun G e=>(d e).holds (fun ws e'=>∀G' vs H',Rel K Z G' σ H' e'->Same G G'->RepNs K Z G' ws vs->Q vs H') (XH K Z EE σ G)
end
def DN(Z:Zt)(X:Cx)(EE:L2.St->XK)(e:Expr)(d:Den W):Prop:=PE X e (liftN X.K Z EE d)
def DNA(Z:Zt)(X:Cx)(EE:L2.St->XK)(es:List Expr)(d:Den (List W)):Prop:=PA X es (liftNA X.K Z EE d)
section
variable{Z':Zt}{cs:Cs}
mutual
theorem RepN.rm(c:CelsIn G cs)(hz:∀a,Z.H a=none->Z'.H a=none):∀(w:W){v:V},RepN K Z G w v->RepN K Z' (rmC G cs) w v
 |.non,_,h=>h
 |.bl _,_,h=>h
 |.int _,_,h=>h
 |.str _,_,h=>h
 |.tup ws,_,⟨a,xs,e,q,r⟩=>by
  refine⟨a,xs,e,?_,RepNs.rm c hz ws r⟩;rcases q with q|q
  ·exact .inl (Rd.rm c q (fun o z=>nomatch z) fun φ z=>nomatch z)
  ·exact .inr q
 |.lst ws,_,⟨a,xs,e,q,n,r⟩=>⟨a,xs,e,c.rm_some q (fun o z=>nomatch z),hz a n,RepNs.rm c hz ws r⟩
 |.exc _,_,h=>h.elim
 |.dic _,_,h=>h.elim
 |.dw _ _ _ _,_,h=>h.elim
 |.fn _ _ _,_,h=>h.elim
theorem RepNs.rm(c:CelsIn G cs)(hz:∀a,Z.H a=none->Z'.H a=none):∀(ws:List W){xs:List V},RepNs K Z G ws xs->RepNs K Z' (rmC G cs) ws xs
 |[],_,h=>h
 |w::ws,_,⟨x,r,e,p,q⟩=>⟨x,r,e,RepN.rm c hz w p,RepNs.rm c hz ws q⟩
end
end
section
variable{a b c:Expr}{db d:Den W}{dN:Den (List W)}{tpos p1 p2 p3:Pos}
noncomputable def dFlat(d:Den W):Den W:=fun e=>(d e).bind fun w e1=>if flatW w=true then .ok w e1 else .no
theorem y63(he:DE Z X EE e d):DN Z X EE e (dFlat d):=by
 refine PE.mono he ?_;rintro σ H Q ⟨G,e,rel,h⟩;refine⟨G,e,rel,(R.holds_bind.mp h).imp (fun w e1 h G1 v H1 r1 s1 p1=>?_) fun _ _ h=>h⟩
 split at h
 ·rename_i hf;exact h G1 v H1 r1 s1 (x2o w hf p1)
 ·exact h.elim
noncomputable def nVarK(e:List S):Option S->R W
 |some (.x (.new w))=>.ok w e
 |_=>.no
noncomputable def nOwnK(i:Nat)(e:List S):Option S->R W
 |some (.own none ws)=>if flatWs ws=true then .ok (.lst ws) (e.set i .no)else .no
 |_=>.no
noncomputable def dNOwn(i:Nat):Den W:=fun e=>nOwnK i e e[i]?
theorem z08(i:Nat)(hN:X.N[i]?=some x:=by rfl)(hv:Vis X.env.scope x:=by walk_at "1")(hd:(x==("__debug__":Str))=false:=by decide)(hcd:(x==("__classdict__":Str))=false:=by decide):DN Z X EE (.Name x pos) (dNOwn i):=by
 refine PE.mono (pv i hN hv hd hcd) ?_;rintro σ H Q ⟨G,e,r,h⟩;unfold dNOwn nOwnK at h;split at h
 ·rename_i ws he;split at h
  ·rename_i hfl;obtain⟨a,xs,hv,sg,hz,rps,hH,r2⟩:=r.give he;exact⟨.ref a,hv,h _ (.ref a) H r2 sg ⟨a,xs,rfl,q0h,hz,q58 ws hfl (Reps.mono sg ws rps)⟩⟩
  ·exact h.elim
 ·exact h.elim
theorem y64:DNA Z X EE [] dNil:=PA.mono q1z fun σ H Q ⟨G,e,r,h⟩=>h G [] H r (.refl _) rfl
theorem x4e(ha:DN Z X EE e da)(hr:DNA Z X EE es dA)(hs:starEach (e::es) X.env=(false,eval e X.env)::starEach es X.env:=by rfl):DNA Z X EE (e::es) (dCons da dA):=by
 refine PA.mono (q0s ha hr hs) ?_;rintro σ H Q ⟨G,e,rel,h⟩;simp only[dCons,R.holds_bind]at h;refine⟨G,e,rel,h.imp (fun x e1 h G1 v1 H1 r1 s1 p1=>?_) fun _ _ h=>h⟩
 refine⟨G1,e1,r1,h.imp (fun xs e2 h G2 vs H2 r2 s2 p2=>?_) fun _ _ h=>XH.trans s1 h⟩
 exact h G2 (v1::vs) H2 r2 (s1.trans s2) ⟨v1,vs,rfl,RepN.move s2 (fun _ _ _ z=>z) x p1,p2⟩
theorem z09{x1}(h:DNA Z X EE es dA):DN Z X EE (.Tuple es x1 pos) (dTup dA):=by
 refine PE.mono (x0d h) ?_;rintro σ H Q ⟨G,e,rel,h⟩;simp only[dTup,R.holds_bind]at h;refine⟨G,e,rel,h.imp (fun ws e1 h G1 vs H1 r1 s1 p1=>?_) fun _ _ h=>h⟩
 split at h
 ·rename_i hl;refine⟨by rw[<- p1.length,sizeLine_eq];exact hl,fun p hp=>?_⟩
  have g:=Grow.laid r1.sub hp (.tup vs);exact(show ∀G' v H',_->_->RepN X.K Z G' (.tup ws) v->Q v H' from h) _ (.ref p) _ (r1.grow g) (s1.trans g.gg) ⟨p,vs,rfl,SqT.of q0h,RepNs.move g.gg (fun _ _ _ z=>z) ws p1⟩
 ·exact h.elim
noncomputable def dRetNw(d:Den W):List S->SR:=fun e=>(d e).stm fun w e1=>.rt (.x (.new w)) e1
theorem q94(he:DN Z X EE e d):DS Z X EE (.Return (some e) pos) (dRetNw d):=by
 refine PS.mono (q6g he) ?_;rintro D σ H ⟨G,e,rel,h⟩;exact⟨G,e,rel,(q1f h).imp (fun w e1 h G1 v1 H1 r1 s1 p1=>h G1 σ v1 H1 r1 s1 ⟨v1,rfl,p1⟩) fun _ _ h=>h⟩
noncomputable def dSetNw(i:Nat)(d:Den W):List S->SR:=fun e=>(d e).stm fun w e1=>.nx (e1.set i (.x (.new w)))
theorem x4f(i:Nat){pos':Pos}(hN:X.N.Nodup)(he:DN Z X EE e d)(hi:X.N[i]?=some x:=by rfl)(hx:Loc X.env.scope x:=by walk_at "3")(hs:swapsWith e (some (.Name x pos')) pos.line X.env=pure false:=by rfl)(hf:X.fn x=true\/X.env.scope.names.lookup x=some .local:=by walk_at "2"):
  DS Z X EE (.Assign [.Name x pos'] e pos) (dSetNw i d):=by
 refine PS.mono (q6w i hN he hi hx hs hf) ?_;rintro D σ H ⟨G,e,rel,h⟩;exact⟨G,e,rel,(q1f h).imp (fun w e1 h G1 v1 H1 r1 q1 p1=>h G1 _ H1 (r1.setS (s:=.x (.new w)) (fun _ _ z=>nomatch z) ⟨v1,rfl,p1⟩) q1) fun _ _ h=>h⟩
end
noncomputable def callNK(e:List S):FR->R W
 |.ok (.x (.new w))=>.ok w e
 |.ex c=>.ex c e
 |_=>.no
noncomputable def dCallN(F:List W->FR)(dA:Den (List W)):Den W:=fun e=>(dA e).bind fun ws e1=>callNK e1 (F ws)
noncomputable def lamNRes(e1:List S):FR->R W
 |.ok (.x (.new w))=>.ok w e1
 |.ex c=>.ex c e1
 |_=>.no
noncomputable def lamNK(F:List W->FR)(j:Nat)(l:Lm)(w:W)(e1:List S):Option (List W)->R W
 |some caps=>lamNRes e1 (F [w,.fn j l caps])
 |none=>.no
noncomputable def dLamN(F:List W->FR)(j:Nat)(l:Lm)(js:List Nat)(d:Den W):Den W:=fun e=>(d e).bind fun w e1=>lamNK F j l w e1 (capsOf js e1)
section
variable{body:Expr}{params:Arguments}{d:Den W}{lpos:Pos}{k:Nat}{N nf:List Str}{js:List Nat}{sc scope:Scope}
theorem y0a(C:Cal X.prog X.w X.K X.mg X.base k x ps (spF X.K F))(hr:Room k X.A)(hx:PassX (CX1 X.prog X.w) X EE)(ha:DA Z X EE (e::es) dA)(hg:Gl X x:=by rfl)
  (hdb:(x==("__debug__":Str))=false:=by decide)(he:starEach (e::es) X.env=(false,eval e X.env)::starEach es X.env:=by rfl)(hpl:(backTo pos (starEach es X.env)).any (·.1)=false:=by rfl):
  DN Z X EE (.Call (.Name x p) (e::es) [] pos) (dCallN F dA):=by
 refine PE.mono (q6j C hr hx ha hg hdb he hpl) ?_;rintro σ H Q ⟨G,e,rel,h⟩;simp only[dCallN,R.holds_bind]at h;refine⟨G,e,rel,h.imp (fun ws e1 h G1 vs H1 r1 s1 p1=>?_) fun _ _ h=>h⟩
 refine⟨G1,ws,r1.sub,by rw[w1n];exact p1,?_⟩;cases q:F ws with
 |ok s=>
  rw[q]at h;intro G' H' v g sl;cases s with
  |x k=>
   cases k with
   |new w=>
    obtain⟨u,h1,h2⟩:=sl;cases h1;exact h G' _ H' (r1.grow g) (s1.trans g.gg) (RepN.move (.refl _) (fun a _ _ z=>q4c r1 z) w h2)
   |_=>exact h.elim
  |_=>exact h.elim
 |ex c=>
  rw[q]at h;exact x3e r1 s1 h
 |no=>rw[q]at h;exact h.elim
theorem x71(j:Nat)(l:Lm)(C:Cal X.prog X.w X.K X.mg X.base k x ps (spF X.K F))(hr:Room k X.A)(hx:PassX (CX1 X.prog X.w) X EE)(M:Maker X)(hfn:∀y,X.fn y=true)(he:DE Z X EE e d)(ok:compOk sc scope N nf js=true)
  (hl:l=⟨X.env.qual++"<lambda>", params,body,scope,nf⟩:=by rfl)(hdef:defaultsOf params X.env=([],[]):=by rfl)(hsc:X.env.scope=sc:=by rfl)(hN:X.N=N:=by rfl)(hg:Gl X x:=by rfl)
  (hdb:(x==("__debug__":Str))=false:=by decide)(hst:starEach [e,.Lambda params body scope lpos] X.env=(false,eval e X.env)::starEach [.Lambda params body scope lpos] X.env:=by rfl)
  (hst2:starEach [.Lambda params body scope lpos] X.env=(false,eval (.Lambda params body scope lpos) X.env)::starEach [] X.env:=by rfl)(hpl:(backTo pos (starEach [.Lambda params body scope lpos] X.env)).any (·.1)=false:=by rfl):
  DN Z X EE (.Call (.Name x p) [e,.Lambda params body scope lpos] [] pos) (dLamN F j l js d):=by
 obtain⟨fa,fd,FF,m,kp,bd⟩:=C.ex;unfold compOk at ok;simp only[w0s,w1c,beq_iff_eq,bne_iff_ne,w3v,w1d]at ok;obtain⟨⟨⟨⟨⟨⟨k1,k2⟩,k3⟩,k4⟩,k5⟩,k6⟩,k7⟩:=ok;have kind:∀x,X.env.kindOf x=sc.names.lookup x:=fun x=>by rw[<- hsc];rfl
 refine PE.mono (x7j (Nf:=nf) (js:=js) FF hr hg m kp bd hx M hfn he hdef (fun x hx hf=>?_) (fun i j y e1 e2=>?_) hdb hst hst2 hpl) ?_
 ·rw[kind];rcases k4 x hx with(z|z)|z
  ·exact absurd hf z
  ·exact .inl z
  ·exact .inr z
 ·have hlt:i<js.length:=(w0b.mp e2).1;have z:=k6 i hlt;rw[e1,e2]at z;obtain⟨z1,z2⟩:=k7 y (w0u e1);refine⟨by rw[hN];simpa using z,PySem.mem_of_lookup z1,?_,?_⟩
  ·rw[hsc];rcases z2 with z|z
   ·exact .inr (.inl z)
   ·exact .inr (.inr z)
  ·rw[kind];rcases z2 with z|z<;>(rw[z];decide)
 ·rintro σ H Q ⟨G,en,rel,h⟩;simp only[dLamN,R.holds_bind]at h;refine⟨G,en,rel,h.imp (fun w e1 h G1 v1 H1 r1 s1 p1 f clos H2 la=>?_) fun _ _ h=>h⟩
  obtain⟨hclos,Hm,pm,ctv,c',hH,hf,rfl⟩:=la
  have rm:Rel X.K Z G1 σ Hm e1:=by
   rcases hH with rfl|⟨c,oc,hc,rfl⟩
   ·exact r1
   ·exact r1.grow (Grow.hid r1.sub hc _)
  have gl:=Grow.laid rm.sub hf (fnO (kla_obj "<lambda>" (X.env.qual++"<lambda>") params body scope clos pm c' ctv) (X.env.qual++"<lambda>") c');have r2:=rm.grow gl;refine⟨clos,hclos,fun cs co=>?_⟩
  cases hcap:capsOf js e1 with
  |none=>rw[hcap]at h;exact h.elim
  |some caps=>
   rw[hcap]at h;obtain⟨zs,rz,zl,zv⟩:=x2n r1 hcap;have hn2:∀b o,cs.lookup b=some o->upd Hm f (fnO (kla_obj "<lambda>" (X.env.qual++"<lambda>") params body scope clos pm c' ctv) (X.env.qual++"<lambda>") c') b=none:=fun b o z=>(co.cel b o z).1
   have gn2:∀b o,cs.lookup b=some o->upd G1 f (fnO (kla_obj "<lambda>" (X.env.qual++"<lambda>") params body scope clos pm c' ctv) (X.env.qual++"<lambda>") c') b=none:=fun b o z=>by
    cases q:upd G1 f (fnO (kla_obj "<lambda>" (X.env.qual++"<lambda>") params body scope clos pm c' ctv) (X.env.qual++"<lambda>") c') b with
    |none=>rfl
    |some u=>have:=r2.sub b u q;rw[hn2 b o z]at this;cases this
   have sA:=gl.gg.trans (x4c gn2)
   have fout:cs.lookup f=none:=by
    cases q:cs.lookup f with
    |none=>rfl
    |some o=>have:=gn2 f o q;rw[q0h]at this;cases this
   have fc:FnCells (addC (upd G1 f (fnO (kla_obj "<lambda>" (X.env.qual++"<lambda>") params body scope clos pm c' ctv) (X.env.qual++"<lambda>") c')) cs) clos l zs cs:=by
    subst hl;refine⟨co.inj,co.has,co.all,fun c o z=>⟨q2g z,(co.cel c o z).2⟩,fun i y z g1 g2=>?_,by rw[zl];exact k5⟩
    have hi:i<js.length:=by rw[<- zl];exact(w0b.mp g2).1
    have g3:js[i]?=some js[i]:=w0a hi;exact co.val i y js[i] z g1 g3 (zv i _ z g3 g2)
   have rfn:Rep X.K (addC (upd G1 f (fnO (kla_obj "<lambda>" (X.env.qual++"<lambda>") params body scope clos pm c' ctv) (X.env.qual++"<lambda>") c')) cs) (.fn j l caps) (.ref f):=by
    refine⟨f,clos,zs,cs,rfl,⟨pm,c',ctv,?_⟩,fc,Reps.mono sA caps rz⟩;rw[q0w fout,q0h,hl]
   refine⟨_,[w,.fn j l caps],x2m r2.sub,⟨v1,[.ref f],rfl,Rep.mono sA w p1,⟨.ref f,[],rfl,rfn,rfl⟩⟩,?_⟩;cases q:F [w,.fn j l caps]with
   |ok s=>
    simp only[lamNK,q]at h;cases s with
    |x k=>
     cases k with
     |new w'=>
      intro G' H' v g sl;obtain⟨u,h1,h2⟩:=sl;cases h1;have g':=Grow.nocells g hn2 r2.sub;have ci:CelsIn G' cs:=fun b o z=>g.gg b _ (q2g z)
      refine h (rmC G' cs) v (rmC H' cs) (r2.grow g') (s1.trans (gl.gg.trans g'.gg)) (RepN.rm ci (fun c z=>q4c r2 ?_) w' h2)
      cases q3:cs.lookup c with
      |some o=>have z:addC _ cs c=none:=z;rw[q2g q3]at z;cases z
      |none=>have z:addC _ cs c=none:=z;rw[q0w q3]at z;exact z
     |_=>exact h.elim
    |_=>exact h.elim
   |ex c=>
    simp only[lamNK,q,lamNRes]at h;intro H' sh;refine x3e r2 (s1.trans gl.gg) h (rmC H' cs) fun b u z=>?_
    cases q2:cs.lookup b with
    |some o=>rw[hn2 b o q2]at z;cases z
    |none=>rw[q1i q2];exact sh b u (by rw[q0w q2];exact z)
   |no=>simp only[lamNK,q,lamNRes]at h;exact h.elim
end
noncomputable def keepN(h:Option HO)(o:HO):Bool:=keepT o||h.isNone
noncomputable def withN(G G2 H:Hp):Hp:=fun a=>match G a with
 |some o=>some o
 |none=>match G2 a with
  |some o=>if keepN (H a) o=true then some o else none
  |none=>none
section
variable{Z':Zt}
mutual
theorem RepN.via(hT:∀a xs,SqT K G a xs->SqT K G' a xs)(hL:∀a xs,G a=some (.lst xs)->Z.H a=none->G' a=some (.lst xs)/\Z'.H a=none):∀(w:W){v:V},RepN K Z G w v->RepN K Z' G' w v
 |.non,_,h=>h
 |.bl _,_,h=>h
 |.int _,_,h=>h
 |.str _,_,h=>h
 |.tup ws,_,⟨a,xs,e,q,r⟩=>⟨a,xs,e,hT _ _ q,RepNs.via hT hL ws r⟩
 |.lst ws,_,⟨a,xs,e,q,n,r⟩=>⟨a,xs,e,(hL _ _ q n).1,(hL _ _ q n).2,RepNs.via hT hL ws r⟩
 |.exc _,_,h=>h.elim
 |.dic _,_,h=>h.elim
 |.dw _ _ _ _,_,h=>h.elim
 |.fn _ _ _,_,h=>h.elim
theorem RepNs.via(hT:∀a xs,SqT K G a xs->SqT K G' a xs)(hL:∀a xs,G a=some (.lst xs)->Z.H a=none->G' a=some (.lst xs)/\Z'.H a=none):∀(ws:List W){vs:List V},RepNs K Z G ws vs->RepNs K Z' G' ws vs
 |[],_,h=>h
 |w::ws,_,⟨x,r,e,p,q⟩=>⟨x,r,e,RepN.via hT hL w p,RepNs.via hT hL ws q⟩
end
end
section
variable{d:Den W}{e0:List S}
theorem Rel.unlentN{G2 H2:Hp}{e2:List S}(r:Rel K Z G σ H e0)(hio:Z.io=[])(r2:Rel K ⟨H,lentG Z G H,[]⟩ G2 σ H2 e2):Rel K Z (withN G G2 H) σ H2 e0:=by
 have hh:Same H H2:=fun a o h=>r2.ent a o h (fun z=>nomatch z)
 have sg:Same G (withN G G2 H):=fun a o h=>by unfold withN;rw[h]
 have stay:∀a o,H a=some o->G a=none->keepT o=false->withN G G2 H a=none:=fun a o h1 h2 h3=>by
  have z:G2 a=lentG Z G H a:=r2.gen a (by show H a≠none;rw[h1];exact fun z=>nomatch z)
  unfold withN;rw[h2,z];unfold lentG;cases q:Z.H a with
  |none=>simp only[h1,keepN,h3];rfl
  |some _=>simp only[h2]
 refine⟨fun a o h=>?_,fun i s h=>?_,r.len,r.dis,fun a o h n=>hh _ _ (r.ent a o h n),fun a h=>(by rw[hio]at h;cases h),fun a h=>?_⟩
 ·unfold withN at h;cases q:G a with
  |some u=>rw[q]at h;cases h;exact hh _ _ (r.sub _ _ q)
  |none=>
   rw[q]at h;cases q2:G2 a with
   |none=>rw[q2]at h;cases h
   |some u=>
    rw[q2]at h;dsimp only at h;split at h
    ·cases h;exact r2.sub _ _ q2
    ·cases h
 ·have q:=r.slot i s h;cases s with
  |no=>trivial
  |fr w=>
   obtain⟨u,q1,q2⟩:=q;exact⟨u,q1,Rep.mono sg w q2⟩
  |own b ws=>
   obtain⟨a,xs,q1,q2,q3,q4,q5⟩:=q;exact⟨a,xs,q1,hh _ _ q2,stay _ _ q2 q3 rfl,q4,Reps.mono sg ws q5⟩
  |dic kvs=>
   obtain⟨a,q1,q2,q3,q4⟩:=q;exact⟨a,q1,hh _ _ q2,stay _ _ q2 q3 (by cases kvs<;>rfl),q4⟩
  |thr us ws vs=>
   obtain⟨t,l,o,xs,ys,zs,q1,q2,q3,q4,q5,q6,q7,q8⟩:=q;exact⟨t,l,o,xs,ys,zs,q1,sg _ _ q2,hh _ _ q3,stay _ _ q3 q4 rfl,q5,Reps.mono sg us q6,Reps.mono sg ws q7,Reps.mono sg vs q8⟩
  |nest wss=>exact NestOk.move q sg fun l o ys k1 k2 k3=>⟨hh _ _ k1,stay _ _ k1 k2 rfl,k3⟩
  |x k=>exact XOk.move q sg fun l o ys k1 k2 k3=>⟨hh _ _ k1,stay _ _ k1 k2 rfl,k3⟩
  |dw sh ks ws=>exact DwOk.move q sg fun l o ys k1 k2 k3=>⟨hh _ _ k1,stay _ _ k1 k2 rfl,k3⟩
 ·have e:∃o,H a=some o:=by
   cases q:Z.H a with
   |none=>exact absurd q h
   |some o=>exact⟨o,r.ent a o q (by rw[hio];exact fun z=>nomatch z)⟩
  obtain⟨o,ho⟩:=e;rw[<- r.gen a h];unfold withN;cases q:G a with
  |some u=>rfl
  |none=>
   have z:G2 a=lentG Z G H a:=r2.gen a (by show H a≠none;rw[ho];exact fun z=>nomatch z)
   rw[z];unfold lentG;cases q2:Z.H a with
   |none=>exact absurd q2 h
   |some _=>simp only[q]
noncomputable def lendN(e:List S):R W->R W
 |.ok w _=>.ok w e
 |.ex c _=>.ex c e
 |.no=>.no
noncomputable def dLendN(d:Den W):Den W:=fun e=>lendN e (d (hideS e))
theorem x6k(hio:Z.io=[])(he:∀Z',DN Z' X EE e d):DN Z X EE e (dLendN d):=by
 intro pins s σ H Q I hq;obtain⟨G,e0,rel,h⟩:=hq;refine he ⟨H,lentG Z G H,[]⟩ pins s σ H Q I ⟨_,hideS e0,rel.lent hio,?_⟩;unfold dLendN lendN at h;cases q:d (hideS e0)with
 |ok w e2=>
  rw[q]at h;dsimp only at h;intro G2 v H2 r2 s2 p
  have kp:∀b o,G2 b=some o->keepN (H b) o=true->withN G G2 H b=some o:=fun b o h1 h2=>by
   unfold withN;cases qq:G b with
   |some u=>
    have h3:G2 b=some u:=s2 b u (by
     unfold lentG;cases q9:Z.H b with
     |none=>exact rel.sub _ _ qq
     |some _=>exact qq)
    rw[h1]at h3;cases h3;rfl
   |none=>simp only[h1,h2];rfl
  refine h (withN G G2 H) v H2 (rel.unlentN hio r2) (fun b o z=>by unfold withN;rw[z]) (RepN.via (fun b ys z=>?_) (fun b xs h1 h2=>⟨kp _ _ h1 (by have h2:H b=none:=h2;rw[h2];rfl),q4c rel h2⟩) w p)
  rcases z with(z|⟨o,z⟩)|z
  ·exact .inl (.inl (kp _ _ z rfl))
  ·exact .inl (.inr ⟨o,kp _ _ z rfl⟩)
  ·exact .inr z
 |ex k e2=>
  rw[q]at h;intro G2 H2 r2 s2;exact h (withN G G2 H) H2 (rel.unlentN hio r2) (fun b o z=>by unfold withN;rw[z])
 |no=>rw[q]at h;exact h.elim
end
section
variable(K:PySem.W.Frag)(Z:Zt)(EE:L2.St->XK)
def PostW(D:Ends):SR->Prop
 |.nx e'=>∀G' σ' H',Rel K Z G' σ' H' e'->D.nx σ' H'
 |.bk e'=>∀G' σ' H',Rel K Z G' σ' H' e'->D.bk σ' H'
 |.ct e'=>∀G' σ' H',Rel K Z G' σ' H' e'->D.ct σ' H'
 |.rt s e'=>∀G' σ' v H',Rel K Z G' σ' H' e'->SlotOk K Z G' H' s (some v)->D.rt v H'
 |.ex c e'=>∀G' σ' H',Rel K Z G' σ' H' e'->EE σ' c none H'
 |.no=>False
def liftW(d:List S->SR):TS:=fun D σ H=>AtG K Z σ H fun G e=>PostW K Z EE D (d e)
end
def DSsW(Z:Zt)(X:Cx)(EE:L2.St->XK)(sts:List Stmt)(d:List S->SR):Prop:=PSs X sts (liftW X.K Z EE d)
section
variable{e:List S}{u v:W}{us vs:List W}{j k:Nat}{d:Den W}{l:Lm}{js:List Nat}{c:Value}{ds:List S->SR}
theorem y3c:flatWs []=true:=rfl
theorem y65:dFlat d e=(d e).bind fun w e1=>if flatW w=true then .ok w e1 else .no:=rfl
theorem z1a:flatW (.int n)=true:=rfl
theorem y66:nVarK e (some (.x (.new w)))=.ok w e:=rfl
theorem y67:dNOwn i e=nOwnK i e e[i]?:=rfl
theorem y68:nOwnK i e (some (.own none ws))=if flatWs ws=true then .ok (.lst ws) (e.set i .no)else .no:=rfl
theorem y3d:dRetNw d e=(d e).stm fun w e1=>.rt (.x (.new w)) e1:=rfl
theorem y3e:dSetNw i d e=(d e).stm fun w e1=>.nx (e1.set i (.x (.new w))):=rfl
theorem y3f:dCallN F dA e=(dA e).bind fun ws e1=>callNK e1 (F ws):=rfl
theorem y3g:callNK e (.ok (.x (.new w)))=.ok w e:=rfl
theorem y0b:callNK e (.ex c)=.ex c e:=rfl
theorem y69:dLamN F j l js d e=(d e).bind fun w e1=>lamNK F j l w e1 (capsOf js e1):=rfl
theorem x72:lamNK F j l w e (some caps)=lamNRes e (F [w,.fn j l caps]):=rfl
theorem y0c:lamNRes e (.ok (.x (.new w)))=.ok w e:=rfl
theorem y3h:dLendN d e=lendN e (d (hideS e)):=rfl
theorem y3i{e':List S}:lendN e (.ok w e')=.ok w e:=rfl
theorem y3j:hide1 (.x (.old w))=.fr w:=rfl
theorem y3k:hide1 (.x (.new w))=.fr w:=rfl
theorem y3l:hide1 (.x (.acc ws))=.fr (.lst ws):=rfl
theorem y0d:hide1 (.x (.thro us ws vs))=.fr (.tup (us++.lst ws::vs)):=rfl
end
open PySem L2
open Classical
noncomputable def lkG(kv:List (κ×Int))(k:κ):Option Int:=(kv.find? fun p=>decide (p.1=k)).map (·.2)
noncomputable def vG(kv:List (κ×Int)):List (κ×V):=kv.map fun p=>(p.1,V.int p.2)
theorem x0q [DecidableEq κ](kv:List (κ×Int))(k:κ):valV (vG kv) k=(lkG kv k).map V.int:=by
 unfold valV vG lkG;rw[w3a,Option.map_map,Option.map_map];congr 1;congr 1;funext p
 simp only[Function.comp]
 by_cases h:p.1=k
 ·rw[decide_eq_true h];exact(@decide_eq_true _ (_) h).symm
 ·rw[decide_eq_false h];exact(@decide_eq_false _ (_) h).symm
theorem y0e(kv:List (κ×Int)):(vG kv).length=kv.length:=w0c ..
inductive DD where
 |t (sh:Sh) (kv:List (Kx×Int))
 |k (kv:List (Key×Int))
variable{dd:DD}
noncomputable def DD.size:DD->Nat
 |.t _ kv=>kv.length
 |.k kv=>kv.length
noncomputable def DD.look:DD->W->Option (Option Int)
 |.t sh kv,w=>match keyT w with
  |some x=>if fits x sh then some (lkG kv x)else none
  |none=>none
 |.k kv,.int i=>some (lkG kv (.inl i))
 |.k _,_=>none
noncomputable def DD.put:DD->W->Int->DD
 |.t sh kv,w,n=>match keyT w with
  |some x=>.t sh (kv++[(x,n)])
  |none=>.t sh kv
 |.k kv,.int i,n=>.k (kv++[(.inl i,n)])
 |.k kv,_,_=>.k kv
noncomputable def ddO:DD->List Addr->HO
 |.t sh kv,ka=>.dT sh (vG kv) ka
 |.k kv,_=>.dK (vG kv)
theorem x1l{kv:List (κ×Int)}{k:κ}(h:lkG kv k=none):lkG (kv++[(k,n)]) k=some n:=by
 unfold lkG at h |-
 rw[w2x];cases q:kv.find? (fun p=>decide (p.1=k))with
 |none=>simp
 |some p=>rw[q]at h;cases h
theorem x0r{sh:Sh}{kv:List (Kx×Int)}{x:Kx}(q:keyT w=some x):(DD.t sh kv).put w n=.t sh (kv++[(x,n)]):=by
 show(match keyT w with|some x=>DD.t sh (kv++[(x,n)])|none=>.t sh kv)=_;rw[q]
theorem q6q{sh:Sh}{kv:List (Kx×Int)}{x:Kx}(q:keyT w=some x)(hf:fits x sh):(DD.t sh kv).look w=some (lkG kv x):=by
 show(match keyT w with|some x=>if fits x sh then some (lkG kv x)else none|none=>none)=_;rw[q];exact if_pos hf
theorem q9j(h:dd.look w=some none):(dd.put w n).look w=some (some n):=by
 cases dd with
 |t sh kv=>
  unfold DD.look at h;dsimp only at h;cases q:keyT w with
  |none=>rw[q]at h;cases h
  |some x=>
   rw[q]at h;dsimp only at h;split at h
   ·rename_i hf;have h:lkG kv x=none:=Option.some.inj h;rw[x0r q];unfold DD.look;dsimp only;rw[q];dsimp only;rw[if_pos hf,x1l h]
   ·cases h
 |k kv=>
  cases w with
  |int i=>
   have h:lkG kv (.inl i)=none:=Option.some.inj h;show some (lkG (kv++[(Sum.inl i,n)]) (.inl i))=_;rw[x1l h]
  |_=>cases h
theorem y0f{xs:List V}:ddO dd ka≠.lst xs:=by
 cases dd<;>exact fun z=>nomatch z
theorem q8o(hK:NoTup K)(sg:Same G H){d:Addr}{v:V}{o:Option Int}(hd:H d=some (ddO dd ka))(r:Rep K G w v)(h:dd.look w=some o):DGet H d v (o.map V.int):=by
 cases dd with
 |t sh kv=>
  unfold DD.look at h;dsimp only at h;cases q:keyT w with
  |none=>rw[q]at h;cases h
  |some x=>
   rw[q]at h;dsimp only at h;split at h
   ·rename_i hf;cases h;obtain⟨b,rfl,kr⟩:=x4b hK sg q r;rw[<- x0q];exact DGet.t (.inl hd) ⟨kr,hf⟩
   ·cases h
 |k kv=>
  cases w with
  |int i=>
   cases h;cases(show v=V.int i from r);rw[<- x0q];exact .inl ⟨_,.inl i,.inl hd,rfl,rfl⟩
  |_=>cases h
theorem x4g(hK:NoTup K)(sg:Same G H){d:Addr}{v:V}(hd:H d=some (ddO dd ka))(r:Rep K G w v)(h:dd.look w=some none)(hl:dd.size<16777216):∃ka',DPut H d v (.int n) (upd H d (ddO (dd.put w n) ka')):=by
 cases dd with
 |t sh kv=>
  unfold DD.look at h;dsimp only at h;cases q:keyT w with
  |none=>rw[q]at h;cases h
  |some x=>
   rw[q]at h;dsimp only at h;split at h
   ·rename_i hf;have h:lkG kv x=none:=Option.some.inj h;obtain⟨b,rfl,kr⟩:=x4b hK sg q r;have hn:valV (vG kv) x=none:=by rw[x0q,h];rfl
    have z:=DPut.t (v:=V.int n) (show H d=some (.dT sh (vG kv) ka)from hd) ⟨kr,hf⟩ (by rw[y0e,sizeLine_eq];exact hl);rw[x39 (V.int n) hn]at z;refine⟨putAd (vG kv) ka x b,?_⟩;rw[x0r q];unfold ddO;dsimp only;unfold vG at z |-
    rw[w0r];exact z
   ·cases h
 |k kv=>
  cases w with
  |int i=>
   have h:lkG kv (.inl i)=none:=Option.some.inj h;cases(show v=V.int i from r);have hn:valV (vG kv) (Sum.inl i)=none:=by rw[x0q,h];rfl
   have z:=DPut.k (k:=.inl i) (v:=V.int n) (show H d=some (.dK (vG kv))from hd) (by rw[y0e,sizeLine_eq];exact hl);rw[x39 (V.int n) hn]at z;refine⟨[],?_⟩;show DPut H d (.int i) (.int n) (upd H d (.dK (vG (kv++[(Sum.inl i,n)]))));unfold vG at z |-
   rw[w0r];exact z
  |_=>cases h
structure NSt where
 nodes:List W
 num:List (Kx×Int)
 seen:DD
variable{st:NSt}
noncomputable def shN:Sh:=.tup [.int,.int,.int]
noncomputable def nkey(pl lo hi:Int):Kx:=.tup [.int pl,.int lo,.int hi]
noncomputable def nW(pl lo hi:Int):W:=.tup [.int pl,.int lo,.int hi]
inductive N2(K:PySem.W.Frag)(G H:Hp)(p d1:Addr)(ns:List W)(kv:List (Kx×Int)):Prop where
 |mk (xs:List V) (ka:List Addr) (sg:Same G H) (hp:H p=some (.lst xs)) (gp:G p=none) (rp:Reps K G ns xs) (h1:H d1=some (.dT shN (vG kv) ka)) (g1:G d1=none):N2 K G H p d1 ns kv
inductive N3(K:PySem.W.Frag)(G H:Hp)(p d1 d2:Addr)(st:NSt):Prop where
 |mk (q:N2 K G H p d1 st.nodes st.num) (ka:List Addr) (h2:H d2=some (ddO st.seen ka)) (g2:G d2=none) (ne:d1≠d2):N3 K G H p d1 d2 st
structure NOk(G H G' H':Hp)(L:List Addr):Prop where
 ent:∀a o,H a=some o->a∉L->H' a=some o
 gg:Same G G'
 new:∀a,H a≠none->G' a=G a
 dom:∀a,H a≠none->H' a≠none
theorem NOk.refl:NOk G H G H L:=⟨fun _ _ h _=>h,.refl _,fun _ _=>rfl,fun _ h=>h⟩
theorem NOk.trans{G1 H1 G2 H2:Hp}{L':List Addr}(x:NOk G H G1 H1 L)(y:NOk G1 H1 G2 H2 L')(hs:∀a∈L',a∈L):NOk G H G2 H2 L:=
 ⟨fun a o h n=>y.ent a o (x.ent a o h n) fun z=>n (hs a z),x.gg.trans y.gg,fun a h=>(y.new a (x.dom a h)).trans (x.new a h),fun a h=>y.dom a (x.dom a h)⟩
theorem NOk.grow{H':Hp}{L:List Addr}(g:Grow G H G' H'):NOk G H G' H' L:=⟨fun a o h _=>g.hh a o h,g.gg,g.new,fun a h z=>by
 cases q:H a with
 |none=>exact h q
 |some o=>rw[g.hh a o q]at z;cases z⟩
theorem NOk.upd{a:Addr}{u:HO}{L:List Addr}(ha:a∈L)(hg:G a=none):NOk G H G (upd H a u) L:=⟨fun b o h n=>by
 rw[q0d (fun z=>by subst z;exact n ha)];exact h,.refl _,fun _ _=>rfl,fun b h=>by
 by_cases e:b=a
 ·subst e;rw[q0h];exact fun z=>nomatch z
 ·rw[q0d e];exact h⟩
theorem x3h(pl lo hi:Int):keyT (nW pl lo hi)=some (nkey pl lo hi):=rfl
theorem x4h(pl lo hi:Int):fits (nkey pl lo hi) shN:=⟨⟨trivial,trivial,trivial,trivial⟩,by simp[nkey,Kx.depth,Kx.depths]⟩
noncomputable def nnF(pl lo hi:Int)(ns:List W)(kv:List (Kx×Int)):Option (Int×List W×List (Kx×Int)):=
 if lo=hi then some (lo,ns,kv)else match lkG kv (nkey pl lo hi)with
  |some r=>some (r,ns,kv)
  |none=>if ns.length<16777215/\kv.length<16777216 then some ((ns.length:Int)+2,ns++[nW pl lo hi],kv++[(nkey pl lo hi,(ns.length:Int)+2)])else none
noncomputable def spNN(K:PySem.W.Frag):Sp:=fun vs H Q _=>∃G p d1 ns kv pl lo hi vn r ns' kv',vs=[vn,.ref p,.ref d1]/\Rep K G (nW pl lo hi) vn/\N2 K G H p d1 ns kv/\nnF pl lo hi ns kv=some (r,ns',kv') /\
 ∀G' H',NOk G H G' H' [p,d1]->N2 K G' H' p d1 ns' kv'->Q (.int r) H'
noncomputable def spNNp(K:PySem.W.Frag)(p:Prop):Sp:=fun vs H Q E=>p/\spNN K vs H Q E
def tNN(K:PySem.W.Frag):TS:=
 tSeq (tIfS (tTest (tOp rEq (tOp (rIxT K) (tVar 0) (tC (.int 1))) (tOp (rIxT K) (tVar 0) (tC (.int 2))))) (tRet (tOp (rIxT K) (tVar 0) (tC (.int 1)))) tNext)
  (tSeq (tIfS (tB (tDNotIn (tVar 0) (tVar 2))) (tSeq (tDrop (tBM K "list" rAppend (tVar 1) (tCons (tVar 0) tNil))) (sDPut (tVar 2) (tVar 0) (tOp (rI0 fun i j=>V.int (i+j)) (tCB (fun xs H Q=>∃x n,xs=[x]/\LenV K x H n/\Q (.int (n:Nat)) H) (tCons (tVar 1) tNil)) (tC (.int 1))))) tNext)
   (tRet (tDGet (tVar 2) (tVar 0))))
theorem nn_ok(hK:NoTup K){Q:VK}(h:spNN K vs H Q E)(N:List Str)(hN:N.length=3):tNN K {nx:=fun _ H'=>Q .non H',rt:=Q} (L2.start N vs) H:=by
 obtain⟨G,p,d1,ns,kv,pl,lo,hi,vn,r,ns',kv',rfl,rn,n2,hF,q⟩:=h;have hst:L2.start N [vn,.ref p,.ref d1]=[some vn,some (.ref p),some (.ref d1)]:=by unfold L2.start;rw[hN];rfl
 rw[hst];obtain⟨xs,ka,sg,hp,gp,rp,h1,g1⟩:=n2;have rn':=rn;obtain⟨t,us,rfl,ht,ru⟩:=rn;obtain⟨u0,_,rfl,e0,u1,_,rfl,e1,u2,_,rfl,e2,rfl⟩:=ru;cases(show u0=V.int pl from e0);cases(show u1=V.int lo from e1);cases(show u2=V.int hi from e2);have hT:SqT K H t [.int pl,.int lo,.int hi]:=sg.tup ht;refine⟨.ref t,rfl,t,_,1,.int lo,rfl,rfl,hT,rfl,.ref t,rfl,t,_,2,.int hi,rfl,rfl,hT,rfl,rfl,decide (V.int lo=V.int hi),rfl,?_⟩;unfold nnF at hF
 by_cases hlh:lo=hi
 ·rw[if_pos hlh]at hF;cases hF;rw[if_pos (by rw[hlh];exact decide_eq_true rfl)];exact⟨.ref t,rfl,t,_,1,.int lo,rfl,rfl,hT,rfl,q G H .refl ⟨xs,ka,sg,hp,gp,rp,h1,g1⟩⟩
 ·rw[if_neg hlh]at hF;rw[if_neg (by rw[decide_eq_true_eq];intro z;injection z with z;exact hlh z)];have dg:DGet H d1 (.ref t) ((lkG kv (nkey pl lo hi)).map V.int):=q8o hK sg (dd:=.t shN kv) (ka:=ka) h1 rn' (q6q (x3h pl lo hi) (x4h pl lo hi));refine⟨.ref t,rfl,.ref d1,rfl,d1,_,rfl,dg,_,rfl,?_⟩;cases hl:lkG kv (nkey pl lo hi)with
  |some v=>
   rw[hl]at hF dg;cases hF;rw[if_neg (by simp)];exact⟨.ref d1,rfl,.ref t,rfl,d1,.int r,rfl,dg,q G H .refl ⟨xs,ka,sg,hp,gp,rp,h1,g1⟩⟩
  |none=>
   rw[hl]at hF;dsimp only at hF;split at hF
   ·rename_i hb;cases hF;rw[if_pos (by simp)];have hlen:=rp.length;have npd:p≠d1:=q06 hp h1 fun z=>nomatch z
    refine⟨.ref p,rfl,.inl ⟨rfl,xs,SqL.of hp⟩,.ref t,rfl,p,xs,.ref t,rfl,rfl,hp,by rw[sizeLine_eq];omega,?_⟩;have hp1:upd H p (.lst (xs++[.ref t])) p=some (.lst (xs++[.ref t])):=q0h;have hd1:upd H p (.lst (xs++[.ref t])) d1=some (.dT shN (vG kv) ka):=by rw[q0d (fun z=>npd z.symm)];exact h1
    have sg1:Same G (upd H p (.lst (xs++[.ref t]))):=fun a o z=>by rw[q0d (q0m z gp)];exact sg a o z
    refine⟨.ref p,rfl,.ref p,(xs++[V.ref t]).length,rfl,.inl ⟨_,SqL.of hp1,rfl⟩,(xs++[V.ref t]).length,1,rfl,rfl,.ref d1,rfl,.ref t,rfl,?_⟩;obtain⟨ka',dp⟩:=x4g hK sg1 (dd:=.t shN kv) (ka:=ka) (n:=(ns.length:Int)+2) hd1 rn' (by rw[q6q (x3h pl lo hi) (x4h pl lo hi),hl]) hb.2;rw[x0r (x3h pl lo hi)]at dp;have en:(((xs++[V.ref t]).length:Nat):Int)+1=(ns.length:Int)+2:=by rw[w0g,w2l];omega
    rw[<- en]at dp;refine⟨d1,_,rfl,dp,.ref d1,rfl,.ref t,rfl,d1,.int ((ns.length:Int)+2),rfl,?_,?_⟩<;>rw[en]
    ·have sg2:Same G (upd (upd H p (.lst (xs++[.ref t]))) d1 (ddO (.t shN (kv++[(nkey pl lo hi,(ns.length:Int)+2)])) ka')):=fun a o z=>by rw[q0d (q0m z g1)];exact sg1 a o z
     have:=q8o hK sg2 (dd:=.t shN (kv++[(nkey pl lo hi,(ns.length:Int)+2)])) (ka:=ka') (d:=d1) q0h rn' (q6q (x3h pl lo hi) (x4h pl lo hi));rw[x1l hl]at this;exact this
    ·refine q G _ ((NOk.upd (by simp) gp).trans (NOk.upd (L:=[p,d1]) (by simp) g1) fun _ z=>z) ⟨xs++[.ref t],ka',fun a o z=>?_,?_,gp,rp.append (.one rn'),q0h,g1⟩
     ·rw[q0d (q0m z g1)];exact sg1 a o z
     ·rw[q0d npd];exact hp1
   ·cases hF
noncomputable def askF(r:Nat->List W->FR)(i:Nat)(caps:List W)(t:W):Option W:=match noFn t,r i (t::caps)with
 |true,.ok (.fr w)=>some w
 |_,_=>none
theorem x2p{r:Nat->List W->FR}{t:W}(h:askF r i caps t=some w):noFn t=true/\r i (t::caps)=.ok (.fr w):=by
 unfold askF at h;split at h
 ·rename_i h1 h2;cases h;exact⟨h1,h2⟩
 ·cases h
noncomputable def bI(b:Bool):Int:=if b=true then 1 else 0
noncomputable def nfS(A:W->Option W)(N:W->NSt->Option (Int×NSt))(t:W)(st:NSt):Option (Int×NSt):=match st.seen.look t with
  |none=>none
  |some (some v)=>some (v,st)
  |some none=>match A t with
   |some (.bl b)=>if st.seen.size<16777216 then some (bI b,{st with seen:=st.seen.put t (bI b)})else none
   |some (.tup [.int pl,lo,hi])=>match N lo st with
    |none=>none
    |some (v1,st1)=>match N hi st1 with
     |none=>none
     |some (v2,st2)=>match nnF pl v1 v2 st2.nodes st2.num with
      |none=>none
      |some (v,ns,kv)=>if st2.seen.look t=some none/\st2.seen.size<16777216 then some (v,⟨ns,kv,st2.seen.put t v⟩)else none
   |_=>none
noncomputable def spNF(K:PySem.W.Frag)(lams:Nat->Option Lm)(N:W->W->NSt->Option (Int×NSt)):Sp:=fun vs H Q _=>∃G p d1 d2 st t vt va i l caps v st',vs=[vt,va,.ref p,.ref d1,.ref d2]/\Rep K G t vt/\Rep K G (.fn i l caps) va/\noFns caps=true/\lams i=some l /\
 N3 K G H p d1 d2 st/\N (.fn i l caps) t st=some (v,st')/\∀G' H',NOk G H G' H' [p,d1,d2]->N3 K G' H' p d1 d2 st'->Q (.int v) H'
theorem N2.grow{H':Hp}{p:Addr}{ns:List W}{kv:List (Kx×Int)}(n:N2 K G H p d1 ns kv)(g:Grow G H G' H'):N2 K G' H' p d1 ns kv:=by
 obtain⟨xs,ka,sg,hp,gp,rp,h1,g1⟩:=n;exact⟨xs,ka,g.sub,g.hh _ _ hp,by rw[g.new p (by rw[hp];simp)];exact gp,Reps.mono g.gg ns rp,g.hh _ _ h1,by rw[g.new d1 (by rw[h1];simp)];exact g1⟩
theorem N3.grow{H':Hp}{p d2:Addr}(n:N3 K G H p d1 d2 st)(g:Grow G H G' H'):N3 K G' H' p d1 d2 st:=by
 obtain⟨q,ka,h2,g2,ne⟩:=n;exact⟨q.grow g,ka,g.hh _ _ h2,by rw[g.new d2 (by rw[h2];simp)];exact g2,ne⟩
theorem N3.put{p d2:Addr}{st:NSt}(n:N3 K G H p d1 d2 st):N3 K G (upd H d2 (ddO dd ka)) p d1 d2 {st with seen:=dd}:=by
 obtain⟨⟨xs,ka1,sg,hp,gp,rp,h1,g1⟩,ka2,h2,g2,ne⟩:=n;refine⟨⟨xs,ka1,fun a o z=>by rw[q0d (q0m z g2)];exact sg a o z,?_,gp,rp,?_,g1⟩,ka,q0h,g2,ne⟩
 ·rw[q0d (q06 hp h2 fun z=>y0f z.symm)];exact hp
 ·rw[q0d ne];exact h1
noncomputable def dd0:W->DD
 |.int _=>.k []
 |.tup [.int _,.int _]=>.t (.tup [.int,.int]) []
 |.tup [.int _,.tup _]=>.t (.tup [.int,.many .bl]) []
 |_=>.k []
noncomputable def lgF(lams:Nat->Option Lm)(M:W->W->NSt->Option (Int×NSt)):List W->FR
 |[t,.fn i l caps]=>if lams i=some l/\noFns caps=true then match M (.fn i l caps) t ⟨[],[],dd0 t⟩with
   |some (v,st)=>if flatWs st.nodes=true then .ok (.x (.new (.tup [.lst st.nodes,.int v])))else .no
   |none=>.no
  else .no
 |_=>.no
def DD.emp:DD->Prop
 |.t _ kv=>kv=[]
 |.k kv=>kv=[]
def tDNewD:TE:=fun _ H Q=>∃dd:DD,dd.emp/\∀p,H p=none->Q (.ref p) (upd H p (ddO dd []))
theorem y3m:PE X (.Dict [] [] pos) tDNewD:=fun pins s σ H Q I h=>by
 obtain⟨dd,he,h⟩:=h;cases dd with
 |t sh kv=>cases(show kv=[]from he);exact x4a (sh:=sh) pins s σ H Q I h
 |k kv=>cases(show kv=[]from he);exact y25 pins s σ H Q I h
theorem y7a(t:W):(dd0 t).emp:=by
 unfold dd0;split<;>exact rfl
def tLG(spF':Sp)(E:XK):TS:=
 tSeq (tAsg (tLst tNil) (gName 2)) (tSeq (tAsg (tCallX spF' [] (fun _=>E) (tCons (tVar 0) (tCons (tVar 1) (tCons (tVar 2) (tCons (tDNewT shN) (tCons tDNewD tNil)))))) (gName 3)) (tRet (tTup (tCons (tVar 2) (tCons (tVar 3) tNil)))))
noncomputable def encDD:DD->W
 |.t sh kv=>.dw false sh (kv.map (·.1)) (kv.map fun p=>.int p.2)
 |.k kv=>.dic (.k (kv.map fun p=>(p.1,Sum.inl p.2)))
noncomputable def decI:List W->Option (List Int)
 |[]=>some []
 |.int i::ws=>(decI ws).map (i::·)
 |_=>none
noncomputable def decK:List (Key×Sv)->Option (List (Key×Int))
 |[]=>some []
 |(k,.inl i)::r=>(decK r).map ((k,i)::·)
 |_=>none
noncomputable def decDD:W->Option DD
 |.dw _ sh ks ws=>(decI ws).map fun is=>.t sh (ks.zip is)
 |.dic (.k kvs)=>(decK kvs).map .k
 |_=>none
theorem x4i:∀is:List Int,decI (is.map .int)=some is
 |[]=>rfl
 |i::is=>by
  show(decI (is.map .int)).map (i::·)=_;rw[x4i is];rfl
theorem x4j:∀kv:List (Key×Int),decK (kv.map fun p=>(p.1,Sum.inl p.2))=some kv
 |[]=>rfl
 |(k,i)::kv=>by
  show(decK (kv.map fun p=>(p.1,Sum.inl p.2))).map ((k,i)::·)=_
  rw[x4j kv];rfl
theorem x6l(dd:DD):decDD (encDD dd)=some dd:=by
 cases dd with
 |t sh kv=>
  show(decI (kv.map fun p=>W.int p.2)).map (fun is=>DD.t sh ((kv.map (·.1)).zip is))=_
  rw[show kv.map (fun p=>W.int p.2)=(kv.map (·.2)).map W.int from by rw[w1f];rfl,x4i]
  show some (DD.t sh ((kv.map (·.1)).zip (kv.map (·.2))))=_;congr 2
  induction kv with
  |nil=>rfl
  |cons p kv ih=>simp[ih]
 |k kv=>
  show(decK (kv.map fun p=>(p.1,Sum.inl p.2))).map DD.k=_
  rw[x4j];rfl
noncomputable def encSt(st:NSt):List W:=[.lst st.nodes,encDD (.t shN st.num),encDD st.seen]
noncomputable def decSt:List W->Option NSt
 |[.lst ns,e1,e2]=>match decDD e1,decDD e2 with
  |some (.t _ kv),some dd=>some ⟨ns,kv,dd⟩
  |_,_=>none
 |_=>none
theorem y0g(st:NSt):decSt (encSt st)=some st:=by
 show(match decDD (encDD (.t shN st.num)),decDD (encDD st.seen)with
  |some (.t _ kv),some dd=>some (NSt.mk st.nodes kv dd)
  |_,_=>none)=_
 rw[x6l,x6l]
noncomputable def recR:FR->Option (Int×NSt)
 |.ok (.fr (.tup (.int v::ws)))=>(decSt ws).map fun st=>(v,st)
 |_=>none
noncomputable def recN(r:Nat->List W->FR)(inf:Nat)(fw t:W)(st:NSt):Option (Int×NSt):=recR (r inf (t::fw::encSt st))
noncomputable def nfR(o:Option (Int×NSt)):FR:=match o with
 |some (v,st)=>.ok (.fr (.tup (.int v::encSt st)))
 |none=>.no
noncomputable def nfB(r:Nat->List W->FR)(inf:Nat):List W->FR
 |t::.fn i l caps::ws=>match decSt ws with
  |some st=>nfR (nfS (askF r i caps) (recN r inf (.fn i l caps)) t st)
  |none=>.no
 |_=>.no
theorem y7b(o:Option (Int×NSt)):recR (nfR o)=o:=by
 cases o with
 |none=>rfl
 |some p=>
  obtain⟨v,st⟩:=p;show(decSt (encSt st)).map (fun st=>(v,st))=_
  rw[y0g];rfl
theorem q95{r r':Nat->List W->FR}{inf:Nat}(h:∀ws,r' inf ws=nfB r inf ws)(i:Nat)(l:Lm)(caps:List W)(t:W)(st:NSt):recN r' inf (.fn i l caps) t st=nfS (askF r i caps) (recN r inf (.fn i l caps)) t st:=by
 unfold recN;rw[h];show recR (match decSt (encSt st)with|some st=>nfR (nfS (askF r i caps) (recN r inf (.fn i l caps)) t st)|none=>.no)=_;rw[y0g];exact y7b _
section
variable{P:Program}{w:World}{base:Heap}
theorem con0X{st:Stmt}{sp:Sp}(A:At K mg x st ps)(no:∀vs H Q E,sp vs H Q E->False):Cal P w K mg base 0 x ps sp:=by
 obtain⟨f,fd,F0,m,b⟩:=A.ex;exact⟨f,fd,⟨fun vs H Q E h=>(no vs H Q E h).elim,fun A outer s H args us vs Q E _ _ _ _ h=>(no vs H Q E h).elim⟩,m,F0.kp,b⟩
theorem z1b{lams:Nat->Option Lm}{M:W->W->NSt->Option (Int×NSt)}{Q:VK}(h:spNF K lams M vs H Q E):vs.length=5:=by
 obtain⟨_,_,_,_,_,_,_,_,_,_,_,_,_,rfl,_⟩:=h;rfl
theorem z3r{lams:Nat->Option Lm}{M:W->W->NSt->Option (Int×NSt)}(hM:∀f t st,M f t st=none){Q:VK}(h:spNF K lams M vs H Q E):False:=by
 obtain⟨_,_,_,_,_,_,_,_,_,_,_,_,_,_,_,_,_,_,_,h,_⟩:=h;rw[hM]at h;cases h
theorem z1c{p:Prop}{Q:VK}(h:spNNp K p vs H Q E):vs.length=3:=by
 obtain⟨_,_,_,_,_,_,_,_,_,_,_,_,_,rfl,_⟩:=h;rfl
theorem y7c{lams:Nat->Option Lm}{M:W->W->NSt->Option (Int×NSt)}(h:lgF lams M ws≠.no):ws.length=2:=by
 unfold lgF at h;split at h
 ·rfl
 ·exact absurd rfl h
theorem z1d{lams:Nat->Option Lm}{M:W->W->NSt->Option (Int×NSt)}{Q:VK}(h:spF K (lgF lams M) vs H Q E):vs.length=2:=by
 obtain⟨G,ws,_,rp,h⟩:=h;rw[rp.length];refine y7c (lams:=lams) (M:=M) fun z=>?_
 rw[z]at h;exact h
end
noncomputable abbrev Nd:=Nat×Nat×Nat
variable{ns:List Nd}
noncomputable def ndW(x:Nd):W:=nW x.1 x.2.1 x.2.2
noncomputable def ndK(x:Nd):Kx:=nkey x.1 x.2.1 x.2.2
theorem y7d{x y:Nd}(h:ndK x=ndK y):x=y:=by
 obtain⟨a,b,c⟩:=x;obtain⟨a',b',c'⟩:=y;unfold ndK nkey at h;simp only[Kx.tup.injEq,List.cons.injEq,Kx.int.injEq,and_true]at h;obtain⟨h1,h2,h3⟩:=h;have e1:a=a':=by omega
 have e2:b=b':=by omega
 have e3:c=c':=by omega
 rw[e1,e2,e3]
noncomputable def plc(ns:List Nd)(m r:Nat):Nat:=if r<2 then m else match ns[r-2]? with
 |some x=>x.1
 |none=>m
theorem q6e{ext:List Nd}(h:r<ns.length+2):plc (ns++ext) m r=plc ns m r:=by
 unfold plc;split
 ·rfl
 ·rw[w0w (by omega)]
theorem q4w{ns:List Nd}(h:r<2):plc ns m r=m:=if_pos h
theorem q3m{k:Nat}{x:Nd}(h:ns[k]?=some x):plc ns m (k+2)=x.1:=by
 unfold plc;rw[if_neg (by omega),w2g,h]
structure GOk(m:Nat)(ns:List Nd):Prop where
 nd:∀(k:Nat) x,ns[k]?=some x->x.1<m/\x.2.1≠x.2.2/\x.2.1<k+2/\x.2.2<k+2/\x.1<plc ns m x.2.1/\x.1<plc ns m x.2.2
 dist:ns.Nodup
inductive Post(ns:List Nd):Nat->Nat->Nat->Prop
 |old {L r:Nat} (h:r<L+2):Post ns L r L
 |new {L L1 L2 p lo hi:Nat} (h:ns[L2]?=some (p,lo,hi)) (h1:Post ns L lo L1) (h2:Post ns L1 hi L2):Post ns L (L2+2) (L2+1)
theorem Post.le{L:Nat}(h:Post ns L r L'):L<=L'/\r<L'+2:=by
 induction h with
 |old h=>omega
 |new _ _ _ i1 i2=>omega
theorem Post.low{L:Nat}(h:Post ns L r L')(hr:r<L+2):L'=L:=by
 cases h with
 |old h=>rfl
 |new _ h1 h2=>have:=h1.le;have:=h2.le;omega
theorem Post.mono{ext:List Nd}{L:Nat}(h:Post ns L r L'):Post (ns++ext) L r L':=by
 induction h with
 |old h=>exact .old h
 |new h _ _ i1 i2=>exact .new (by rw[w0w (w0b.mp h).1];exact h) i1 i2
theorem GOk.nil:GOk m []:=⟨fun k x h=>by simp at h,.nil⟩
theorem GOk.snoc{x:Nd}(g:GOk m ns)(h1:x.1<m)(h2:x.2.1≠x.2.2)(h3:x.2.1<ns.length+2)(h4:x.2.2<ns.length+2)(h5:x.1<plc ns m x.2.1)(h6:x.1<plc ns m x.2.2)(h7:x∉ns):GOk m (ns++[x]):=by
 refine⟨fun k y h=>?_,?_⟩
 ·by_cases hk:k<ns.length
  ·rw[w0w hk]at h;obtain⟨a,b,c,d,e,f⟩:=g.nd k y h;exact⟨a,b,c,d,by rw[q6e (by omega)];exact e,by rw[q6e (by omega)];exact f⟩
  ·have hk2:k=ns.length:=by
    have:=(w0b.mp h).1;simp at this;omega
   subst hk2;rw[w1a (w0e _),w2n]at h;cases h;exact⟨h1,h2,h3,h4,by rw[q6e h3];exact h5,by rw[q6e h4];exact h6⟩
 ·rw[List.nodup_append];exact⟨g.dist,by simp,fun a ha b hb e=>by simp at hb;subst hb;subst e;exact h7 ha⟩
theorem q7s{kv:List (κ×Int)}{k k':κ}:lkG (kv++[(k,n)]) k'=match lkG kv k' with
  |some v=>some v
  |none=>@ite _ (k=k') (Classical.propDecidable _) (some n) none:=by
 unfold lkG;rw[w2x];cases q:kv.find? (fun p=>@decide (p.1=k') (Classical.propDecidable _))with
 |some p=>rfl
 |none=>
  simp only[Option.none_or,w2i,List.find?_nil,Option.map_none]
  by_cases e:k=k'
  ·rw[if_pos e];simp[e]
  ·rw[if_neg e];simp[e]
theorem x4k(dd:DD)(w:W)(n:Int):(dd.put w n).size<=dd.size+1:=by
 cases dd with
 |t sh kv=>
  show DD.size (match keyT w with|some x=>DD.t sh (kv++[(x,n)])|none=>.t sh kv)<=kv.length+1;split
  ·show(kv++_).length<=_;simp
  ·exact w4f _
 |k kv=>cases w<;>first|exact w4f _|(show(kv++_).length<=kv.length+1;simp)
section
variable{T:Type}(enc:T->W)(Vd:T->Prop)(top:T->Nat)(m:Nat)(P:List Nd->Nat->T->Prop)
structure SI(st:NSt)(ns:List Nd)(f:T->Option Nat):Prop where
 nodes:st.nodes=ns.map ndW
 ok:GOk m ns
 num1:∀(k:Nat) x,ns[k]?=some x->lkG st.num (ndK x)=some ((k:Int)+2)
 num0:∀x,x∉ns->lkG st.num (ndK x)=none
 numl:st.num.length=ns.length
 seen:∀t,Vd t->st.seen.look (enc t)=some ((f t).map fun n=>(n:Int))
 val:∀t r,Vd t->f t=some r->r<ns.length+2/\top t<=plc ns m r/\P ns r t
inductive NfR(d:Nat)(t:T)(st:NSt)(ns:List Nd)(f:T->Option Nat)(o:Option (Int×NSt)):Prop where
 |mk (r:Nat) (st':NSt) (ns' ext:List Nd) (f':T->Option Nat) (eq:o=some ((r:Int),st')) (si:SI enc Vd top m P st' ns' f') (ap:ns'=ns++ext) (pl:∀x∈ext,top t<=x.1) (po:Post ns' ns.length r ns'.length) (tp:top t<=plc ns' m r) (pr:P ns' r t) (fr:∀t',Vd t'->top t'<top t->f' t'=f t') (sn:ns'.length+1<=ns.length+2^(d+1)) (ss:st'.seen.size+1<=st.seen.size+2^(d+1)):NfR d t st ns f o
def NfSpec(d:Nat)(N:W->NSt->Option (Int×NSt)):Prop:=∀t st ns f,Vd t->m<=top t+d->SI enc Vd top m P st ns f->ns.length+2^(d+1)<=16777215->st.seen.size+2^(d+1)<=16777215->NfR enc Vd top m P d t st ns f (N (enc t) st)
def AskOk(A:W->Option W):Prop:=∀t,Vd t->(∃b,A (enc t)=some (.bl b))\/∃(p:Nat)(t0 t1:T),A (enc t)=some (.tup [.int p,enc t0,enc t1])/\p<m/\top t<=p/\Vd t0/\Vd t1/\p<top t0/\p<top t1
def PutOk:Prop:=∀(dd:DD)(g:T->Option Int)(t:T)(n:Int),Vd t->(∀t,Vd t->dd.look (enc t)=some (g t))->g t=none->∀t',Vd t'->(dd.put (enc t) n).look (enc t')=some (@ite _ (t'=t) (Classical.propDecidable _) (some n) (g t'))
structure PropOk(A:W->Option W):Prop where
 mono:∀ns ext r t,GOk m ns->r<ns.length+2->P ns r t->P (ns++ext) r t
 bl:∀ns t b,Vd t->A (enc t)=some (.bl b)->P ns (if b=true then 1 else 0) t
 eqv:∀ns t p t0 t1 r,Vd t->A (enc t)=some (.tup [.int (p:Nat),enc t0,enc t1])->P ns r t0->P ns r t1->P ns r t
 node:∀ns t p t0 t1 lo hi k,Vd t->A (enc t)=some (.tup [.int (p:Nat),enc t0,enc t1])->ns[k]?=some (p,lo,hi)->P ns lo t0->P ns hi t1->P ns (k+2) t
variable{enc Vd top m P}
theorem SI.put(hp:PutOk enc Vd){st:NSt}{f:T->Option Nat}(s:SI enc Vd top m P st ns f){t:T}{r:Nat}(hv:Vd t)(hn:f t=none)(hr:r<ns.length+2)(ht:top t<=plc ns m r)(hP:P ns r t):
  SI enc Vd top m P ⟨st.nodes,st.num,st.seen.put (enc t) r⟩ ns (fun t'=>@ite _ (t'=t) (Classical.propDecidable _) (some r) (f t')):=by
 refine⟨s.nodes,s.ok,s.num1,s.num0,s.numl,fun t' hv'=>?_,fun t' r' hv' h=>?_⟩
 ·rw[hp st.seen (fun t=>(f t).map fun n=>(n:Int)) t r hv s.seen (by simp only[hn];rfl) t' hv']
  split<;>rfl
 ·split at h
  ·rename_i e;subst e;cases h;exact⟨hr,ht,hP⟩
  ·exact s.val t' r' hv' h
theorem x6m(ht:∀t,Vd t->top t<=m)(hp:PutOk enc Vd){A:W->Option W}(hA:AskOk enc Vd top m A)(hP:PropOk enc Vd m P A){N:W->NSt->Option (Int×NSt)}{d:Nat}(hN:∀d',d=d'+1->NfSpec enc Vd top m P d' N):NfSpec enc Vd top m P d (nfS A N):=by
 intro t st ns f hv hd s hl hs;have h1:1<=2^(d+1):=w3k;have htm:=ht t hv;unfold nfS;rw[s.seen t hv];cases hf:f t with
 |some r=>
  obtain⟨a,b,c⟩:=s.val t r hv hf;exact⟨r,st,ns,[],f,rfl,s,by simp,(fun x h=>nomatch h),.old a,b,c,fun _ _ _=>rfl,by omega,by omega⟩
 |none=>
  try simp only[Option.map_none]
  have frs:∀(g:T->Option Nat)(r:Nat),(∀t',Vd t'->top t'<top t->g t'=f t')->∀t',Vd t'->top t'<top t->(@ite _ (t'=t) (Classical.propDecidable _) (some r) (g t'))=f t':=fun g r hg t' hv' h=>by
   rw[if_neg (fun e=>by subst e;omega)];exact hg t' hv' h
  rcases hA t hv with⟨b,hb⟩|⟨p,t0,t1,hb,hpm,htp,hv0,hv1,hp0,hp1⟩
  ·simp only[hb];rw[if_pos (by omega)];have e:bI b=(((if b=true then 1 else 0:Nat)):Int):=by cases b<;>rfl
   have hr:(if b=true then 1 else 0:Nat)<2:=by split<;>decide
   rw[e];refine⟨_,_,ns,[],_,rfl,s.put hp (r:=if b=true then 1 else 0) hv hf (by omega) (by rw[q4w hr];exact htm) (hP.bl ns t b hv hb),by simp,(fun x h=>nomatch h),.old (by omega),by rw[q4w hr];exact htm,hP.bl ns t b hv hb,frs f _ fun _ _ _=>rfl,by omega,?_⟩
   have:=x4k st.seen (enc t) ((if b=true then 1 else 0:Nat):Int);show(st.seen.put _ _).size+1<=_;have:2<=2^(d+1):=by rw[w2b];have:=w3k (n:=d);omega
   omega
  ·obtain⟨d',rfl⟩:∃d',d=d'+1:=⟨d-1,by omega⟩;have h2:2^(d'+1+1)=2^(d'+1)+2^(d'+1):=by rw[w2b];omega
   have h1':1<=2^(d'+1):=w3k;simp only[hb];obtain⟨lo,st1,ns1,ext1,f1,eq1,s1,ap1,pl1,po1,tp1,pr1,fr1,sn1,ss1⟩:=hN d' rfl t0 st ns f hv0 (by omega) s (by omega) (by omega);simp only[eq1];obtain⟨hi,st2,ns2,ext2,f2,eq2,s2,ap2,pl2,po2,tp2,pr2,fr2,sn2,ss2⟩:=hN d' rfl t1 st1 ns1 f1 hv1 (by omega) s1 (by omega) (by omega);simp only[eq2];have le1:=po1.le;have le2:=po2.le;have f2t:f2 t=none:=by rw[fr2 t hv (by omega),fr1 t hv (by omega)];exact hf
   have lk2:st2.seen.look (enc t)=some none:=by rw[s2.seen t hv,f2t];rfl
   have po1':Post ns2 ns.length lo ns1.length:=by rw[ap2];exact po1.mono
   have tp1':top t0<=plc ns2 m lo:=by rw[ap2,q6e (by omega)];exact tp1
   have pr1':P ns2 lo t0:=by rw[ap2];exact hP.mono _ _ _ _ s1.ok (by omega) pr1
   have frf:∀t',Vd t'->top t'<top t->f2 t'=f t':=fun t' hv' h=>by rw[fr2 t' hv' (by omega),fr1 t' hv' (by omega)]
   have pl12:∀x∈ext1++ext2,p<x.1:=fun x h=>by
    rcases w1r.mp h with h|h
    ·have:=pl1 x h;omega
    ·have:=pl2 x h;omega
   have ap12:ns2=ns++(ext1++ext2):=by rw[ap2,ap1,w1h]
   have szp:∀r:Int,(st2.seen.put (enc t) r).size+1<=st.seen.size+2^(d'+1+1):=fun r=>by
    have:=x4k st2.seen (enc t) r;omega
   have cnd:st2.seen.look (enc t)=some none/\st2.seen.size<16777216:=⟨lk2,by omega⟩;unfold nnF
   by_cases hlh:lo=hi
   ·subst hlh;have e0:ns2.length=ns1.length:=po2.low (by omega);simp only[if_true];rw[if_pos cnd];have hr:top t<=plc ns2 m lo:=by omega
    exact⟨lo,_,ns2,ext1++ext2,_,rfl,s2.put hp hv f2t (by omega) hr (hP.eqv ns2 t p t0 t1 lo hv hb pr1' pr2),ap12,fun x h=>by have:=pl12 x h;omega,by rw[e0];exact po1',hr,hP.eqv ns2 t p t0 t1 lo hv hb pr1' pr2,frs f2 _ frf,by omega,szp _⟩
   ·rw[if_neg (fun e=>hlh (by omega))]
    by_cases hin:(p,lo,hi)∈ns2
    ·obtain⟨k,hk⟩:=w4d hin;have:=s2.num1 k _ hk;have lk:lkG st2.num (nkey p lo hi)=some ((k:Int)+2):=this;rw[lk];simp only[];rw[if_pos cnd]
     have hkn:k<ns.length:=by
      by_cases z:k<ns.length
      ·exact z
      ·exfalso;rw[ap12,w1a (by omega)]at hk;have:=pl12 _ (w0u hk);exact w1o _ this
     obtain⟨_,_,hlo,hhi,_,_⟩:=s2.ok.nd k _ hk;have hlo:lo<k+2:=hlo;have hhi:hi<k+2:=hhi;have e1:ns1.length=ns.length:=po1.low (by omega);have e2:ns2.length=ns1.length:=po2.low (by omega);have hr:top t<=plc ns2 m (k+2):=by rw[q3m hk];exact htp
     exact⟨k+2,_,ns2,ext1++ext2,_,rfl,s2.put (r:=k+2) hp hv f2t (by omega) hr (hP.node ns2 t p t0 t1 lo hi k hv hb hk pr1' pr2),ap12,fun x h=>by have:=pl12 x h;omega,by rw[e2,e1];exact .old (by omega),hr,hP.node ns2 t p t0 t1 lo hi k hv hb hk pr1' pr2,frs f2 _ frf,by omega,szp _⟩
    ·have lk:lkG st2.num (nkey p lo hi)=none:=s2.num0 _ hin;rw[lk];have hl2:st2.nodes.length=ns2.length:=by rw[s2.nodes,w0c]
     simp only[];rw[if_pos (show st2.nodes.length<16777215/\st2.num.length<16777216 from⟨by omega,by rw[s2.numl];omega⟩)];simp only[];rw[if_pos cnd,hl2];have ok3:GOk m (ns2++[(p,lo,hi)]):=s2.ok.snoc hpm hlh (show lo<_ by omega) (show hi<_ by omega) (show p<plc ns2 m lo by omega) (show p<plc ns2 m hi by omega) hin;have hk:(ns2++[(p,lo,hi)])[ns2.length]?=some (p,lo,hi):=by rw[w1a (w0e _),w2n];rfl
     have s3:SI enc Vd top m P ⟨st2.nodes++[nW p lo hi],st2.num++[(nkey p lo hi,(ns2.length:Int)+2)],st2.seen⟩ (ns2++[(p,lo,hi)]) f2:=by
      refine⟨by rw[w0r,s2.nodes];rfl,ok3,fun k x h=>?_,fun x h=>?_,by simp[s2.numl],s2.seen,fun t' r' hv' h=>?_⟩
      ·show lkG (st2.num++_) _=_;rw[q7s]
       by_cases z:k<ns2.length
       ·rw[w0w z]at h;rw[s2.num1 k x h]
       ·have hk2:k=ns2.length:=by
         have:=(w0b.mp h).1;simp at this;omega
        subst hk2;rw[hk]at h;cases h;rw[show lkG st2.num (ndK (p,lo,hi))=none from lk];exact if_pos rfl
      ·show lkG (st2.num++_) _=_;rw[q7s];rw[w1r]at h;rw[s2.num0 x fun z=>h (.inl z)]
       exact if_neg fun z=>h (.inr (by rw[<- y7d (x:=(p,lo,hi)) z];exact w0n.mpr rfl))
      ·obtain⟨a,b,c⟩:=s2.val t' r' hv' h;exact⟨by simp;omega,by rw[q6e a];exact b,hP.mono _ _ _ _ s2.ok a c⟩
     have hr:top t<=plc (ns2++[(p,lo,hi)]) m (ns2.length+2):=by rw[q3m hk];exact htp
     have pr3:P (ns2++[(p,lo,hi)]) (ns2.length+2) t:=hP.node _ t p t0 t1 lo hi ns2.length hv hb hk (hP.mono _ _ _ _ s2.ok (by omega) pr1') (hP.mono _ _ _ _ s2.ok (by omega) pr2);refine⟨ns2.length+2,_,ns2++[(p,lo,hi)],ext1++ext2++[(p,lo,hi)],_,rfl,s3.put (r:=ns2.length+2) hp hv f2t (by simp) hr pr3,by rw[ap12];simp,fun x h=>?_,?_,hr,pr3,frs f2 _ frf,?_,szp _⟩
     ·rcases w1r.mp h with h|h
      ·have:=pl12 x h;omega
      ·simp at h;subst h;exact htp
     ·rw[w0g];exact .new hk po1'.mono po2.mono
     ·rw[w0g];simp;omega
end
noncomputable def oe(r:Nat):Nat:=if r<2 then 1-r else r
noncomputable def tnd(x:Nd):Nd:=(x.1,oe x.2.1,oe x.2.2)
theorem x3i{k:Nat}(h:r<k+2):oe r<k+2:=by unfold oe;split<;>omega
theorem x4l{s:Nat}(h:oe r=oe s):r=s:=by unfold oe at h;split at h<;>split at h<;>omega
theorem y7e{x y:Nd}(h:tnd x=tnd y):x=y:=by
 obtain⟨a,b,c⟩:=x;obtain⟨a',b',c'⟩:=y;unfold tnd at h;simp only[Prod.mk.injEq]at h;obtain⟨h1,h2,h3⟩:=h;rw[h1,x4l h2,x4l h3]
theorem y0h:plc (ns.map tnd) m (oe r)=plc ns m r:=by
 unfold plc oe
 by_cases h:r<2
 ·rw[if_pos h,if_pos h,if_pos (by omega)]
 ·rw[if_neg h,if_neg h,if_neg h,w0h];cases ns[r-2]?<;>rfl
theorem GOk.turn(g:GOk m ns):GOk m (ns.map tnd):=by
 refine⟨fun k x h=>?_,?_⟩
 ·rw[w0h]at h;obtain⟨y,hy,rfl⟩:=w0f.mp h;obtain⟨a,b,c,d,e,f⟩:=g.nd k y hy;exact⟨a,fun z=>b (x4l z),x3i c,x3i d,by rw[show(tnd y).2.1=oe y.2.1 from rfl,y0h];exact e,by rw[show(tnd y).2.2=oe y.2.2 from rfl,y0h];exact f⟩
 ·exact w3i.mpr (List.pairwise_map.mpr ((w3i.mp g.dist).imp fun h z=>h (y7e z)))
theorem Post.turn{L:Nat}(h:Post ns L r L'):Post (ns.map tnd) L (oe r) L':=by
 induction h with
 |old h=>exact .old (x3i h)
 | @new L L1 L2 p lo hi h _ _ i1 i2=>
  have e:oe (L2+2)=L2+2:=by unfold oe;rw[if_neg (by omega)]
  rw[e];exact .new (p:=p) (by rw[w0h,h];rfl) i1 i2
structure GG(m:Nat)(ns:List Nd)(r:Nat):Prop where
 ok:GOk m ns
 po:Post ns 0 r ns.length
 sz:ns.length+1<=2^(m+1)
theorem GG.lt(g:GG m ns r):r<ns.length+2:=g.po.le.2
theorem GG.turn(g:GG m ns r):GG m (ns.map tnd) (oe r):=⟨g.ok.turn,by rw[w0c];exact g.po.turn,by rw[w0c];exact g.sz⟩
noncomputable def prW(t:Nat×Nat):W:=.tup [.int t.1,.int t.2]
theorem z1e{Vd:Nat×Nat->Prop}:PutOk prW Vd:=by
 intro dd g t n hv hg hn t' hv';have h0:=hg t hv;have h1:=hg t' hv';cases dd with
 |k kv=>exact nomatch h0
 |t sh kv=>
  have kt:∀t:Nat×Nat,keyT (prW t)=some (.tup [.int t.1,.int t.2]):=fun t=>rfl
  have ft:∀(t:Nat×Nat) o,(DD.t sh kv).look (prW t)=some o->fits (.tup [.int t.1,.int t.2]) sh/\lkG kv (.tup [.int t.1,.int t.2])=o:=fun t o h=>by
   have h:(match keyT (prW t)with|some x=>@ite _ (fits x sh) (Classical.propDecidable _) (some (lkG kv x)) none|none=>none)=some o:=h;rw[kt]at h
   by_cases z:fits (.tup [.int t.1,.int t.2]) sh
   ·simp only[if_pos z]at h;cases h;exact⟨z,rfl⟩
   ·simp only[if_neg z]at h;cases h
  obtain⟨f0,e0⟩:=ft t _ h0;obtain⟨f1,e1⟩:=ft t' _ h1;rw[x0r (kt t),q6q (kt t') f1,q7s,e1]
  by_cases z:t'=t
  ·subst z;rw[hn,if_pos rfl,if_pos rfl]
  ·rw[if_neg z];cases g t' with
   |some v=>rfl
   |none=>
    show some (@ite _ _ (Classical.propDecidable _) _ _)=_;rw[if_neg];intro y;simp only[Kx.tup.injEq,List.cons.injEq,Kx.int.injEq,and_true]at y;exact z (Prod.ext (by omega) (by omega))
theorem y3n{Vd:Nat×Nat->Prop}{top:Nat×Nat->Nat}{P:List Nd->Nat->Nat×Nat->Prop}(t:Nat×Nat):SI prW Vd top m P ⟨[],[],dd0 (prW t)⟩ [] fun _=>none:=by
 refine⟨rfl,.nil,fun k x h=>by simp at h,fun x _=>rfl,rfl,fun t' _=>?_,fun t' r _ h=>nomatch h⟩
 show(DD.t (.tup [.int,.int]) []).look (prW t')=some none;exact q6q (kv:=[]) (show keyT (prW t')=some (.tup [.int t'.1,.int t'.2])from rfl) ⟨⟨trivial,trivial,trivial⟩,by simp[Kx.depth,Kx.depths]⟩
noncomputable def tpP(ns1 ns2:List Nd)(m:Nat)(t:Nat×Nat):Nat:=min (plc ns1 m t.1) (plc ns2 m t.2)
def vdP(ns1 ns2:List Nd)(t:Nat×Nat):Prop:=t.1<ns1.length+2/\t.2<ns2.length+2
theorem q6r(g:GOk m ns)(r:Nat):plc ns m r<=m:=by
 unfold plc;split
 ·exact w0e _
 ·split
  ·rename_i x h;exact w3u (g.nd _ x h).1
  ·exact w0e _
theorem z1f{lams:Nat->Option Lm}{M:W->W->NSt->Option (Int×NSt)}{t:W}{l:Lm}(h1:lams i=some l)(h2:noFns caps=true)(h3:M (.fn i l caps) t ⟨[],[],dd0 t⟩=some (v,st))(h4:flatWs st.nodes=true):lgF lams M [t,.fn i l caps]=.ok (.x (.new (.tup [.lst st.nodes,.int v]))):=by
 unfold lgF;simp only[if_pos (And.intro h1 h2),h3,if_pos h4]
noncomputable def inBW(x:W):List W->Option Bool
 |[]=>some false
 |w::ws=>match eqW w x,inBW x ws with
  |some b,some c=>some (b||c)
  |_,_=>none
noncomputable def inL:W->W->Option W
 |x,.lst ws=>if depWs ws<=148 then(inBW x ws).map .bl else none
 |_,_=>none
theorem x4m{x:W}:∀{ws:List W}{b:Bool},inBW x ws=some b->(∀w∈ws,∃k,eqW w x=some k)/\b=ws.any fun w=>eqS w x
 |[],b,h=>by cases h;exact⟨(fun w h=>nomatch h),rfl⟩
 |w::ws,b,h=>by
  unfold inBW at h;split at h
  ·rename_i k c h1 h2;cases h;obtain⟨a1,a2⟩:=x4m h2;refine⟨fun w' hw=>?_,?_⟩
   ·rcases w0q.mp hw with rfl|hw
    ·exact⟨k,h1⟩
    ·exact a1 w' hw
   ·rw[w2q,a2];unfold eqS;rw[h1];rfl
  ·cases h
def rInD(K:PySem.W.Frag):R2:=fun x y H Q=>∃G wx ws p xs b,y=.ref p/\Same G H/\SqL K G p xs/\Reps K G ws xs/\Rep K G wx x/\depWs ws<=148/\inBW wx ws=some b/\Q (.bl b) H
theorem z1g(hu:X.A.units+150<cLine):OpR X (compareOp .In) (rInD X.K):=by
 intro pins s σ H x y v u Q I rx ry h;obtain⟨G,wx,ws,p,xs,b,rfl,sg,hq,rs,px,hd,hb,q⟩:=h;cases ry;obtain⟨its,r,pl,hz⟩:=I.list (sg.seq hq);obtain⟨g1,g2⟩:=x4m hb;have l1:=rs.length;have m1:=r.length
 have key:∀k (hk:k<its.length) (hk2:k<ws.length),SeqAt.EqAt X.A.in1 s its[k] v (eqS ws[k] wx):=fun k hk hk2=>by
  have i1:k<xs.length:=by omega
  obtain⟨u1,e1,ru1⟩:=r.get (w0a i1);obtain⟨w1,f1,p1⟩:=rs.getV (w0a i1);rw[w0a hk]at e1;rw[w0a hk2]at f1;cases e1;cases f1;obtain⟨k',hk'⟩:=g1 ws[k] (w1p hk2);have:eqS ws[k] wx=k':=by unfold eqS;rw[hk'];rfl
  rw[this]
  have hun:X.A.in1.units+148<cLine:=by
   have:X.A.in1.units=X.A.units+1:=rfl;omega
  refine q9u ru1 (q9t p1) (x7l I sg 148 (w1e (q6x (w0a hk2)) hd) hun p1 px ru1 rx hk') fun z=>?_
  subst z;have:=ru1.inj rx;rw[this]at p1;exact q8y I sg ws[k] p1 px hk'
 have hany:its.toArray.any (fun y=>@decide (∃k,∃(hk:k<its.length)(hk2:k<ws.length),its[k]=y/\eqS ws[k] wx=true) (Classical.propDecidable _))=b:=by
  rw[g2];apply w0x.mpr;rw[List.any_toArray,w2e,w2e];constructor
  ·rintro⟨y,_,h⟩;obtain⟨k,hk,hk2,_,h2⟩:=@of_decide_eq_true _ (Classical.propDecidable _) h;exact⟨ws[k],w1p hk2,h2⟩
  ·rintro⟨w',hw,h⟩;obtain⟨k,hk2,rfl⟩:=w1t.mp hw;have hk:k<its.length:=by omega
   exact⟨its[k],w1p hk,@decide_eq_true _ (Classical.propDecidable _) ⟨k,hk,hk2,rfl,h⟩⟩
 refine SeqAt.in_listAt _ pl.isList (fun y hy=>?_) ⟨.bl b,H,I,congrArg Value.bool hany,q⟩
 have hy:y∈its:=by simpa using hy
 obtain⟨k,hk,rfl⟩:=w1t.mp hy
 by_cases h:∃k',∃(hk':k'<its.length)(hk2:k'<ws.length),its[k']=its[k]/\eqS ws[k'] wx=true
 ·rw[@decide_eq_true _ (Classical.propDecidable _) h];obtain⟨k',hk',hk2,e1,e2⟩:=h;have z:=key k' hk' hk2;rw[e1,e2]at z;exact z
 ·rw[@decide_eq_false _ (Classical.propDecidable _) h];have hk2:k<ws.length:=by omega
  have z:=key k hk hk2;cases e:eqS ws[k] wx with
  |false=>rw[e]at z;exact z
  |true=>exact absurd ⟨k,hk,hk2,rfl,e⟩ h
theorem z1h:Op2 K (rInD K) inL:=by
 intro G H x y wx wy w Q s px py hf h;cases wy with
 |lst ws=>
  simp only[inL]at hf;split at hf
  ·rename_i hd;obtain⟨b,hb,rfl⟩:=w0f.mp hf;obtain⟨a,xs,rfl,ha,ra⟩:=py;exact⟨G,wx,ws,a,xs,b,rfl,s,ha,ra,px,hd,hb,h G _ H (.refl s) rfl⟩
  ·cases hf
 |_=>simp[inL]at hf
section
variable{a b:Expr}{db:Den W}
theorem z1i(hu:X.A.units+150<cLine)(ha:DE Z X EE a da)(hb:DE Z X EE b db)(hm:behindInMarks .In b=false:=by with_unfolding_all rfl):DT Z X EE (.Compare a [.In] [b] pos) (dTest (dOp inL da db)):=q6l (z1g hu) z1h ha hb hm
end
theorem y0i(hc:X.calm=true):CallR X (.builtin "min") (fun xs H Q=>∃p n ns,xs=[.ref p]/\SqT X.K H p ((n::ns).map V.int)/\Q (.int (minL n ns)) H):=by
 intro pins s σ H xs us Q I r h;obtain⟨p,n,ns,rfl,hq,q⟩:=h;obtain⟨u,rfl,rx⟩:=vals1 r;cases rx;obtain⟨its,r',pl,hz⟩:=I.tuple hq;have hl:=pl;have hlt:p<s.heap.objs.size:=by obtain⟨_,e,_⟩:=hl;exact Heap.lt_size e
 have hh:X.A.in1.handled=none:=I.ok.hd hc;have hlen:its.length=(n::ns).length:=by have:=r'.length;rw[w0c]at this;exact this.symm
 have hval:∀(i:Nat)(v:Value),its.toArray[i]?=some v->∃t,v=Value.int ((n::ns).getD i 0) t:=fun i v hv=>by
  have hv':its[i]?=some v:=by simpa using hv
  have hi:i<(n::ns).length:=by rw[<- hlen];exact(w0b.mp hv').1
  obtain⟨u,hu,ru⟩:=r'.get (i:=i) (x:=V.int ((n::ns).getD i 0)) (by rw[w0h,w0a hi,q6d hi];rfl);rw[hv']at hu;cases hu;exact ru
 refine call_min_walk (wpAny_pyIter_tuple hl ⟨s.heap.objs.size,[s.heap.objs.size,p],[s.heap.objs.size],_,_,_,_,rfl,Walks.tuple hh s.heap.objs.size p (w0p hlt) its.toArray,⟨⟨_,Heap.get?_push_size _ rfl,rfl,rfl⟩,hl.push _⟩,fun b hb=>?_,by rw[w0d,hlen];simp,CmpOf.ints_lt (fun i=>(n::ns).getD i 0) hval,fun v h' tk hP hk=>?_⟩)
 ·show b<(s.heap.push _).objs.size;rw[Heap.size_push];rcases w0q.mp hb with e|hb
  ·rw[e];exact w1q _
  ·rw[w0n.mp hb];exact w2c hlt
 ·obtain⟨t,rfl⟩:=hval _ _ hP;obtain⟨b1,b2⟩:=argBest_lt (fun i=>(n::ns).getD i 0) (its.toArray.size-1)
  have e:(n::ns).getD (argBest (fun i j=>decide ((n::ns).getD i 0<(n::ns).getD j 0)) (its.toArray.size-1)) 0=minL n ns:=by
   obtain⟨m1,m2,m3⟩:=x1i ns n;have hsz:its.toArray.size=ns.length+1:=by rw[w0d,hlen];simp
   generalize argBest (fun i j=>decide ((n::ns).getD i 0<(n::ns).getD j 0)) (its.toArray.size-1)=k at b1 b2
   have hk:k<(n::ns).length:=by simp;omega
   have ge:minL n ns<=(n::ns).getD k 0:=by
    rw[q6d hk];rcases w0q.mp (w1p hk)with z|z
    ·rw[z];exact m2
    ·exact m3 _ z
   have le:(n::ns).getD k 0<=minL n ns:=by
    have:∃j,j<=ns.length/\(n::ns).getD j 0=minL n ns:=by
     rcases m1 with z|z
     ·exact⟨0,w1i _,by simp[z]⟩
     ·obtain⟨j,hj,ej⟩:=w1t.mp z;exact⟨j+1,by omega,by simp[List.getD,hj,ej]⟩
    obtain⟨j,hj,ej⟩:=this;have:=b2 j (by omega);rw[ej]at this;exact this
   omega
  rw[e];refine⟨.int (minL n ns),H,I.kept (t':=tk) fun b o hbo=>hk b o (fun z=>?_) (Heap.get?_push_of_some _ hbo),⟨t,rfl⟩,q⟩
  rw[w0n]at z;exact absurd (Heap.lt_size hbo) (by rw[z];exact w1o _)
noncomputable def minT:List W->Option W
 |[.tup ws]=>match intsW ws with
  |some (n::ns)=>some (.int (minL n ns))
  |_=>none
 |_=>none
theorem y7f:OpN K (fun xs H Q=>∃p n ns,xs=[.ref p]/\SqT K H p ((n::ns).map V.int)/\Q (.int (minL n ns)) H) minT:=by
 intro G H xs ws w Q s pr hf h;unfold minT at hf;split at hf
 ·obtain⟨x,r,rfl,px,pr⟩:=pr;cases(show r=[]from pr);split at hf
  ·rename_i n ns hns;cases hf;obtain⟨a,cs,rfl,hq,rp⟩:=px;have:=q6p hns rp;subst this;exact⟨a,n,ns,rfl,s.tup hq,h G _ H (.refl s) rfl⟩
  ·cases hf
 ·cases hf
theorem y0j(hc:X.calm=true):CallR X (.builtin "max") (fun xs H Q=>∃p n ns,xs=[.ref p]/\SqT X.K H p ((n::ns).map V.int)/\Q (.int (maxL n ns)) H):=by
 intro pins s σ H xs us Q I r h;obtain⟨p,n,ns,rfl,hq,q⟩:=h;obtain⟨u,rfl,rx⟩:=vals1 r;cases rx;obtain⟨its,r',pl,hz⟩:=I.tuple hq;have hl:=pl;have hlt:p<s.heap.objs.size:=by obtain⟨_,e,_⟩:=hl;exact Heap.lt_size e
 have hh:X.A.in1.handled=none:=I.ok.hd hc;have hlen:its.length=(n::ns).length:=by have:=r'.length;rw[w0c]at this;exact this.symm
 have hval:∀(i:Nat)(v:Value),its.toArray[i]?=some v->∃t,v=Value.int ((n::ns).getD i 0) t:=fun i v hv=>by
  have hv':its[i]?=some v:=by simpa using hv
  have hi:i<(n::ns).length:=by rw[<- hlen];exact(w0b.mp hv').1
  obtain⟨u,hu,ru⟩:=r'.get (i:=i) (x:=V.int ((n::ns).getD i 0)) (by rw[w0h,w0a hi,q6d hi];rfl);rw[hv']at hu;cases hu;exact ru
 refine call_max_walk (wpAny_pyIter_tuple hl ⟨s.heap.objs.size,[s.heap.objs.size,p],[s.heap.objs.size],_,_,_,_,rfl,Walks.tuple hh s.heap.objs.size p (w0p hlt) its.toArray,⟨⟨_,Heap.get?_push_size _ rfl,rfl,rfl⟩,hl.push _⟩,fun b hb=>?_,by rw[w0d,hlen];simp,CmpOf.ints_gt (fun i=>(n::ns).getD i 0) hval,fun v h' tk hP hk=>?_⟩)
 ·show b<(s.heap.push _).objs.size;rw[Heap.size_push];rcases w0q.mp hb with e|hb
  ·rw[e];exact w1q _
  ·rw[w0n.mp hb];exact w2c hlt
 ·obtain⟨t,rfl⟩:=hval _ _ hP;obtain⟨b1,b2⟩:=argBest_gt (fun i=>(n::ns).getD i 0) (its.toArray.size-1)
  have e:(n::ns).getD (argBest (fun i j=>decide ((n::ns).getD i 0>(n::ns).getD j 0)) (its.toArray.size-1)) 0=maxL n ns:=by
   obtain⟨m1,m2,m3⟩:=x6j ns n;have hsz:its.toArray.size=ns.length+1:=by rw[w0d,hlen];simp
   generalize argBest (fun i j=>decide ((n::ns).getD i 0>(n::ns).getD j 0)) (its.toArray.size-1)=k at b1 b2
   have hk:k<(n::ns).length:=by simp;omega
   have ge:(n::ns).getD k 0<=maxL n ns:=by
    rw[q6d hk];rcases w0q.mp (w1p hk)with z|z
    ·rw[z];exact m2
    ·exact m3 _ z
   have le:maxL n ns<=(n::ns).getD k 0:=by
    have:∃j,j<=ns.length/\(n::ns).getD j 0=maxL n ns:=by
     rcases m1 with z|z
     ·exact⟨0,w1i _,by simp[z]⟩
     ·obtain⟨j,hj,ej⟩:=w1t.mp z;exact⟨j+1,by omega,by simp[List.getD,hj,ej]⟩
    obtain⟨j,hj,ej⟩:=this;have:=b2 j (by omega);rw[ej]at this;exact this
   omega
  rw[e];refine⟨.int (maxL n ns),H,I.kept (t':=tk) fun b o hbo=>hk b o (fun z=>?_) (Heap.get?_push_of_some _ hbo),⟨t,rfl⟩,q⟩
  rw[w0n]at z;exact absurd (Heap.lt_size hbo) (by rw[z];exact w1o _)
noncomputable def maxT:List W->Option W
 |[.tup ws]=>match intsW ws with
  |some (n::ns)=>some (.int (maxL n ns))
  |_=>none
 |_=>none
theorem y7g:OpN K (fun xs H Q=>∃p n ns,xs=[.ref p]/\SqT K H p ((n::ns).map V.int)/\Q (.int (maxL n ns)) H) maxT:=by
 intro G H xs ws w Q s pr hf h;unfold maxT at hf;split at hf
 ·obtain⟨x,r,rfl,px,pr⟩:=pr;cases(show r=[]from pr);split at hf
  ·rename_i n ns hns;cases hf;obtain⟨a,cs,rfl,hq,rp⟩:=px;have:=q6p hns rp;subst this;exact⟨a,n,ns,rfl,s.tup hq,h G _ H (.refl s) rfl⟩
  ·cases hf
 ·cases hf
theorem y7h(hc:X.calm=true)(hm:X.mg "min"=none)(ha:DA Z X EE [e] dA)(hg:Gl X "min":=by rfl)(he:starEach [e] X.env=(false,eval e X.env)::starEach [] X.env:=by rfl)(hpl:(backTo pos (starEach [] X.env)).any (·.1)=false:=by rfl):DE Z X EE (.Call (.Name "min" p) [e] [] pos) (dFn minT dA):=
 q68 (y0i hc) y7f PyProof.Rows.Boot.«min» hm ha hg (by decide) (by decide) he hpl
theorem y7i(hc:X.calm=true)(hm:X.mg "max"=none)(ha:DA Z X EE [e] dA)(hg:Gl X "max":=by rfl)(he:starEach [e] X.env=(false,eval e X.env)::starEach [] X.env:=by rfl)(hpl:(backTo pos (starEach [] X.env)).any (·.1)=false:=by rfl):DE Z X EE (.Call (.Name "max" p) [e] [] pos) (dFn maxT dA):=
 q68 (y0j hc) y7g PyProof.Rows.Boot.«max» hm ha hg (by decide) (by decide) he hpl
theorem minT2{x y:Int}:minT [.tup [.int x,.int y]]=some (.int (if y<x then y else x)):=rfl
theorem maxT2{x y:Int}:maxT [.tup [.int x,.int y]]=some (.int (if x<y then y else x)):=rfl
noncomputable abbrev Rw:=Nat->Bool
variable{row:Rw}
inductive Ev(ns:List Nd)(row:Rw):Nat->Bool->Prop
 |fin {r:Nat} (h:r<2):Ev ns row r (decide (r=1))
 |nd {k p lo hi:Nat} {b:Bool} (h:ns[k]?=some (p,lo,hi)) (h':Ev ns row (if row p=true then hi else lo) b):Ev ns row (k+2) b
noncomputable def ev(ns:List Nd)(row:Rw)(r:Nat):Bool:=@decide (Ev ns row r true) (Classical.propDecidable _)
theorem x4n:ev ns row r=true↔Ev ns row r true:=⟨fun h=>@of_decide_eq_true _ (Classical.propDecidable _) h,fun h=>@decide_eq_true _ (Classical.propDecidable _) h⟩
theorem q13(h:r<2):ev ns row r=decide (r=1):=by
 apply w0x.mpr;rw[x4n,decide_eq_true_eq];constructor
 ·intro e;generalize hb:true=b at e;cases e with
  |fin _=>exact of_decide_eq_true hb.symm
  |nd _ _=>omega
 ·intro e;have:=Ev.fin (ns:=ns) (row:=row) h
  rwa [decide_eq_true e]at this
theorem q2i{k:Nat}{x:Nd}(h:ns[k]?=some x):ev ns row (k+2)=ev ns row (if row x.1=true then x.2.2 else x.2.1):=by
 obtain⟨p,lo,hi⟩:=x;apply w0x.mpr;rw[x4n,x4n];constructor
 ·intro e;generalize hr:k+2=r at e;generalize hb:true=b at e;cases e with
  |fin _=>omega
  |nd h1 h2=>
   cases Nat.add_right_cancel hr;rw[h]at h1;cases h1;subst hb;exact h2
 ·exact fun e=>.nd h e
theorem x4o{ns':List Nd}(g:GOk m ns){L:Nat}(hp:∀k,k<L->ns[k]?=ns'[k]?)(hL:L<=ns.length)(row:Rw):∀N r,r<N->r<L+2->ev ns row r=ev ns' row r
 |N+1,r,hN,hr=>by
  by_cases h2:r<2
  ·rw[q13 h2,q13 h2]
  ·obtain⟨k,rfl⟩:∃k,r=k+2:=⟨r-2,by omega⟩;have e:ns[k]?=some ns[k]:=w0a (by omega);have e':ns'[k]?=some ns[k]:=by rw[<- hp k (by omega)];exact e
   obtain⟨_,_,a,b,_⟩:=g.nd k _ e;rw[q2i e,q2i e'];split
   ·exact x4o g hp hL row N _ (by omega) (by omega)
   ·exact x4o g hp hL row N _ (by omega) (by omega)
theorem q96(g:GOk m ns){row':Rw}:∀N r,r<N->r<ns.length+2->(∀q,plc ns m r<=q->row q=row' q)->ev ns row r=ev ns row' r
 |N+1,r,hN,hr,hq=>by
  by_cases h2:r<2
  ·rw[q13 h2,q13 h2]
  ·obtain⟨k,rfl⟩:∃k,r=k+2:=⟨r-2,by omega⟩;have e:ns[k]?=some ns[k]:=w0a (by omega);obtain⟨_,_,a,b,c,d⟩:=g.nd k _ e;rw[q3m e]at hq;rw[q2i e,q2i e,hq _ (w0e _)];split
   ·exact q96 g N _ (by omega) (by omega) fun q h=>hq q (by omega)
   ·exact q96 g N _ (by omega) (by omega) fun q h=>hq q (by omega)
noncomputable def rset(row:Rw)(p:Nat)(b:Bool):Rw:=fun q=>if q=p then b else row q
theorem y0k(g:GOk m ns){p:Nat}{b:Bool}(hr:r<ns.length+2)(hp:p<plc ns m r):ev ns (rset row p b) r=ev ns row r:=
 q96 g (r+1) r (w1q _) hr fun q h=>if_neg (by omega)
theorem y0l{ext:List Nd}(g:GOk m ns)(hr:r<ns.length+2):ev (ns++ext) row r=ev ns row r:=
 (x4o g (L:=ns.length) (fun k hk=>(w0w hk).symm) (w0e _) row (r+1) r (w1q _) hr).symm
theorem x1m(g:GOk m ns)(row:Rw):∀N r,r<N->r<ns.length+2->ev (ns.map tnd) row (oe r)=!ev ns row r
 |N+1,r,hN,hr=>by
  by_cases h2:r<2
  ·rw[q13 h2,q13 (x3i (k:=0) h2)];unfold oe;rw[if_pos h2];have:r=0\/r=1:=by omega
   rcases this with rfl|rfl<;>rfl
  ·obtain⟨k,rfl⟩:∃k,r=k+2:=⟨r-2,by omega⟩;have e:ns[k]?=some ns[k]:=w0a (by omega);have e':(ns.map tnd)[k]?=some (tnd ns[k]):=by rw[w0h,e];rfl
   obtain⟨_,_,a,b,_⟩:=g.nd k _ e;rw[show oe (k+2)=k+2 from if_neg (by omega),q2i e',q2i e];show ev (ns.map tnd) row (if row ns[k].1=true then oe ns[k].2.2 else oe ns[k].2.1)=_;split
   ·exact x1m g row N _ (by omega) (by omega)
   ·exact x1m g row N _ (by omega) (by omega)
structure OldE(K:PySem.W.Frag)(G:Hp)(σ:L2.St)(e:List S):Prop where
 len:e.length=σ.length
 at':∀(i:Nat)(s:S),e[i]?=some s->s=.no\/∃w u,s=.x (.old w)/\σ[i]?.getD none=some u/\Rep K G w u
structure NewG(K:PySem.W.Frag)(G:Hp)(l:Addr)(xs:List V)(v:V)(us vs:List W):Prop where
 tup:∃t zs,v=.ref t/\SqT K G t (.ref l::zs)/\Reps K G vs zs
 it:Reps K G us xs
 off:G l=none
 fu:flatWs us=true
 fv:flatWs vs=true
structure It where
 l:Addr
 xs:List V
 v:V
 us:List W
 vs:List W
def tCallVK(mg:Str->Option Value)(tn:Str)(spA:V->List V->Hp->VK->XK->Prop)(spB:Sp)(EE:L2.St->XK)(tv:TE)(t:TA):TE:=fun σ H Q=>tv σ H fun x H1=>
 (IsFn H1 x/\t σ H1 fun vs H2=>spA x vs H2 Q (EE σ))\/(∃f,x=.ref f/\mg tn=some (.ref f)/\t σ H1 fun vs H2=>spB vs H2 Q (EE σ))
section
variable{k:Nat}{tv:TE}{t:TA}
theorem y0m(F:FnV X.prog X.w X.K X.mg X.base (CX1 X.prog X.w) k spA)(C:Cal X.prog X.w X.K X.mg X.base k tn ps spB)(hr:Room k X.A)(hv:PE X (.Name x p) tv)(hx:PassX (CX1 X.prog X.w) X EE)(ha:PA X (e::es) t)
  (he:starEach (e::es) X.env=(false,eval e X.env)::starEach es X.env:=by rfl)(hpl:(backTo pos (starEach es X.env)).any (·.1)=false:=by rfl):
  PE X (.Call (.Name x p) (e::es) [] pos) (tCallVK X.mg tn spA spB EE tv t):=by
 intro pins s σ H Q I h;refine wpAny_Call_Name_kw (thn (hv pins s σ H _ I h) fun u s1 ⟨y,H1,I1,ry,q⟩=>?_)
 rcases q with⟨⟨f,oc,od,fd,sl,uu,ey,ef⟩,q⟩|⟨f,ey,hm,q⟩
 ·subst ey;obtain rfl:u=Value.ref f:=ry;refine PySem.W.callWith_F ⟨oc,od,fd,sl,(show s1.heap.get? f=some _/\_ from I1.hok f _ ef).1⟩ (thn (ha pos pins s1 σ H1 _ I1 q) fun us s2 ⟨vs,H2,I2,r,q2⟩=>?_) he hpl
  obtain⟨f',oc',od',fd',sl',u',ex',ef',run⟩:=F _ _ _ _ _ q2;cases ex';refine⟨⟨oc',od',fd',sl',(show s2.heap.get? f=some _/\_ from I2.hok f _ ef').1⟩,wpAny_call (codeAny_mono (run X.A X.stack s2 us hr I2.env0 r) fun r s' hq=>?_)⟩
  cases r with
  |error e=>exact hx pins σ H2 s2 e s' I2 hq
  |ok fl=>
   cases fl with
   |ret u=>exact I2.after hq
   |next=>exact False.elim hq
   |brk=>exact False.elim hq
   |cont=>exact False.elim hq
 ·subst ey;obtain rfl:u=Value.ref f:=ry;obtain⟨f',fd,F',m,kp,b⟩:=C.ex;rw[hm]at m;cases m;refine callWith_K (h₀:=X.base) I1.ok.mod.kin kp (thn (ha pos pins s1 σ H1 _ I1 q) fun us s2 ⟨vs,H2,I2,r,q2⟩=>⟨I2.kIn,?_⟩) he hpl
  exact x53 F' hr b .nil hx I2 r (by rw[w1n];exact q2)
theorem pe_glob{f:Addr}(hm:X.mg x=some (.ref f))(hg:Gl X x:=by rfl)(hdb:(x==("__debug__":Str))=false:=by decide):PE X (.Name x p) (tC (.ref f)):=fun pins s σ H Q I h=>q5b I hg hm ⟨.ref f,H,I,rfl,h⟩ hdb
end
def tNFK(K:PySem.W.Frag)(mg:Str->Option Value)(tn:Str)(spA:V->List V->Hp->VK->XK->Prop)(spB spF' spN':Sp)(E:XK):TS:=
 tSeq (tIfS (tB (tDNotIn (tVar 0) (tVar 4)))
   (tSeq (tAsg (tCallVK mg tn spA spB (fun _=>E) (tVar 1) (tCons (tVar 0) tNil)) (gName 5))
    (tIfS (tOr (tTest (tOp rIs (tVar 5) (tC (V.bl true)))) (tTest (tOp rIs (tVar 5) (tC (V.bl false)))))
     (sDPut (tVar 4) (tVar 0) (tIf (fun σ H Q=>tVar 5 σ H fun x H'=>∃k,TruV K x H' k/\Q k H') (tC (V.int 1)) (tC (V.int 0))))
     (tSeq (tAsg (tCallX spF' [] (fun _=>E) (tCons (tOp (rIxT K) (tVar 5) (tC (V.int 1))) (tCons (tVar 1) (tCons (tVar 2) (tCons (tVar 3) (tCons (tVar 4) tNil)))))) (gName 6))
      (tSeq (tAsg (tCallX spF' [] (fun _=>E) (tCons (tOp (rIxT K) (tVar 5) (tC (V.int 2))) (tCons (tVar 1) (tCons (tVar 2) (tCons (tVar 3) (tCons (tVar 4) tNil)))))) (gName 7))
       (sDPut (tVar 4) (tVar 0) (tCallX spN' [] (fun _=>E) (tCons (tTup (tCons (tOp (rIxT K) (tVar 5) (tC (V.int 0))) (tCons (tVar 6) (tCons (tVar 7) tNil)))) (tCons (tVar 2) (tCons (tVar 3) tNil)))))))))
   tNext)
  (tRet (tDGet (tVar 4) (tVar 0)))
theorem callK{Qc:VK}
  (h:(∀Qc:VK,(∀G1 H1 vw,Grow G H G1 H1->Rep K G1 w vw->Qc vw H1)->IsFn H va/\spA va [vt] H Qc E)\/(∃f,va=.ref f/\mg tn=some (.ref f)/\∀Qc:VK,(∀G1 H1 vw,Grow G H G1 H1->Rep K G1 w vw->Qc vw H1)->spB [vt] H Qc E))
  (hs:σ[0]?=some (some vt))(hq:∀G1 H1 vw,Grow G H G1 H1->Rep K G1 w vw->Qc vw H1):
  (IsFn H va/\(tCons (tVar 0) tNil) σ H fun vs H2=>spA va vs H2 Qc E)\/(∃f,va=.ref f/\mg tn=some (.ref f)/\(tCons (tVar 0) tNil) σ H fun vs H2=>spB vs H2 Qc E):=by
 rcases h with h|⟨f,h1,h2,h⟩
 ·exact .inl ⟨(h Qc hq).1,vt,hs,(h Qc hq).2⟩
 ·exact .inr ⟨f,h1,h2,vt,hs,h Qc hq⟩
theorem y0n(hK:NoTup K){spR:Sp}{A:W->Option W}{Mf:W->NSt->Option (Int×NSt)}{FV:Hp->Prop}{t:W}{p d2:Addr}{st':NSt}{Q:VK}
  (fmono:∀{G G':Hp},Same G G'->FV G->FV G')
  (hcall:∀{G H:Hp}{t:W}{vt:V}{w:W},Same G H->FV G->Rep K G t vt->A t=some w->(∀Qc:VK,(∀G1 H1 vw,Grow G H G1 H1->Rep K G1 w vw->Qc vw H1)->IsFn H va/\spA va [vt] H Qc E)\/(∃f,va=.ref f/\mg tn=some (.ref f)/\∀Qc:VK,(∀G1 H1 vw,Grow G H G1 H1->Rep K G1 w vw->Qc vw H1)->spB [vt] H Qc E))
  (hrec:∀{G H:Hp}{p d1 d2:Addr}{st:NSt}{t:W}{vt:V}{v:Int}{st':NSt}{Q:VK},FV G->Rep K G t vt->N3 K G H p d1 d2 st->Mf t st=some (v,st')->(∀G' H',NOk G H G' H' [p,d1,d2]->N3 K G' H' p d1 d2 st'->Q (.int v) H')->spR [vt,va,.ref p,.ref d1,.ref d2] H Q E)
  (rt:Rep K G t vt)(rf:FV G)(n3:N3 K G H p d1 d2 st)(hF:nfS A Mf t st=some (v,st'))(q:∀G' H',NOk G H G' H' [p,d1,d2]->N3 K G' H' p d1 d2 st'->Q (.int v) H')
  {pp:Prop}(hpp:∀t st x,Mf t st=some x->pp)(N:List Str)(hN:N.length=8):
  tNFK K mg tn spA spB spR (spNNp K pp) E {nx:=fun _ H'=>Q .non H',rt:=Q} (L2.start N [vt,va,.ref p,.ref d1,.ref d2]) H:=by
 have hst:L2.start N [vt,va,.ref p,.ref d1,.ref d2]=[some vt,some va,some (.ref p),some (.ref d1),some (.ref d2),none,none,none]:=by unfold L2.start;rw[hN];rfl
 rw[hst];have n3':=n3;obtain⟨⟨xs,ka1,sg,hp,gp,rp,h1,g1⟩,ka,h2,g2,ne⟩:=n3';unfold nfS at hF;cases hlk:st.seen.look t with
 |none=>rw[hlk]at hF;cases hF
 |some o=>
  rw[hlk]at hF;have dg:=q8o hK sg h2 rt hlk;refine⟨vt,rfl,.ref d2,rfl,d2,_,rfl,dg,_,rfl,?_⟩;cases o with
  |some v0=>
   cases hF;rw[if_neg (by simp)];exact⟨.ref d2,rfl,vt,rfl,d2,.int v,rfl,dg,q G H .refl n3⟩
  |none=>
   rw[if_pos (by simp)];dsimp only at hF;cases hA:A t with
   |none=>rw[hA]at hF;cases hF
   |some w=>
    rw[hA]at hF;refine⟨va,rfl,?_⟩
    ·refine callK (hcall sg rf rt hA) rfl fun G1 H1 vw g rw1=>?_
     have rt1:=Rep.mono g.gg t rt;have rf1:=fmono g.gg rf;have m3:=n3.grow g;have k0:NOk G H G1 H1 [p,d1,d2]:=.grow g;split at hF
     ·rename_i b he;cases he;cases(show vw=V.bl b from rw1);split at hF
      ·rename_i hsz;cases hF;obtain⟨⟨ys,kb1,sg1,hp1,gp1,rp1,h11,g11⟩,kb,h21,g21,_⟩:=m3
       have fin:∀(n:Int),n=bI b->(sDPut (tVar 4) (tVar 0) (fun _ H Q=>Q (.int n) H) {nx:=tRet (tDGet (tVar 4) (tVar 0)) {nx:=fun _ H'=>Q .non H',rt:=Q},rt:=Q} [some vt,some va,some (.ref p),some (.ref d1),some (.ref d2),some (.bl b),none,none] H1):=by
        rintro n rfl;obtain⟨kc,dp⟩:=x4g hK sg1 (n:=bI b) h21 rt1 hlk hsz;refine⟨.ref d2,rfl,vt,rfl,d2,_,rfl,dp,.ref d2,rfl,vt,rfl,d2,.int (bI b),rfl,?_,?_⟩
        ·have:=q8o hK (G:=G1) (fun a o z=>by rw[q0d (q0m z g21)];exact sg1 a o z) (d:=d2) (dd:=st.seen.put t (bI b)) (ka:=kc) q0h rt1 (q9j hlk)
         exact this
        ·exact q G1 _ (k0.trans (NOk.upd (L:=[p,d1,d2]) (by simp) g21) fun _ z=>z) (N3.put ⟨⟨ys,kb1,sg1,hp1,gp1,rp1,h11,g11⟩,kb,h21,g21,ne⟩)
       refine⟨.bl b,rfl,.inr ⟨_,rfl⟩,decide (V.bl b=V.bl true),rfl,?_⟩;cases b with
       |true=>
        rw[if_pos (decide_eq_true rfl)];dsimp only;rw[if_pos rfl];refine⟨.bl true,rfl,true,rfl,?_⟩;dsimp only;rw[if_pos rfl];exact fin 1 rfl
       |false=>
        rw[if_neg (by rw[decide_eq_true_eq];intro z;injection z with z;cases z)];refine⟨.bl false,rfl,.inr ⟨_,rfl⟩,_,rfl,?_⟩;dsimp only;rw[if_pos (decide_eq_true rfl)];refine⟨.bl false,rfl,false,rfl,?_⟩;dsimp only;rw[if_neg (by decide)];exact fin 0 rfl
      ·cases hF
     ·rename_i pl lo hi he;cases he;obtain⟨tw,us,rfl,ht,ru⟩:=rw1;obtain⟨u0,_,rfl,e0,u1,_,rfl,e1,u2,_,rfl,e2,rfl⟩:=ru;cases(show u0=V.int pl from e0);cases q1:Mf lo st with
      |none=>rw[q1]at hF;cases hF
      |some p1=>
       obtain⟨v1,st1⟩:=p1;rw[q1]at hF;dsimp only at hF;cases q2:Mf hi st1 with
       |none=>rw[q2]at hF;cases hF
       |some p2=>
        obtain⟨v2,st2⟩:=p2;rw[q2]at hF;dsimp only at hF;cases q3:nnF pl v1 v2 st2.nodes st2.num with
        |none=>rw[q3]at hF;cases hF
        |some p3=>
         obtain⟨v3,ns3,kv3⟩:=p3;rw[q3]at hF;dsimp only at hF;split at hF
         ·rename_i hb;cases hF;have sg1:Same G1 H1:=g.sub;refine⟨.ref tw,rfl,.inr ⟨_,rfl⟩,_,rfl,?_⟩;dsimp only;rw[if_neg (by rw[decide_eq_true_eq];intro z;cases z)];refine⟨.ref tw,rfl,.inr ⟨_,rfl⟩,_,rfl,?_⟩;dsimp only;rw[if_neg (by rw[decide_eq_true_eq];intro z;cases z)];refine⟨.ref tw,rfl,tw,_,1,u1,rfl,rfl,sg1.tup ht,rfl,va,rfl,.ref p,rfl,.ref d1,rfl,.ref d2,rfl,hrec rf1 e1 m3 q1 fun G2 H2 k2 m2=>?_⟩
          have sg2:Same G2 H2:=by obtain⟨⟨_,_,z,_⟩,_⟩:=m2;exact z
          have ht2:=Same.tup k2.gg ht;refine⟨.ref tw,rfl,tw,_,2,u2,rfl,rfl,sg2.tup ht2,rfl,va,rfl,.ref p,rfl,.ref d1,rfl,.ref d2,rfl,hrec (fmono k2.gg rf1) (Rep.mono k2.gg hi e2) m2 q2 fun G3 H3 k3 m4=>?_⟩
          have m5:=m4;obtain⟨n4,kc,h23,g23,_⟩:=m4;have sg3:Same G3 H3:=by obtain⟨_,_,z,_⟩:=n4;exact z
          have ht3:=Same.tup k3.gg ht2;refine⟨.ref tw,rfl,tw,_,0,.int pl,rfl,rfl,sg3.tup ht3,rfl,.int v1,rfl,.int v2,rfl,by rw[sizeLine_eq];exact(by decide:3<=16777216),fun c hc=>?_⟩
          have g4:=Grow.laid sg3 hc (.tup [.int pl,.int v1,.int v2]);have rq:Rep K (upd G3 c (.tup [.int pl,.int v1,.int v2])) (nW pl v1 v2) (.ref c):=⟨c,_,rfl,SqT.of q0h,⟨_,_,rfl,rfl,_,_,rfl,rfl,_,_,rfl,rfl,rfl⟩⟩;refine⟨.ref p,rfl,.ref d1,rfl,hpp _ _ _ q1,_,p,d1,st2.nodes,st2.num,pl,v1,v2,.ref c,v,ns3,kv3,rfl,rq,n4.grow g4,q3,fun G5 H5 k5 n5=>?_⟩
          have kall:NOk G H G5 H5 [p,d1,d2]:=((k0.trans k2 fun _ z=>z).trans k3 fun _ z=>z).trans ((NOk.grow (L:=[p,d1,d2]) g4).trans k5 fun a z=>by simp at z |-;rcases z with z|z<;>simp[z]) fun _ z=>z
          have nd2p:d2≠p:=fun z=>by
           obtain⟨_,_,_,hp4,_⟩:=n4;subst z;rw[hp4]at h23;exact y0f (Option.some.inj h23).symm
          have h25:H5 d2=some (ddO st2.seen kc):=k5.ent d2 _ (g4.hh _ _ h23) (fun z=>by
           rcases w0q.mp z with z|z
           ·exact nd2p z
           ·exact ne (w0n.mp z).symm)
          have g25:G5 d2=none:=by rw[k5.new d2 (by rw[g4.hh _ _ h23];simp),g4.new d2 (by rw[h23];simp)];exact g23
          have sg5:Same G5 H5:=by obtain⟨_,_,z,_⟩:=n5;exact z
          have rt5:Rep K G5 t vt:=Rep.mono ((k2.gg.trans k3.gg).trans (g4.gg.trans k5.gg)) t rt1;obtain⟨kd,dp⟩:=x4g hK sg5 (n:=v) h25 rt5 hb.1 hb.2;refine⟨.ref d2,rfl,vt,rfl,d2,_,rfl,dp,.ref d2,rfl,vt,rfl,d2,.int v,rfl,?_,?_⟩
          ·exact q8o hK (G:=G5) (fun a o z=>by rw[q0d (q0m z g25)];exact sg5 a o z) (d:=d2) (dd:=st2.seen.put t v) (ka:=kd) q0h rt5 (q9j hb.1)
          ·exact q G5 _ (kall.trans (NOk.upd (L:=[p,d1,d2]) (by simp) g25) fun _ z=>z) (N3.put (st:=⟨ns3,kv3,st2.seen⟩) ⟨n5,kc,h25,g25,ne⟩)
         ·cases hF
     ·cases hF
theorem y0o{spR:Sp}{Mf:W->NSt->Option (Int×NSt)}{FV:Hp->Prop}{t:W}{Q:VK}
  (hrec:∀{G H:Hp}{p d1 d2:Addr}{st:NSt}{t:W}{vt:V}{v:Int}{st':NSt}{Q:VK},FV G->Rep K G t vt->N3 K G H p d1 d2 st->Mf t st=some (v,st')->(∀G' H',NOk G H G' H' [p,d1,d2]->N3 K G' H' p d1 d2 st'->Q (.int v) H')->spR [vt,va,.ref p,.ref d1,.ref d2] H Q E)
  (sg:Same G H)(rt:Rep K G t vt)(rf:FV G)(hM:Mf t ⟨[],[],dd0 t⟩=some (v,st))(hfl:flatWs st.nodes=true)
  (h:∀G' H' v',Grow G H G' H'->SlotOk K ⟨H,G,[]⟩ G' H' (.x (.new (.tup [.lst st.nodes,.int v]))) (some v')->Q v' H')(N:List Str)(hN:N.length=4):
  tLG spR E {nx:=fun _ H'=>Q .non H',rt:=Q} (L2.start N [vt,va]) H:=by
 have hst:L2.start N [vt,va]=[some vt,some va,none,none]:=by unfold L2.start;rw[hN];rfl
 rw[hst];refine⟨by rw[sizeLine_eq];exact(by decide:0<=16777216),fun p hp=>?_⟩
 have gp:G p=none:=sg.free hp;refine⟨vt,rfl,va,rfl,.ref p,rfl,fun d1 hd1=>⟨dd0 t,y7a t,fun d2 hd2=>?_⟩⟩
 have np1:p≠d1:=fun z=>by subst z;rw[q0h]at hd1;cases hd1
 have np2:p≠d2:=fun z=>by subst z;rw[q0d np1,q0h]at hd2;cases hd2
 have n12:d1≠d2:=fun z=>by subst z;rw[q0h]at hd2;cases hd2
 have hd1H:H d1=none:=by rw[q0d (fun z=>np1 z.symm)]at hd1;exact hd1
 have hd2H:H d2=none:=by rw[q0d (fun z=>n12 z.symm),q0d (fun z=>np2 z.symm)]at hd2;exact hd2
 have keep:∀a o,H a=some o->upd (upd (upd H p (.lst [])) d1 (.dT shN [] [])) d2 (ddO (dd0 t) []) a=some o:=fun a o z=>by
  rw[q0d (q0m z hd2H),q0d (q0m z hd1H),q0d (q0m z hp)];exact z
 refine hrec (p:=p) (d1:=d1) (d2:=d2) (st:=⟨[],[],dd0 t⟩) rf rt ⟨⟨[],[],fun a o z=>keep a o (sg a o z),?_,gp,rfl,?_,sg.free hd1H⟩,[],q0h,sg.free hd2H,n12⟩ hM fun G1 H1 k1 n3=>?_
 ·rw[q0d np2,q0d np1,q0h]
 ·rw[q0d n12,q0h];rfl
 ·obtain⟨⟨xs,ka1,sg1,hp1,gp1,rp1,h11,g11⟩,ka,h21,g21,_⟩:=n3;refine⟨.ref p,rfl,.int v,rfl,by rw[sizeLine_eq];exact(by decide:2<=16777216),fun c hcn=>?_⟩
  have hH:∀a o,H a=some o->H1 a=some o:=fun a o z=>k1.ent a o (keep a o z) fun y=>by
   simp only[w0q,List.not_mem_nil,or_false]at y;rcases y with y|y|y
   ·subst y;rw[hp]at z;cases z
   ·subst y;rw[hd1H]at z;cases z
   ·subst y;rw[hd2H]at z;cases z
  have hpc:p≠c:=fun z=>by subst z;rw[hp1]at hcn;cases hcn
  have hnew:∀a,H a≠none->a≠p/\a≠c:=fun a z=>⟨fun y=>by subst y;exact z hp,fun y=>by
   subst y;cases q:H a with
   |none=>exact z q
   |some o=>rw[hH a o q]at hcn;cases hcn⟩
  have sgp:Same G1 (upd G1 p (.lst xs)):=q2o gp1 _;have gc1:upd G1 p (.lst xs) c=none:=by rw[q0d (fun z=>hpc z.symm)];exact sg1.free hcn
  have sgc:Same (upd G1 p (.lst xs)) (upd (upd G1 p (.lst xs)) c (.tup [.ref p,.int v])):=q2o gc1 _;refine h (upd (upd G1 p (.lst xs)) c (.tup [.ref p,.int v])) _ (.ref c) ⟨fun a o z=>?_,k1.gg.trans (sgp.trans sgc),fun a o z=>?_,fun a z=>?_⟩ ⟨.ref c,rfl,c,[.ref p,.int v],rfl,?_,?_⟩
  ·rw[q0d (hnew a (by rw[z];simp)).2];exact hH a o z
  ·by_cases ea:a=c
   ·subst ea;rw[q0h]at z |-;exact z
   ·rw[q0d ea]at z |-
    by_cases eb:a=p
    ·subst eb;rw[q0h]at z;cases z;exact hp1
    ·rw[q0d eb]at z;exact sg1 a o z
  ·rw[q0d (hnew a z).2,q0d (hnew a z).1]
   rw[k1.new a (by cases q:H a with
    |none=>exact absurd q z
    |some o=>rw[keep a o q];simp)]
  ·exact SqT.of q0h
  ·exact⟨.ref p,_,rfl,⟨p,xs,rfl,by rw[q0d hpc,q0h],hp,q58 _ hfl (Reps.mono (sgp.trans sgc) _ rp1)⟩,.int v,_,rfl,rfl,rfl⟩
section
variable{P:Program}{w:World}{base:Heap}
noncomputable def spNFK(K:PySem.W.Frag)(lams:Nat->Option Lm)(N:W->W->NSt->Option (Int×NSt))(mg:Str->Option Value)(tn:Str)(tw:W):Sp:=fun vs H Q E=>spNF K lams N vs H Q E \/
 ∃G p d1 d2 st t vt f v st',vs=[vt,.ref f,.ref p,.ref d1,.ref d2]/\Rep K G t vt/\mg tn=some (.ref f)/\N3 K G H p d1 d2 st/\N tw t st=some (v,st')/\∀G' H',NOk G H G' H' [p,d1,d2]->N3 K G' H' p d1 d2 st'->Q (.int v) H'
theorem z1j(hK:NoTup K){lams:Nat->Option Lm}{r:Nat->List W->FR}{M M':W->W->NSt->Option (Int×NSt)}{ti:Nat}{l0:Lm}{Q:VK}(h:spNFK K lams M' mg tn (.fn ti l0 []) vs H Q E)
  (hM:∀i l caps t st v st',M' (.fn i l caps) t st=some (v,st')->nfS (askF r i caps) (M (.fn i l caps)) t st=some (v,st')){pp:Prop}(hpp:∀f t st x,M f t st=some x->pp)(N:List Str)(hN:N.length=8):
  tNFK K mg tn (spV K lams r) (spF K (r ti)) (spNFK K lams M mg tn (.fn ti l0 [])) (spNNp K pp) E {nx:=fun _ H'=>Q .non H',rt:=Q} (L2.start N vs) H:=by
 rcases h with⟨G,p,d1,d2,st,t,vt,va,i,l,caps,v,st',rfl,rt,rf,hcaps,hl,n3,hF,q⟩|⟨G,p,d1,d2,st,t,vt,f,v,st',rfl,rt,hm,n3,hF,q⟩
 ·refine y0n hK (A:=askF r i caps) (Mf:=M (.fn i l caps)) (FV:=fun G=>Rep K G (.fn i l caps) va) (fun s h=>Rep.mono s (.fn i l caps) h) (fun {G H t vt w} sg rf rt hA=>.inl fun Qc hq=>?_) (fun {G H p d1 d2 st t vt v st' Q} rf rt n3 hm q=>?_) rt rf n3 (hM _ _ _ _ _ _ _ hF) q (hpp _) N hN
  ·obtain⟨hnf,hr⟩:=x2p hA;refine⟨?_,G,i,l,caps,[t],w,sg,rf,⟨vt,[],rfl,rt,rfl⟩,by simp[noFns,hnf],hcaps,hl,hr,hq⟩;obtain⟨f,cl,zs,cs,rfl,⟨pm,c',ctv,ef⟩,_⟩:=rf;exact⟨f,_,_,_,_,_,rfl,sg _ _ ef⟩
  ·exact .inl ⟨G,p,d1,d2,st,t,vt,va,i,l,caps,v,st',rfl,rt,rf,hcaps,hl,n3,hm,q⟩
 ·refine y0n hK (A:=askF r ti []) (Mf:=M (.fn ti l0 [])) (FV:=fun _=>True) (fun _ h=>h) (fun {G H t vt w} sg _ rt hA=>.inr ⟨f,rfl,hm,fun Qc hq=>?_⟩) (fun {G H p d1 d2 st t vt v st' Q} _ rt n3 hm' q=>?_) rt trivial n3 (hM _ _ _ _ _ _ _ hF) q (hpp _) N hN
  ·obtain⟨hnf,hr⟩:=x2p hA;refine⟨G,[t],sg,⟨vt,[],rfl,rt,rfl⟩,?_⟩;rw[hr];intro G' H' v' g sl;obtain⟨u,h1,h2⟩:=sl;cases h1;exact hq _ _ _ g h2
  ·exact .inr ⟨G,p,d1,d2,st,t,vt,f,v,st',rfl,rt,hm,n3,hm',q⟩
theorem y7j{lams:Nat->Option Lm}{M:W->W->NSt->Option (Int×NSt)}{Q:VK}(h:spNFK K lams M mg tn tw vs H Q E):vs.length=5:=by
 rcases h with h|⟨_,_,_,_,_,_,_,_,_,_,rfl,_⟩
 ·exact z1b h
 ·rfl
theorem z1k{lams:Nat->Option Lm}{M:W->W->NSt->Option (Int×NSt)}(hM:∀f t st,M f t st=none){Q:VK}(h:spNFK K lams M mg tn tw vs H Q E):False:=by
 rcases h with h|⟨_,_,_,_,_,_,_,_,_,_,_,_,_,_,h,_⟩
 ·exact z3r hM h
 ·rw[hM]at h;cases h
noncomputable def lgT(M:W->W->NSt->Option (Int×NSt))(tw:W):List W->FR
 |[t]=>match M tw t ⟨[],[],dd0 t⟩with
  |some (v,st)=>if flatWs st.nodes=true then .ok (.x (.new (.tup [.lst st.nodes,.int v])))else .no
  |none=>.no
 |_=>.no
noncomputable def spLGK(K:PySem.W.Frag)(F F2:List W->FR)(mg:Str->Option Value)(tn:Str):Sp:=fun vs H Q E=>spF K F vs H Q E\/∃vt f,vs=[vt,.ref f]/\mg tn=some (.ref f)/\spF K F2 [vt] H Q E
theorem z1l{lams:Nat->Option Lm}{M:W->W->NSt->Option (Int×NSt)}{Q:VK}(h:spLGK K (lgF lams M) (lgT M tw) mg tn vs H Q E)(N:List Str)(hN:N.length=4):
  tLG (spNFK K lams M mg tn tw) E {nx:=fun _ H'=>Q .non H',rt:=Q} (L2.start N vs) H:=by
 rcases h with⟨G,ws,sg,rp,h⟩|⟨vt,f,rfl,hm,G,ws,sg,rp,h⟩
 ·unfold lgF at h;split at h
  ·rename_i s0 hF;split at hF
   ·rename_i t i l caps;split at hF
    ·rename_i hc;split at hF
     ·rename_i v st hM;split at hF
      ·rename_i hfl;cases hF;obtain⟨vt,_,rfl,rt,va,_,rfl,rf,rfl⟩:=rp;exact y0o (Mf:=M (.fn i l caps)) (FV:=fun G=>Rep K G (.fn i l caps) va) (fun {G H p d1 d2 st t vt v st' Q} rf rt n3 hm q=>.inl ⟨G,p,d1,d2,st,t,vt,va,i,l,caps,v,st',rfl,rt,rf,hc.2,hc.1,n3,hm,q⟩) sg rt rf hM hfl h N hN
      ·cases hF
     ·cases hF
    ·cases hF
   ·cases hF
  ·rename_i c hF;exfalso;split at hF
   ·split at hF
    ·split at hF
     ·split at hF<;>cases hF
     ·cases hF
    ·cases hF
   ·cases hF
  ·exact h.elim
 ·cases ws with
  |nil=>exact absurd rp.length (by simp)
  |cons t ws=>
   obtain⟨v0,_,e,rt,rr⟩:=rp;cases e;cases ws with
   |cons _ _=>exact absurd rr.length (by simp)
   |nil=>
    unfold lgT at h;dsimp only at h;cases hM:M tw t ⟨[],[],dd0 t⟩with
    |none=>rw[hM]at h;exact h.elim
    |some vs=>
     obtain⟨v,st⟩:=vs;rw[hM]at h;dsimp only at h
     by_cases hfl:flatWs st.nodes=true
     ·rw[if_pos hfl]at h;exact y0o (Mf:=M tw) (FV:=fun _=>True) (fun {G H p d1 d2 st t vt v st' Q} _ rt n3 hm' q=>.inr ⟨G,p,d1,d2,st,t,vt,f,v,st',rfl,rt,hm,n3,hm',q⟩) sg rt trivial hM hfl h N hN
     ·rw[if_neg hfl]at h;exact h.elim
theorem y7k{lams:Nat->Option Lm}{M:W->W->NSt->Option (Int×NSt)}{Q:VK}(h:spLGK K (lgF lams M) F2 mg tn vs H Q E):vs.length=2:=by
 rcases h with h|⟨_,_,rfl,_⟩
 ·exact z1d h
 ·rfl
theorem z1m(h1:∀ws,F ws=.no)(h2:∀ws,F2 ws=.no){Q:VK}(h:spLGK K F F2 mg tn vs H Q E):False:=by
 rcases h with⟨G,ws,_,_,h⟩|⟨_,_,_,_,G,ws,_,_,h⟩
 ·rw[h1]at h;exact h
 ·rw[h2]at h;exact h
theorem Cal.impS{k:Nat}{sp sp':Sp}(C:Cal P w K mg base k x ps sp)(h:∀vs H Q E,sp' vs H Q E->sp vs H Q E):Cal P w K mg base k x ps sp':=by
 obtain⟨f,fd,F,m,kp,b⟩:=C.ex;exact⟨f,fd,F.imp h,m,kp,b⟩
end
section
variable{d:Den W}{tp:Pos}{k k2:Nat}{ps2:List Str}{sp2:Sp}
noncomputable def dCallT(F:List W->FR)(d:Den W):Den W:=fun e=>(d e).bind fun w e1=>callNK e1 (F [w])
theorem y7l(C:Cal X.prog X.w X.K X.mg X.base k x ps (spLGK X.K F F2 X.mg tn))(C2:Cal X.prog X.w X.K X.mg X.base k2 tn ps2 sp2)(hr:Room k X.A)(hx:PassX (CX1 X.prog X.w) X EE)(he:DE Z X EE e d)(hg:Gl X x:=by rfl)(hgt:Gl X tn:=by rfl)
  (hdb:(x==("__debug__":Str))=false:=by decide)(hdt:(tn==("__debug__":Str))=false:=by decide)(h1:starEach [e,.Name tn tp] X.env=(false,eval e X.env)::starEach [.Name tn tp] X.env:=by rfl)(h2:starEach [.Name tn tp] X.env=(false,eval (.Name tn tp) X.env)::starEach [] X.env:=by rfl)(hpl:(backTo pos (starEach [.Name tn tp] X.env)).any (·.1)=false:=by rfl):
  DN Z X EE (.Call (.Name x p) [e,.Name tn tp] [] pos) (dCallT F2 d):=by
 obtain⟨f,fd,_,hm,_,_⟩:=C2.ex;refine PE.mono (q6j C hr hx (q0s he (q0s (pe_glob hm hgt hdt) q1z h2) h1) hg hdb h1 hpl) ?_;rintro σ H Q ⟨G,e,rel,h⟩;simp only[dCallT,R.holds_bind]at h;refine⟨G,e,rel,h.imp (fun w e1 h G1 v H1 r1 s1 p1=>?_) fun _ _ h=>h⟩
 refine .inr ⟨v,f,rfl,hm,G1,[w],r1.sub,⟨v,[],rfl,p1,rfl⟩,?_⟩;cases q:F2 [w]with
 |ok s=>
  rw[q]at h;intro G' H' v g sl;cases s with
  |x k=>
   cases k with
   |new w=>
    obtain⟨u,h1,h2⟩:=sl;cases h1;exact h G' _ H' (r1.grow g) (s1.trans g.gg) (RepN.move (.refl _) (fun a _ _ z=>q4c r1 z) w h2)
   |_=>exact h.elim
  |_=>exact h.elim
 |ex c=>
  rw[q]at h;exact x3e r1 s1 h
 |no=>rw[q]at h;exact h.elim
theorem y3o{e:List S}:dCallT F d e=(d e).bind fun w e1=>callNK e1 (F [w]):=rfl
end
end D
namespace Q
open PySem L2 D
variable{b:Bool}{φ:List Bool->Bool}{ns ns1 ns2:List Nd}{ws:List W}{L R1 i j m n p r:Nat}{x:Nd}{K:PySem.W.Frag}{row:Rw}{mg:Str->Option Value}{α:Type}
seal DN DNA DSsW DE DF DT DW DA DS DSs DTs DO DFm PE PT PW PA PS PSs PG PGs PI PF PTs PC OpR UnR IxR CallR TruR MtR MtM SlR PO
theorem us1{P:List α->Prop}(h:∀x0,P [x0]):∀us:List α,us.length=1->P us
 |[x0],_=>h x0
theorem us2{P:List α->Prop}(h:∀x0 x1,P [x0,x1]):∀us:List α,us.length=2->P us
 |[x0,x1],_=>h x0 x1
theorem us3{P:List α->Prop}(h:∀x0 x1 x2,P [x0,x1,x2]):∀us:List α,us.length=3->P us
 |[x0,x1,x2],_=>h x0 x1 x2
theorem us4{P:List α->Prop}(h:∀x0 x1 x2 x3,P [x0,x1,x2,x3]):∀us:List α,us.length=4->P us
 |[x0,x1,x2,x3],_=>h x0 x1 x2 x3
theorem us5{P:List α->Prop}(h:∀x0 x1 x2 x3 x4,P [x0,x1,x2,x3,x4]):∀us:List α,us.length=5->P us
 |[x0,x1,x2,x3,x4],_=>h x0 x1 x2 x3 x4
noncomputable def top(i:Nat):Stmt:=PySem.Challenge.pw_circuits_k29_tables_refused.main.body.getD i (.Pass ⟨0,0,0,0⟩)
structure Blt(mg:Str->Option Value):Prop where
 b_ValueError:mg "ValueError"=none
 b_all:mg "all"=none
 b_any:mg "any"=none
 b_bool:mg "bool"=none
 b_int:mg "int"=none
 b_isinstance:mg "isinstance"=none
 b_len:mg "len"=none
 b_list:mg "list"=none
 b_max:mg "max"=none
 b_min:mg "min"=none
 b_range:mg "range"=none
 b_tuple:mg "tuple"=none
structure Adr where
 CircuitError:Addr
 NoPlace:Addr
 NoName:Addr
 BadText:Addr
 NoRow:Addr
 NoTable:Addr
 UnlikeSizes:Addr
 TooGreat:Addr
 NoMachine:Addr
 BadSheet:Addr
 MOST_PLACES:Value
variable{a:Adr}
structure Exs(K:PySem.W.Frag)(mg:Str->Option Value)(a:Adr):Prop where
 z:True
 m_CircuitError:mg "CircuitError"=some (.ref a.CircuitError)
 m_NoPlace:mg "NoPlace"=some (.ref a.NoPlace)
 m_NoName:mg "NoName"=some (.ref a.NoName)
 m_BadText:mg "BadText"=some (.ref a.BadText)
 m_NoRow:mg "NoRow"=some (.ref a.NoRow)
 m_NoTable:mg "NoTable"=some (.ref a.NoTable)
 m_UnlikeSizes:mg "UnlikeSizes"=some (.ref a.UnlikeSizes)
 m_TooGreat:mg "TooGreat"=some (.ref a.TooGreat)
 m_NoMachine:mg "NoMachine"=some (.ref a.NoMachine)
 m_BadSheet:mg "BadSheet"=some (.ref a.BadSheet)
 m_MOST_PLACES:mg "MOST_PLACES"=some a.MOST_PLACES
 g_MOST_PLACES:conIn K (.int 10) a.MOST_PLACES=true
 e_NoPlace:excIn K a.NoPlace a.CircuitError=true
 e_NoTable:excIn K a.NoTable a.CircuitError=true
 c_NoPlace:excClsIn K a.NoPlace=true
 x_NoPlace_CircuitError:exmOne K (.ref a.NoPlace) (.ref a.CircuitError)=some true
 k_NoPlace_NoPlace:kitOne K (.ref a.NoPlace) (.ref a.NoPlace)=some true
 k_NoPlace_NoName:kitOne K (.ref a.NoPlace) (.ref a.NoName)=some false
 k_NoPlace_BadText:kitOne K (.ref a.NoPlace) (.ref a.BadText)=some false
 k_NoPlace_NoRow:kitOne K (.ref a.NoPlace) (.ref a.NoRow)=some false
 k_NoPlace_NoTable:kitOne K (.ref a.NoPlace) (.ref a.NoTable)=some false
 k_NoPlace_UnlikeSizes:kitOne K (.ref a.NoPlace) (.ref a.UnlikeSizes)=some false
 k_NoPlace_TooGreat:kitOne K (.ref a.NoPlace) (.ref a.TooGreat)=some false
 k_NoPlace_NoMachine:kitOne K (.ref a.NoPlace) (.ref a.NoMachine)=some false
 k_NoPlace_BadSheet:kitOne K (.ref a.NoPlace) (.ref a.BadSheet)=some false
 k_NoPlace_ValueError:kitOne K (.ref a.NoPlace) (.type "ValueError")=some true
 c_NoTable:excClsIn K a.NoTable=true
 x_NoTable_CircuitError:exmOne K (.ref a.NoTable) (.ref a.CircuitError)=some true
 k_NoTable_NoPlace:kitOne K (.ref a.NoTable) (.ref a.NoPlace)=some false
 k_NoTable_NoName:kitOne K (.ref a.NoTable) (.ref a.NoName)=some false
 k_NoTable_BadText:kitOne K (.ref a.NoTable) (.ref a.BadText)=some false
 k_NoTable_NoRow:kitOne K (.ref a.NoTable) (.ref a.NoRow)=some false
 k_NoTable_NoTable:kitOne K (.ref a.NoTable) (.ref a.NoTable)=some true
 k_NoTable_UnlikeSizes:kitOne K (.ref a.NoTable) (.ref a.UnlikeSizes)=some false
 k_NoTable_TooGreat:kitOne K (.ref a.NoTable) (.ref a.TooGreat)=some false
 k_NoTable_NoMachine:kitOne K (.ref a.NoTable) (.ref a.NoMachine)=some false
 k_NoTable_BadSheet:kitOne K (.ref a.NoTable) (.ref a.BadSheet)=some false
 k_NoTable_ValueError:kitOne K (.ref a.NoTable) (.type "ValueError")=some true
 t_NoneType_int:kitOne K (.type "NoneType") (.type "int")=some false
 t_bool_int:kitOne K (.type "bool") (.type "int")=some true
 t_int_int:kitOne K (.type "int") (.type "int")=some true
 t_str_int:kitOne K (.type "str") (.type "int")=some false
 t_tuple_int:kitOne K (.type "tuple") (.type "int")=some false
 t_list_int:kitOne K (.type "list") (.type "int")=some false
 t_NoneType_bool:kitOne K (.type "NoneType") (.type "bool")=some false
 t_bool_bool:kitOne K (.type "bool") (.type "bool")=some true
 t_int_bool:kitOne K (.type "int") (.type "bool")=some false
 t_str_bool:kitOne K (.type "str") (.type "bool")=some false
 t_tuple_bool:kitOne K (.type "tuple") (.type "bool")=some false
 t_list_bool:kitOne K (.type "list") (.type "bool")=some false
 t_NoneType_tuple:kitOne K (.type "NoneType") (.type "tuple")=some false
 t_bool_tuple:kitOne K (.type "bool") (.type "tuple")=some false
 t_int_tuple:kitOne K (.type "int") (.type "tuple")=some false
 t_str_tuple:kitOne K (.type "str") (.type "tuple")=some false
 t_tuple_tuple:kitOne K (.type "tuple") (.type "tuple")=some true
 t_list_tuple:kitOne K (.type "list") (.type "tuple")=some false
 t_NoneType_list:kitOne K (.type "NoneType") (.type "list")=some false
 t_bool_list:kitOne K (.type "bool") (.type "list")=some false
 t_int_list:kitOne K (.type "int") (.type "list")=some false
 t_str_list:kitOne K (.type "str") (.type "list")=some false
 t_tuple_list:kitOne K (.type "tuple") (.type "list")=some false
 t_list_list:kitOne K (.type "list") (.type "list")=some true
 nt:NoTup K
noncomputable abbrev q4f:Nat:=0
noncomputable abbrev q7f:Nat:=1
noncomputable abbrev q2y:Nat:=2
noncomputable abbrev q3p:Nat:=3
noncomputable abbrev q2j:Nat:=4
noncomputable abbrev q04:Nat:=5
noncomputable abbrev q27:Nat:=7
noncomputable abbrev q3a:Nat:=8
noncomputable abbrev q2k:Nat:=9
noncomputable abbrev q5g:Nat:=10
noncomputable abbrev q2p:Nat:=11
noncomputable abbrev q4m:Nat:=12
noncomputable abbrev q1m:Nat:=13
noncomputable abbrev q2z:Nat:=14
noncomputable abbrev q4x:Nat:=15
noncomputable abbrev q1t:Nat:=16
noncomputable abbrev q20:Nat:=17
noncomputable abbrev q4g:Nat:=18
noncomputable abbrev q21:Nat:=19
noncomputable abbrev q0u:Nat:=20
noncomputable abbrev q0r:Nat:=21
noncomputable abbrev q1n:Nat:=22
noncomputable abbrev q22:Nat:=23
noncomputable abbrev q1u:Nat:=24
noncomputable abbrev q14:Nat:=25
noncomputable abbrev q15:Nat:=26
noncomputable abbrev q3n:Nat:=27
noncomputable abbrev q23:Nat:=28
noncomputable abbrev q24:Nat:=29
noncomputable abbrev q1b:Nat:=30
noncomputable abbrev q4h:Nat:=31
noncomputable abbrev q12:Nat:=32
noncomputable abbrev q82:Nat:=33
noncomputable abbrev q2q:Stmt:=top 1
theorem x4p:FnScope ["form"] ["form"] (defScope q2q):=⟨rfl,rfl,rfl,by decide +kernel,rfl,by decide +kernel,by decide +kernel⟩
noncomputable abbrev q5h:Stmt:=top 2
theorem y3p:FnScope ["word", "form", "other"] ["word", "form", "other"] (defScope q5h):=⟨rfl,rfl,rfl,by decide +kernel,rfl,by decide +kernel,by decide +kernel⟩
noncomputable abbrev q16:Stmt:=top 3
theorem x22:FnScope ["word", "truth", "form"] ["word", "truth", "form"] (defScope q16):=⟨rfl,rfl,rfl,by decide +kernel,rfl,by decide +kernel,by decide +kernel⟩
noncomputable abbrev q2r:Stmt:=top 16
theorem sc_rows_many:FnScope ["many", "count", "place"] ["many"] (defScope q2r):=⟨rfl,rfl,rfl,by decide +kernel,rfl,by decide +kernel,by decide +kernel⟩
noncomputable abbrev q1v:Stmt:=top 18
theorem sc_least_graph:FnScope ["begin", "ask", "nodes", "first"] ["begin", "ask"] (defScope q1v):=⟨rfl,rfl,rfl,by decide +kernel,rfl,by decide +kernel,by decide +kernel⟩
noncomputable abbrev q17:Stmt:=top 19
theorem sc_number_for:FnScope ["thing", "ask", "nodes", "numbers", "seen", "told", "low", "high"] ["thing", "ask", "nodes", "numbers", "seen"] (defScope q17):=⟨rfl,rfl,rfl,by decide +kernel,rfl,by decide +kernel,by decide +kernel⟩
noncomputable abbrev q1w:Stmt:=top 20
theorem x1n:FnScope ["node", "nodes", "numbers"] ["node", "nodes", "numbers"] (defScope q1w):=⟨rfl,rfl,rfl,by decide +kernel,rfl,by decide +kernel,by decide +kernel⟩
noncomputable abbrev q3r:Stmt:=top 21
theorem x73:FnScope ["graph", "number"] ["graph", "number"] (defScope q3r):=⟨rfl,rfl,rfl,by decide +kernel,rfl,by decide +kernel,by decide +kernel⟩
noncomputable abbrev q4n:Stmt:=top 22
theorem y0p:FnScope ["number"] ["number"] (defScope q4n):=⟨rfl,rfl,rfl,by decide +kernel,rfl,by decide +kernel,by decide +kernel⟩
noncomputable abbrev q1l:Stmt:=top 23
theorem x1o:FnScope ["graph", "many"] ["graph", "many"] (defScope q1l):=⟨rfl,rfl,rfl,by decide +kernel,rfl,by decide +kernel,by decide +kernel⟩
noncomputable abbrev q3s:Stmt:=top 24
theorem sc_turned:FnScope ["graph", "nodes"] ["graph"] (defScope q3s):=⟨rfl,rfl,rfl,by decide +kernel,rfl,by decide +kernel,by decide +kernel⟩
noncomputable abbrev q2s:Stmt:=top 25
theorem x4q:FnScope ["number"] ["number"] (defScope q2s):=⟨rfl,rfl,rfl,by decide +kernel,rfl,by decide +kernel,by decide +kernel⟩
noncomputable abbrev q3b:Stmt:=top 26
theorem y0q:FnScope ["word", "graph", "other"] ["word", "graph", "other"] (defScope q3b):=⟨rfl,rfl,rfl,by decide +kernel,rfl,by decide +kernel,by decide +kernel⟩
noncomputable abbrev q07:Stmt:=top 27
theorem sc_told_of_pair:FnScope ["word", "graph", "other", "pair", "known", "sides", "place", "low", "high"] ["word", "graph", "other", "pair"] (defScope q07):=⟨rfl,rfl,rfl,by decide +kernel,rfl,by decide +kernel,by decide +kernel⟩
noncomputable abbrev q18:Stmt:=top 28
theorem x23:FnScope ["number"] ["number"] (defScope q18):=⟨rfl,rfl,rfl,by decide +kernel,rfl,by decide +kernel,by decide +kernel⟩
noncomputable abbrev q3t:Stmt:=top 29
theorem x74:FnScope ["graph", "number", "place", "truth"] ["graph", "number", "place", "truth"] (defScope q3t):=⟨rfl,rfl,rfl,by decide +kernel,rfl,by decide +kernel,by decide +kernel⟩
noncomputable abbrev q3c:Stmt:=top 30
theorem sc_how_many:FnScope ["graph", "many", "counts", "node"] ["graph", "many"] (defScope q3c):=⟨rfl,rfl,rfl,by decide +kernel,rfl,by decide +kernel,by decide +kernel⟩
noncomputable abbrev q19:Stmt:=top 31
theorem sc_first_true:FnScope ["graph", "many", "number", "truths", "node"] ["graph", "many"] (defScope q19):=⟨rfl,rfl,rfl,by decide +kernel,rfl,by decide +kernel,by decide +kernel⟩
noncomputable abbrev q2t:Stmt:=top 34
theorem sc_places_of:FnScope ["table", "many"] ["table"] (defScope q2t):=⟨rfl,rfl,rfl,by decide +kernel,rfl,by decide +kernel,by decide +kernel⟩
noncomputable abbrev q1j:Stmt:=top 35
theorem x0s:FnScope ["truths"] ["truths"] (defScope q1j):=⟨rfl,rfl,rfl,by decide +kernel,rfl,by decide +kernel,by decide +kernel⟩
noncomputable abbrev q1g:Stmt:=top 37
theorem q9b:FnScope ["table"] ["table"] (defScope q1g):=⟨rfl,rfl,rfl,by decide +kernel,rfl,by decide +kernel,by decide +kernel⟩
noncomputable abbrev q1h:Stmt:=top 38
theorem sc_told_of_truths:FnScope ["thing", "place", "truths", "middle"] ["thing"] (defScope q1h):=⟨rfl,rfl,rfl,by decide +kernel,rfl,by decide +kernel,by decide +kernel⟩
noncomputable abbrev q1o:Stmt:=top 40
theorem x0t:FnScope ["_law_script", "_law_k"] ["_law_script", "_law_k"] (defScope q1o):=⟨rfl,rfl,rfl,by decide +kernel,rfl,by decide +kernel,by decide +kernel⟩
noncomputable abbrev q2a:Stmt:=top 41
theorem x24:FnScope ["_law_found"] ["_law_found"] (defScope q2a):=⟨rfl,rfl,rfl,by decide +kernel,rfl,by decide +kernel,by decide +kernel⟩
noncomputable abbrev q2b:Stmt:=top 42
theorem sc__law_mixed:FnScope ["_law_cell", "_law_k", "_law_many", "_law_some", "_law_made"] ["_law_cell", "_law_k", "_law_many"] (defScope q2b):=⟨rfl,rfl,rfl,by decide +kernel,rfl,by decide +kernel,by decide +kernel⟩
noncomputable abbrev q2c:Stmt:=top 43
theorem sc__law_class:FnScope ["_law_e", "_law_words"] ["_law_e"] (defScope q2c):=⟨rfl,rfl,rfl,by decide +kernel,rfl,by decide +kernel,by decide +kernel⟩
noncomputable abbrev q2d:Stmt:=top 44
theorem sc__law_count:FnScope ["_law_many", "_law_count_here", "_law_k"] ["_law_many"] (defScope q2d):=⟨rfl,rfl,rfl,by decide +kernel,rfl,by decide +kernel,by decide +kernel⟩
noncomputable abbrev q1x:Stmt:=top 45
theorem sc__law_row_of:FnScope ["_law_number", "_law_many", "_law_found", "_law_k"] ["_law_number", "_law_many"] (defScope q1x):=⟨rfl,rfl,rfl,by decide +kernel,rfl,by decide +kernel,by decide +kernel⟩
noncomputable abbrev q1k:Stmt:=top 46
theorem x0u:FnScope ["_law_node", "_law_many"] ["_law_node", "_law_many"] (defScope q1k):=⟨rfl,rfl,rfl,by decide +kernel,rfl,by decide +kernel,by decide +kernel⟩
noncomputable abbrev q1p:Stmt:=top 47
theorem sc__law_reached:FnScope ["_law_nodes", "_law_begin", "_law_order", "_law_waiting", "_law_seen", "_law_one"] ["_law_nodes", "_law_begin"] (defScope q1p):=⟨rfl,rfl,rfl,by decide +kernel,rfl,by decide +kernel,by decide +kernel⟩
noncomputable abbrev q08:Stmt:=top 48
theorem sc__law_is_least:FnScope ["_law_found", "_law_nodes", "_law_k", "_law_at"] ["_law_found"] (defScope q08):=⟨rfl,rfl,rfl,by decide +kernel,rfl,by decide +kernel,by decide +kernel⟩
noncomputable abbrev q2u:Stmt:=top 49
theorem sc__law_walk:FnScope ["_law_found", "_law_row_here", "_law_at", "_law_node"] ["_law_found", "_law_row_here"] (defScope q2u):=⟨rfl,rfl,rfl,by decide +kernel,rfl,by decide +kernel,by decide +kernel⟩
noncomputable abbrev q1q:Stmt:=top 52
theorem sc__law_refused:FnScope ["_law_rows_here", "_law_e"] ["_law_rows_here"] (defScope q1q):=⟨rfl,rfl,rfl,by decide +kernel,rfl,by decide +kernel,by decide +kernel⟩
noncomputable abbrev q3d:Stmt:=top 53
theorem sc_law:FnScope ["_law_script", "_law_cell", "_law_rows_here", "_law_size", "_law_many", "_law_handed", "_law_found", "_law_numbers", "_law_number", "_law_other", "_law_apart"] ["_law_script"] (defScope q3d):=⟨rfl,rfl,rfl,by decide +kernel,rfl,by decide +kernel,by decide +kernel⟩
noncomputable abbrev q7t:Expr:=(argAt 1 (stVal (stAt 0 q3b)))
noncomputable abbrev q1e:Lm:=⟨("joined"++".<locals>.")++"<lambda>", lamParams q7t,lamBody q7t,lamScope q7t,["word", "graph", "other"]⟩
noncomputable abbrev q00:Nat:=34
noncomputable def lams:Nat->Option Lm
 |34=>some q1e
 |_=>none
noncomputable abbrev x0v:Nat:=35
noncomputable def q3y(K:PySem.W.Frag)(a:Adr)(r:Nat->List W->FR):Den W:=
 (dCall (r q1m) (dCons (dVar 1) (dCons (dVar 2) (dCons (dVar 3) (dCons (dVar 0) dNil)))))
noncomputable def q5r(K:PySem.W.Frag)(a:Adr)(r:Nat->List W->FR):List S->SR:=
 (dSeq (dIfS (dTest (dOp eq2 (dOp ixW (dVar 0) (dC (.int 0))) (dC (.str "is"))))
  (dRet (dTup (dCons (dC (.str "is")) (dCons (dNotV (dOp ixW (dVar 0) (dC (.int 1)))) dNil))))
  dNx)
  (dRet (dTup (dCons (dC (.str "not")) (dCons (dVar 0) dNil)))))
noncomputable def q83(K:PySem.W.Frag)(a:Adr)(r:Nat->List W->FR):List S->SR:=
 (dSeq (dIfS (dTest (dOp eq2 (dOp ixW (dVar 1) (dC (.int 0))) (dC (.str "is"))))
  (dRet (dCall (r q2y) (dCons (dVar 0) (dCons (dOp ixW (dVar 1) (dC (.int 1))) (dCons (dVar 2) dNil)))))
  dNx)
  (dSeq (dIfS (dTest (dOp eq2 (dOp ixW (dVar 2) (dC (.int 0))) (dC (.str "is"))))
  (dRet (dCall (r q2y) (dCons (dVar 0) (dCons (dOp ixW (dVar 2) (dC (.int 1))) (dCons (dVar 1) dNil)))))
  dNx)
  (dRet (dTup (dCons (dVar 0) (dCons (dVar 1) (dCons (dVar 2) dNil)))))))
noncomputable def q41(K:PySem.W.Frag)(a:Adr)(r:Nat->List W->FR):List S->SR:=
 (dSeq (dIfS (dTest (dOp eq2 (dVar 0) (dC (.str "and"))))
  (dRet (dIf (dTru (dVar 1)) (dVar 2) (dTup (dCons (dC (.str "is")) (dCons (dC (.bl false)) dNil)))))
  dNx)
  (dSeq (dIfS (dTest (dOp eq2 (dVar 0) (dC (.str "or"))))
  (dRet (dIf (dTru (dVar 1)) (dTup (dCons (dC (.str "is")) (dCons (dC (.bl true)) dNil))) (dVar 2)))
  dNx)
  (dRet (dIf (dTru (dVar 1)) (dCall (r q4f) (dCons (dVar 2) dNil)) (dVar 2)))))
noncomputable def q5z(K:PySem.W.Frag)(a:Adr)(r:Nat->List W->FR):List S->SR:=
 (dSet 1 (dOp mulW (dC (.int 2)) (dVar 1)))
noncomputable def q5s(K:PySem.W.Frag)(a:Adr)(r:Nat->List W->FR):List S->SR:=
 (dSeq (dSet 1 (dC (.int 1)))
  (dSeq (dForR 2 rng1 (dCons (dVar 0) dNil)
  (q5z K a r))
  (dRet (dVar 1))))
noncomputable def q6z(K:PySem.W.Frag)(a:Adr)(r:Nat->List W->FR):List S->SR:=
 (dRet (dOp ixW (dOp ixW (dVar 0) (dC (.int 0))) (dOp subW (dVar 1) (dC (.int 2)))))
noncomputable def q7u(K:PySem.W.Frag)(a:Adr)(r:Nat->List W->FR):List S->SR:=
 (dRet (dOp ltW (dVar 0) (dC (.int 2))))
noncomputable def q60(K:PySem.W.Frag)(a:Adr)(r:Nat->List W->FR):Den W:=
 (dOp geW (dOp ixW (dVar 0) (dC (.int 0))) (dVar 1))
noncomputable def q4i(K:PySem.W.Frag)(a:Adr)(r:Nat->List W->FR):List S->SR:=
 (dIfS (dTru (dFn any1 (dCons (dFz (dComp [1] (dOp ixW (dVar 0) (dC (.int 0))) dYes (q60 K a r))) dNil)))
  (dRaise a.NoPlace (dCons (dC (.str "the graph has a place that isn't there")) dNil))
  dNx)
noncomputable def q7v(K:PySem.W.Frag)(a:Adr)(r:Nat->List W->FR):Den W:=
 (dTup (dCons (dOp ixW (dVar 0) (dC (.int 0))) (dCons (dCall (r q2p) (dCons (dOp ixW (dVar 0) (dC (.int 1))) dNil)) (dCons (dCall (r q2p) (dCons (dOp ixW (dVar 0) (dC (.int 2))) dNil)) dNil))))
noncomputable def q7w(K:PySem.W.Frag)(a:Adr)(r:Nat->List W->FR):List S->SR:=
 (dSeq (dSetO 1 (dComp [] (dOp ixW (dVar 0) (dC (.int 0))) dYes (q7v K a r)))
  (dRetNw (dTup (dCons (dNOwn 1) (dCons (dFlat (dCall (r q2p) (dCons (dOp ixW (dVar 0) (dC (.int 1))) dNil))) dNil)))))
noncomputable def q5t(K:PySem.W.Frag)(a:Adr)(r:Nat->List W->FR):List S->SR:=
 (dRet (dIf (dTru (dCall (r q3a) (dCons (dVar 0) dNil))) (dOp subW (dC (.int 1)) (dVar 0)) (dVar 0)))
noncomputable def q7x(K:PySem.W.Frag)(a:Adr)(r:Nat->List W->FR):List S->SR:=
 (dRetNw (dLamN (r q2j) 34 q1e [0,1,2] (dTup (dCons (dOp ixW (dVar 1) (dC (.int 1))) (dCons (dOp ixW (dVar 2) (dC (.int 1))) dNil)))))
noncomputable def q3e(K:PySem.W.Frag)(a:Adr)(r:Nat->List W->FR):Den W:=
 (dCall (r q4x) (dCons (dVar 0) (dCons (dVar 1) (dCons (dVar 2) (dCons (dC (.bl true)) dNil)))))
noncomputable def q3f(K:PySem.W.Frag)(a:Adr)(r:Nat->List W->FR):Den W:=
 (dCall (r q4x) (dCons (dVar 0) (dCons (dVar 1) (dCons (dVar 2) (dCons (dC (.bl false)) dNil)))))
noncomputable def q3g(K:PySem.W.Frag)(a:Adr)(r:Nat->List W->FR):Den W:=
 (dOp ixW (dCall (r q27) (dCons (dVar 0) (dCons (dVar 1) dNil))) (dC (.int 0)))
noncomputable def q3h(K:PySem.W.Frag)(a:Adr)(r:Nat->List W->FR):Den Bool:=
 (dNot (dTru (dCall (r q3a) (dCons (dVar 1) dNil))))
noncomputable def q25(K:PySem.W.Frag)(a:Adr)(r:Nat->List W->FR):List S->SR:=
 (dSeq (dSet 4 (dCall (r q7f) (dCons (dVar 0) (dCons (dCall (r q2z) (dCons (dOp ixW (dVar 3) (dC (.int 0))) dNil)) (dCons (dCall (r q2z) (dCons (dOp ixW (dVar 3) (dC (.int 1))) dNil)) dNil)))))
  (dSeq (dIfS (dTest (dOp eq2 (dOp ixW (dVar 4) (dC (.int 0))) (dC (.str "is"))))
  (dRet (dOp ixW (dVar 4) (dC (.int 1))))
  dNx)
  (dSeq (dSet 5 (dTup (dCons (dTup (dCons (dVar 1) (dCons (dOp ixW (dVar 3) (dC (.int 0))) dNil))) (dCons (dTup (dCons (dVar 2) (dCons (dOp ixW (dVar 3) (dC (.int 1))) dNil))) dNil))))
  (dSeq (dSet 6 (dFn min1 (dCons (dFz (dCompP [] (srcP (dVar 5)) (q3h K a r) (q3g K a r))) dNil)))
  (dSeq (dSet 7 (dFn tup1 (dCons (dFz (dCompP [6] (srcP (dVar 5)) dYes (q3f K a r))) dNil)))
  (dSeq (dSet 8 (dFn tup1 (dCons (dFz (dCompP [6] (srcP (dVar 5)) dYes (q3e K a r))) dNil)))
  (dRet (dTup (dCons (dVar 6) (dCons (dVar 7) (dCons (dVar 8) dNil)))))))))))
noncomputable def q42(K:PySem.W.Frag)(a:Adr)(r:Nat->List W->FR):List S->SR:=
 (dRet (dIf (dTru (dCall (r q3a) (dCons (dVar 0) dNil))) (dTup (dCons (dC (.str "is")) (dCons (dOp eq2 (dVar 0) (dC (.int 1))) dNil))) (dTup (dCons (dC (.str "at")) (dCons (dVar 0) dNil)))))
noncomputable def q61(K:PySem.W.Frag)(a:Adr)(r:Nat->List W->FR):List S->SR:=
 (dSeq (dIfS (dOr (dTru (dCall (r q3a) (dCons (dVar 1) dNil))) (dTest (dOp ne2 (dOp ixW (dCall (r q27) (dCons (dVar 0) (dCons (dVar 1) dNil))) (dC (.int 0))) (dVar 2))))
  (dRet (dVar 1))
  dNx)
  (dRet (dOp ixW (dCall (r q27) (dCons (dVar 0) (dCons (dVar 1) dNil))) (dIf (dTru (dVar 3)) (dC (.int 2)) (dC (.int 1))))))
noncomputable def q43(K:PySem.W.Frag)(a:Adr)(r:Nat->List W->FR):List S->SR:=
 (dApp 2 (dCons (dOp fdivW (dOp addX (dIxV 2 (dOp ixW (dVar 3) (dC (.int 1)))) (dIxV 2 (dOp ixW (dVar 3) (dC (.int 2))))) (dC (.int 2))) dNil))
noncomputable def q59(K:PySem.W.Frag)(a:Adr)(r:Nat->List W->FR):List S->SR:=
 (dSeq (dDrop (dCall (r q2k) (dCons (dVar 0) (dCons (dVar 1) dNil))))
  (dSeq (dSetO 2 (dLst (dCons (dC (.int 0)) (dCons (dCall (r q3p) (dCons (dVar 1) dNil)) dNil))))
  (dSeq (dFor 3 (dOp ixW (dVar 0) (dC (.int 0)))
  (q43 K a r))
  (dRet (dIxV 2 (dOp ixW (dVar 0) (dC (.int 1))))))))
noncomputable def q3z(K:PySem.W.Frag)(a:Adr)(r:Nat->List W->FR):Den Bool:=
 (dNot (dTru (dCall (r q3a) (dCons (dVar 2) dNil))))
noncomputable def q30(K:PySem.W.Frag)(a:Adr)(r:Nat->List W->FR):List S->SR:=
 (dSeq (dSet 4 (dCall (r q27) (dCons (dVar 0) (dCons (dVar 2) dNil))))
  (dSeq (dPut 3 (dOp eq2 (dOp ixW (dVar 4) (dC (.int 1))) (dC (.int 0))) (dOp ixW (dVar 4) (dC (.int 0))))
  (dSet 2 (dIf (dTest (dOp eq2 (dOp ixW (dVar 4) (dC (.int 1))) (dC (.int 0)))) (dOp ixW (dVar 4) (dC (.int 2))) (dOp ixW (dVar 4) (dC (.int 1)))))))
noncomputable def q44(K:PySem.W.Frag)(a:Adr)(r:Nat->List W->FR):List S->SR:=
 (dSeq (dDrop (dCall (r q2k) (dCons (dVar 0) (dCons (dVar 1) dNil))))
  (dSeq (dSet 2 (dOp ixW (dVar 0) (dC (.int 1))))
  (dSeq (dIfS (dTest (dOp eq2 (dVar 2) (dC (.int 0))))
  (dRet (dC .non))
  dNx)
  (dSeq (dSetO 3 (dRepF (dFz (dLst (dCons (dC (.bl false)) dNil))) (dVar 1)))
  (dSeq (whileD (q3z K a r)
  (q30 K a r) 1000000)
  (dRet (dFn tup1 (dCons (dVar 3) dNil))))))))
noncomputable def q50(K:PySem.W.Frag)(a:Adr)(r:Nat->List W->FR):List S->SR:=
 (dIfS (dTest (dOp eq2 (dFn len1 (dCons (dVar 0) dNil)) (dCall (r q3p) (dCons (dVar 1) dNil))))
  (dRet (dVar 1))
  dNx)
noncomputable def q5u(K:PySem.W.Frag)(a:Adr)(r:Nat->List W->FR):List S->SR:=
 (dSeq (dForR 1 rng1 (dCons (dOp addX (dC (.int 10)) (dC (.int 1))) dNil)
  (q50 K a r))
  (dRaise a.NoTable (dCons (dC (.str "no table has that length")) dNil)))
noncomputable def q6s(K:PySem.W.Frag)(a:Adr)(r:Nat->List W->FR):Den W:=
 (dOp eq2 (dVar 0) (dOp ixW (dVar 1) (dC (.int 0))))
noncomputable def q31(K:PySem.W.Frag)(a:Adr)(r:Nat->List W->FR):List S->SR:=
 (dRet (dFn all1 (dCons (dFz (dComp [0] (dVar 0) dYes (q6s K a r))) dNil)))
noncomputable def q2e(K:PySem.W.Frag)(a:Adr)(r:Nat->List W->FR):List S->SR:=
 (dSeq (dDrop (dCall (r q4g) (dCons (dVar 0) dNil)))
  (dRetNw (dCallT (r x0v) (dTup (dCons (dC (.int 0)) (dCons (dFn tup1 (dCons (dVar 0) dNil)) dNil))))))
noncomputable def q3i(K:PySem.W.Frag)(a:Adr)(r:Nat->List W->FR):List S->SR:=
 (dSeq (dSet 1 (dOp ixW (dVar 0) (dC (.int 0))))
  (dSeq (dSet 2 (dOp ixW (dVar 0) (dC (.int 1))))
  (dSeq (dIfS (dTru (dCall (r q21) (dCons (dVar 2) dNil)))
  (dRet (dOp ixW (dVar 2) (dC (.int 0))))
  dNx)
  (dSeq (dSet 3 (dOp fdivW (dFn len1 (dCons (dVar 2) dNil)) (dC (.int 2))))
  (dRet (dTup (dCons (dVar 1) (dCons (dTup (dCons (dOp addX (dVar 1) (dC (.int 1))) (dCons (dSl (dVar 2) dNoPart (dPart (dVar 3))) dNil))) (dCons (dTup (dCons (dOp addX (dVar 1) (dC (.int 1))) (dCons (dSl (dVar 2) (dPart (dVar 3)) dNoPart) dNil))) dNil)))))))))
noncomputable def q32(K:PySem.W.Frag)(a:Adr)(r:Nat->List W->FR):List S->SR:=
 (dSeq (dIfS (dTest (dOp ltW (dVar 1) (dFn len1 (dCons (dVar 0) dNil))))
  (dRet (dOp ixW (dVar 0) (dVar 1)))
  dNx)
  (dRet (dC (.int 0))))
noncomputable def q45(K:PySem.W.Frag)(a:Adr)(r:Nat->List W->FR):List S->SR:=
 (dRet (dAndV (dIsi K (.type "int") (dVar 0)) (dNotV (dIsi K (.type "bool") (dVar 0)))))
noncomputable def q46(K:PySem.W.Frag)(a:Adr)(r:Nat->List W->FR):List S->SR:=
 (dSeq (dSet 3 (dFz (dLst (dCons (dC (.int 99991)) (dCons (dC (.int 99989)) (dCons (dC (.int 99971)) (dCons (dC (.int 99961)) (dCons (dC (.int 99929)) (dCons (dC (.int 99923)) (dCons (dC (.int 99907)) (dCons (dC (.int 99901)) (dCons (dC (.int 99881)) (dCons (dC (.int 99877)) (dCons (dC (.int 99871)) dNil))))))))))))))
  (dSeq (dSet 4 (dOp modW (dOp mulW (dOp addX (dVar 0) (dOp mulW (dC (.int 7)) (dVar 1))) (dC (.int 48271))) (dOp ixW (dVar 3) (dOp modW (dVar 1) (dC (.int 11))))))
  (dRet (dOp modW (dOp modW (dOp addX (dOp addX (dOp mulW (dOp mulW (dVar 4) (dVar 4)) (dC (.int 7))) (dVar 4)) (dVar 1)) (dC (.int 1000003))) (dVar 2)))))
noncomputable def q3u(K:PySem.W.Frag)(a:Adr)(r:Nat->List W->FR):List S->SR:=
 (dSeq (dSetO 1 (dLst dNil))
  (dSeq (dIfS (dTru (dIsi K (.ref a.NoPlace) (dVar 0)))
  (dApp 1 (dCons (dC (.str "place")) dNil))
  dNx)
  (dSeq (dIfS (dTru (dIsi K (.ref a.NoName) (dVar 0)))
  (dApp 1 (dCons (dC (.str "name")) dNil))
  dNx)
  (dSeq (dIfS (dTru (dIsi K (.ref a.BadText) (dVar 0)))
  (dApp 1 (dCons (dC (.str "text")) dNil))
  dNx)
  (dSeq (dIfS (dTru (dIsi K (.ref a.NoRow) (dVar 0)))
  (dApp 1 (dCons (dC (.str "row")) dNil))
  dNx)
  (dSeq (dIfS (dTru (dIsi K (.ref a.NoTable) (dVar 0)))
  (dApp 1 (dCons (dC (.str "table")) dNil))
  dNx)
  (dSeq (dIfS (dTru (dIsi K (.ref a.UnlikeSizes) (dVar 0)))
  (dApp 1 (dCons (dC (.str "sizes")) dNil))
  dNx)
  (dSeq (dIfS (dOr (dTru (dIsi K (.ref a.TooGreat) (dVar 0))) (dOr (dTru (dIsi K (.ref a.NoMachine) (dVar 0))) (dTru (dIsi K (.ref a.BadSheet) (dVar 0)))))
  (dApp 1 (dCons (dC (.str "other")) dNil))
  dNx)
  (dSeq (dIfS (dAnd (dTest (dOp eq2 (dFnV 1 len1) (dC (.int 1)))) (dTru (dIsi K (.type "ValueError") (dVar 0))))
  (dRet (dIxV 1 (dC (.int 0))))
  dNx)
  (dRet (dC (.str "other"))))))))))))
noncomputable def q5i(K:PySem.W.Frag)(a:Adr)(r:Nat->List W->FR):List S->SR:=
 (dSet 1 (dOp mulW (dC (.int 2)) (dVar 1)))
noncomputable def q47(K:PySem.W.Frag)(a:Adr)(r:Nat->List W->FR):List S->SR:=
 (dSeq (dSet 1 (dC (.int 1)))
  (dSeq (dForR 2 rng1 (dCons (dVar 0) dNil)
  (q5i K a r))
  (dRet (dVar 1))))
noncomputable def q48(K:PySem.W.Frag)(a:Adr)(r:Nat->List W->FR):List S->SR:=
 (dApp 2 (dCons (dOp eq2 (dOp modW (dOp fdivW (dVar 0) (dCall (r q15) (dCons (dOp subW (dOp subW (dVar 1) (dC (.int 1))) (dVar 3)) dNil))) (dC (.int 2))) (dC (.int 1))) dNil))
noncomputable def q4j(K:PySem.W.Frag)(a:Adr)(r:Nat->List W->FR):List S->SR:=
 (dSeq (dSetO 2 (dLst dNil))
  (dSeq (dForR 3 rng1 (dCons (dVar 1) dNil)
  (q48 K a r))
  (dRet (dFn tup1 (dCons (dVar 2) dNil)))))
noncomputable def q3j(K:PySem.W.Frag)(a:Adr)(r:Nat->List W->FR):Den W:=
 (dCall (r q22) (dCons (dVar 0) dNil))
noncomputable def q33(K:PySem.W.Frag)(a:Adr)(r:Nat->List W->FR):List S->SR:=
 (dSeq (dIfS (dOr (dNot (dTru (dIsi K (.type "tuple") (dVar 0)))) (dOr (dTest (dOp ne2 (dFn len1 (dCons (dVar 0) dNil)) (dC (.int 3)))) (dNot (dTru (dFn all1 (dCons (dFz (dComp [] (dVar 0) dYes (q3j K a r))) dNil))))))
  (dRet (dC (.bl false)))
  dNx)
  (dRet (dAndV (dOp geW (dOp ixW (dVar 0) (dC (.int 0))) (dC (.int 0))) (dAndV (dOp ne2 (dOp ixW (dVar 0) (dC (.int 1))) (dOp ixW (dVar 0) (dC (.int 2)))) (dAndV (dOp leW (dC (.int 0)) (dFn minT (dCons (dSl (dVar 0) (dPart (dC (.int 1))) dNoPart) dNil))) (dOp ltW (dFn maxT (dCons (dSl (dVar 0) (dPart (dC (.int 1))) dNoPart) dNil)) (dOp addX (dVar 1) (dC (.int 2)))))))))
noncomputable def q09(K:PySem.W.Frag)(a:Adr)(r:Nat->List W->FR):Den Bool:=
 (dTest (dOp gtW (dFnV 3 len1) (dC (.int 0))))
noncomputable def q03(K:PySem.W.Frag)(a:Adr)(r:Nat->List W->FR):List S->SR:=
 (dSeq (dSet 5 (dPop 3))
  (dIfS (dTru (dOp ixW (dVar 5) (dC (.int 1))))
  (dApp 2 (dCons (dOp ixW (dVar 5) (dC (.int 0))) dNil))
  (dIfS (dBorrowT (dTest (dOp ninW (dOp ixW (dVar 5) (dC (.int 0))) (dVar 4))))
  (dSeq (dApp 4 (dCons (dOp ixW (dVar 5) (dC (.int 0))) dNil))
  (dSeq (dApp 3 (dCons (dTup (dCons (dOp ixW (dVar 5) (dC (.int 0))) (dCons (dC (.bl true)) dNil))) dNil))
  (dSeq (dApp 3 (dCons (dTup (dCons (dOp ixW (dOp ixW (dVar 0) (dOp subW (dOp ixW (dVar 5) (dC (.int 0))) (dC (.int 2)))) (dC (.int 2))) (dCons (dC (.bl false)) dNil))) dNil))
  (dApp 3 (dCons (dTup (dCons (dOp ixW (dOp ixW (dVar 0) (dOp subW (dOp ixW (dVar 5) (dC (.int 0))) (dC (.int 2)))) (dC (.int 1))) (dCons (dC (.bl false)) dNil))) dNil)))))
  dNx)))
noncomputable def q34(K:PySem.W.Frag)(a:Adr)(r:Nat->List W->FR):List S->SR:=
 (dSeq (dSetO 2 (dLst dNil))
  (dSeq (dSetO 3 (dLst (dCons (dTup (dCons (dVar 1) (dCons (dC (.bl false)) dNil))) dNil)))
  (dSeq (dSetO 4 (dLst (dCons (dC (.int 0)) (dCons (dC (.int 1)) dNil))))
  (dSeq (whileD (q09 K a r)
  (q03 K a r) 1000000)
  (dRetO 2)))))
noncomputable def q36(K:PySem.W.Frag)(a:Adr)(r:Nat->List W->FR):Den W:=
 (dOp addX (dVar 0) (dC (.int 2)))
noncomputable def q2w(K:PySem.W.Frag)(a:Adr)(r:Nat->List W->FR):List S->SR:=
 (dIfS (dOr (dAnd (dTest (dOp gtW (dVar 3) (dC (.int 1)))) (dTest (dOp leW (dOp ixW (dOp ixW (dVar 1) (dOp subW (dVar 3) (dC (.int 2)))) (dC (.int 0))) (dOp ixW (dOp ixW (dVar 1) (dVar 2)) (dC (.int 0)))))) (dTest (dOp inL (dOp ixW (dVar 1) (dVar 2)) (dSl (dVar 1) dNoPart (dPart (dVar 2))))))
  (dRet (dC (.bl false)))
  dNx)
noncomputable def q11(K:PySem.W.Frag)(a:Adr)(r:Nat->List W->FR):List S->SR:=
 (dFor 3 (dSl (dOp ixW (dVar 1) (dVar 2)) (dPart (dC (.int 1))) dNoPart)
  (q2w K a r))
noncomputable def q37(K:PySem.W.Frag)(a:Adr)(r:Nat->List W->FR):Den W:=
 (dCall (r q23) (dCons (dOp ixW (dVar 1) (dVar 0)) (dCons (dVar 0) dNil)))
noncomputable def q3q(K:PySem.W.Frag)(a:Adr)(r:Nat->List W->FR):List S->SR:=
 (dSeq (dIfS (dOr (dNot (dTru (dIsi K (.type "tuple") (dVar 0)))) (dOr (dTest (dOp ne2 (dFn len1 (dCons (dVar 0) dNil)) (dC (.int 2)))) (dOr (dNot (dTru (dIsi K (.type "list") (dOp ixW (dVar 0) (dC (.int 0)))))) (dNot (dTru (dCall (r q22) (dCons (dOp ixW (dVar 0) (dC (.int 1))) dNil)))))))
  (dRet (dC (.bl false)))
  dNx)
  (dSeq (dSet 1 (dOp ixW (dVar 0) (dC (.int 0))))
  (dSeq (dIfS (dOr (dNot (dTru (dFn all1 (dCons (dFz (dCompR rng1 [1] (dCons (dFn len1 (dCons (dVar 1) dNil)) dNil) dYes (q37 K a r))) dNil)))) (dOr (dTest (dOp ltW (dOp ixW (dVar 0) (dC (.int 1))) (dC (.int 0)))) (dTest (dOp gtW (dOp ixW (dVar 0) (dC (.int 1))) (dOp addX (dFn len1 (dCons (dVar 1) dNil)) (dC (.int 1)))))))
  (dRet (dC (.bl false)))
  dNx)
  (dSeq (dForR 2 rng1 (dCons (dFn len1 (dCons (dVar 1) dNil)) dNil)
  (q11 K a r))
  (dRet (dOp eq2 (dCall (r q24) (dCons (dVar 1) (dCons (dOp ixW (dVar 0) (dC (.int 1))) dNil))) (dFz (dCompR rng1 [] (dCons (dFn len1 (dCons (dVar 1) dNil)) dNil) dYes (q36 K a r)))))))))
noncomputable def q4k(K:PySem.W.Frag)(a:Adr)(r:Nat->List W->FR):Den Bool:=
 (dTest (dOp gtW (dVar 2) (dC (.int 1))))
noncomputable def q51(K:PySem.W.Frag)(a:Adr)(r:Nat->List W->FR):List S->SR:=
 (dSeq (dSet 3 (dOp ixW (dOp ixW (dVar 0) (dC (.int 0))) (dOp subW (dVar 2) (dC (.int 2)))))
  (dSet 2 (dOp ixW (dVar 3) (dOp addX (dC (.int 1)) (dFn int1 (dCons (dOp ixW (dVar 1) (dOp ixW (dVar 3) (dC (.int 0)))) dNil))))))
noncomputable def q5v(K:PySem.W.Frag)(a:Adr)(r:Nat->List W->FR):List S->SR:=
 (dSeq (dSet 2 (dOp ixW (dVar 0) (dC (.int 1))))
  (dSeq (whileD (q4k K a r)
  (q51 K a r) 1000000)
  (dRet (dOp eq2 (dVar 2) (dC (.int 1))))))
noncomputable def q35(K:PySem.W.Frag)(a:Adr)(r:Nat->List W->FR):List S->SR:=
 (dSeq (dTry K a.CircuitError 1 2
  (dDrop (dCall (r q0u) (dCons (dVar 0) dNil)))
  (dRet (dOp eq2 (dCallH (r q14) (dCons (dVar 1) dNil)) (dC (.str "table")))))
  (dRet (dC (.bl false))))
noncomputable def q7g(K:PySem.W.Frag)(a:Adr)(r:Nat->List W->FR):List S->SR:=
 (dIfS (dTest (dOp ne2 (dCall (r q4h) (dCons (dVar 6) (dCons (dCall (r q3n) (dCons (dVar 8) (dCons (dVar 4) dNil))) dNil))) (dOp ixW (dVar 2) (dVar 8))))
  (dRet (dC (.bl false)))
  dNx)
noncomputable def q84(K:PySem.W.Frag)(a:Adr)(r:Nat->List W->FR):Den W:=
 (dCall (r q1u) (dCons (dVar 1) (dCons (dVar 0) (dCons (dFn len1 (dCons (dVar 2) dNil)) dNil))))
noncomputable def q6f(K:PySem.W.Frag)(a:Adr)(r:Nat->List W->FR):Den W:=
 (dOp eq2 (dCall (r q1u) (dCons (dOp addX (dCall (r q1n) (dCons (dVar 1) (dCons (dC (.int 1)) dNil))) (dOp fdivW (dVar 0) (dC (.int 7)))) (dCons (dVar 0) (dCons (dC (.int 2)) dNil)))) (dC (.int 1)))
noncomputable def q85(K:PySem.W.Frag)(a:Adr)(r:Nat->List W->FR):Den W:=
 (dOp eq2 (dOp modW (dVar 0) (dC (.int 2))) (dC (.int 1)))
noncomputable def x3j(K:PySem.W.Frag)(a:Adr)(r:Nat->List W->FR):List S->SR:=
 (dSeq (dSet 1 (dCall (r q1n) (dCons (dVar 0) (dCons (dC (.int 0)) dNil))))
  (dSeq (dSet 2 (dFz (dComp [] (dSl (dVar 0) (dPart (dC (.int 2))) (dPart (dC (.int 42)))) dYes (q85 K a r))))
  (dSeq (dIfS (dTest (dOp gtW (dOp modW (dVar 1) (dC (.int 3))) (dC (.int 0))))
  (dSeq (dSet 3 (dCall (r q15) (dCons (dOp modW (dOp fdivW (dVar 1) (dC (.int 3))) (dC (.int 6))) dNil)))
  (dSeq (dIfS (dTest (dOp eq2 (dOp modW (dOp fdivW (dVar 1) (dC (.int 18))) (dC (.int 8))) (dC (.int 1))))
  (dSet 3 (dOp ixW (dFz (dLst (dCons (dC (.int 64)) (dCons (dC (.int 128)) (dCons (dC (.int 256)) (dCons (dC (.int 512)) (dCons (dC (.int 1024)) (dCons (dC (.int 1023)) (dCons (dC (.int 1025)) (dCons (dOp modW (dOp fdivW (dVar 1) (dC (.int 144))) (dC (.int 1101))) dNil)))))))))) (dCall (r q1u) (dCons (dVar 1) (dCons (dC (.int 1)) (dCons (dC (.int 8)) dNil))))))
  dNx)
  (dSet 2 (dFz (dCompR rng1 [0] (dCons (dVar 3) dNil) dYes (q6f K a r))))))
  dNx)
  (dSeq (dIfS (dTest (dOp ninW (dFn len1 (dCons (dVar 2) dNil)) (dFz (dLst (dCons (dC (.int 1)) (dCons (dC (.int 2)) (dCons (dC (.int 4)) (dCons (dC (.int 8)) (dCons (dC (.int 16)) (dCons (dC (.int 32)) (dCons (dC (.int 64)) (dCons (dC (.int 128)) (dCons (dC (.int 256)) (dCons (dC (.int 512)) (dCons (dC (.int 1024)) dNil)))))))))))))))
  (dRet (dCall (r q12) (dCons (dVar 2) dNil)))
  dNx)
  (dSeq (dSet 4 (dMeth "list" indexI (dFz (dLst (dCons (dC (.int 1)) (dCons (dC (.int 2)) (dCons (dC (.int 4)) (dCons (dC (.int 8)) (dCons (dC (.int 16)) (dCons (dC (.int 32)) (dCons (dC (.int 64)) (dCons (dC (.int 128)) (dCons (dC (.int 256)) (dCons (dC (.int 512)) (dCons (dC (.int 1024)) dNil))))))))))))) (dCons (dFn len1 (dCons (dVar 2) dNil)) dNil)))
  (dSeq (dSetO 5 (dList (dCons (dVar 2) dNil)))
  (dSeq (dSetNw 6 (dLendN (dCallN (r q0u) (dCons (dVar 5) dNil))))
  (dSeq (dIfS (dOr (dNot (dTru (dCall (r q1b) (dCons (dVar 6) dNil)))) (dBorrowT (dTest (dOp ne2 (dVar 5) (dVar 2)))))
  (dRet (dC (.bl false)))
  dNx)
  (dSeq (dSet 7 (dFz (dListR (dCons (dFn len1 (dCons (dVar 2) dNil)) dNil))))
  (dSeq (dIfS (dTest (dOp gtW (dFn len1 (dCons (dVar 2) dNil)) (dC (.int 64))))
  (dSet 7 (dFz (dCompR rng1 [1,2] (dCons (dC (.int 20)) dNil) dYes (q84 K a r))))
  dNx)
  (dSeq (dFor 8 (dVar 7)
  (q7g K a r))
  (dSeq (dPut 5 (dNotV (dOp ixW (dVar 2) (dOp subW (dFn len1 (dCons (dVar 2) dNil)) (dC (.int 1))))) (dOp subW (dFn len1 (dCons (dVar 2) dNil)) (dC (.int 1))))
  (dSeq (dSetNw 9 (dLendN (dCallN (r q0u) (dCons (dVar 5) dNil))))
  (dSeq (dIfS (dOr (dTest (dOp eq2 (dVar 9) (dVar 6))) (dOr (dTest (dOp ne2 (dCall (r q0u) (dCons (dVar 2) dNil)) (dVar 6))) (dTest (dOp ne2 (dCall (r q1t) (dCons (dVar 6) (dCons (dVar 4) dNil))) (dMeth "list" countW (dVar 2) (dCons (dC (.bl true)) dNil))))))
  (dRet (dC (.bl false)))
  dNx)
  (dSeq (dSet 10 (dCall (r q4m) (dCons (dC (.str "odd")) (dCons (dVar 9) (dCons (dVar 6) dNil)))))
  (dSeq (dIfS (dOr (dNot (dTru (dCall (r q1b) (dCons (dVar 10) dNil)))) (dTest (dOp ne2 (dCall (r q1t) (dCons (dCall (r q5g) (dCons (dVar 6) dNil)) (dCons (dVar 4) dNil))) (dMeth "list" countW (dVar 2) (dCons (dC (.bl false)) dNil)))))
  (dRet (dC (.bl false)))
  dNx)
  (dRet (dAndV (dOp eq2 (dCall (r q1t) (dCons (dVar 10) (dCons (dVar 4) dNil))) (dC (.int 1))) (dOp eq2 (dCall (r q20) (dCons (dVar 10) (dCons (dVar 4) dNil))) (dOp repT (dTup (dCons (dC (.bl true)) dNil)) (dVar 4)))))))))))))))))))))
noncomputable def body(K:PySem.W.Frag)(a:Adr)(r:Nat->List W->FR)(ws:List W):Nat->FR
 |0=>if ws.length=1 then(q5r K a r (init 1 ws)).fn else .no
 |1=>if ws.length=3 then(q83 K a r (init 3 ws)).fn else .no
 |2=>if ws.length=3 then(q41 K a r (init 3 ws)).fn else .no
 |3=>if ws.length=1 then(q5s K a r (init 3 ws)).fn else .no
 |4=>lgF lams (recN r q04) ws
 |5=>nfB r q04 ws
 |6=>.no
 |7=>if ws.length=2 then(q6z K a r (init 2 ws)).fn else .no
 |8=>if ws.length=1 then(q7u K a r (init 1 ws)).fn else .no
 |9=>if ws.length=2 then(q4i K a r (init 2 ws)).fn else .no
 |10=>if ws.length=1 then(q7w K a r (init 2 ws)).fn else .no
 |11=>if ws.length=1 then(q5t K a r (init 1 ws)).fn else .no
 |12=>if ws.length=3 then(q7x K a r (init 3 ws)).fn else .no
 |13=>if ws.length=4 then(q25 K a r (init 9 ws)).fn else .no
 |14=>if ws.length=1 then(q42 K a r (init 1 ws)).fn else .no
 |15=>if ws.length=4 then(q61 K a r (init 4 ws)).fn else .no
 |16=>if ws.length=2 then(q59 K a r (init 4 ws)).fn else .no
 |17=>if ws.length=2 then(q44 K a r (init 5 ws)).fn else .no
 |18=>if ws.length=1 then(q5u K a r (init 2 ws)).fn else .no
 |19=>if ws.length=1 then(q31 K a r (init 1 ws)).fn else .no
 |20=>if ws.length=1 then(q2e K a r (init 1 ws)).fn else .no
 |21=>if ws.length=1 then(q3i K a r (init 4 ws)).fn else .no
 |22=>if ws.length=2 then(q32 K a r (init 2 ws)).fn else .no
 |23=>if ws.length=1 then(q45 K a r (init 1 ws)).fn else .no
 |24=>if ws.length=3 then(q46 K a r (init 5 ws)).fn else .no
 |25=>if ws.length=1 then(q3u K a r (init 2 ws)).fn else .no
 |26=>if ws.length=1 then(q47 K a r (init 3 ws)).fn else .no
 |27=>if ws.length=2 then(q4j K a r (init 4 ws)).fn else .no
 |28=>if ws.length=2 then(q33 K a r (init 2 ws)).fn else .no
 |29=>if ws.length=2 then(q34 K a r (init 6 ws)).fn else .no
 |30=>if ws.length=1 then(q3q K a r (init 4 ws)).fn else .no
 |31=>if ws.length=2 then(q5v K a r (init 4 ws)).fn else .no
 |32=>if ws.length=1 then(q35 K a r (init 2 ws)).fn else .no
 |33=>if ws.length=1 then(x3j K a r (init 11 ws)).fn else .no
 |34=>if ws.length=4 then exprFR (q3y K a r (ws.map .fr))else .no
 |35=>lgT (recN r q04) (.fn q0r q1e []) ws
 |_=>.no
noncomputable def run(K:PySem.W.Frag)(a:Adr):Nat->Nat->List W->FR
 |0,_,_=>.no
 |n+1,i,ws=>body K a (run K a n) ws i
theorem q52:run K a (n+1) q4f ws=if ws.length=1 then(q5r K a (run K a n) (init 1 ws)).fn else .no:=rfl
theorem q8p:run K a (n+1) q7f ws=if ws.length=3 then(q83 K a (run K a n) (init 3 ws)).fn else .no:=rfl
theorem q5j:run K a (n+1) q2y ws=if ws.length=3 then(q41 K a (run K a n) (init 3 ws)).fn else .no:=rfl
theorem q53:run K a (n+1) q3p ws=if ws.length=1 then(q5s K a (run K a n) (init 3 ws)).fn else .no:=rfl
theorem x0w:run K a (n+1) q2j ws=lgF lams (recN (run K a n) q04) ws:=rfl
theorem q64:run K a (n+1) q27 ws=if ws.length=2 then(q6z K a (run K a n) (init 2 ws)).fn else .no:=rfl
theorem q7y:run K a (n+1) q3a ws=if ws.length=1 then(q7u K a (run K a n) (init 1 ws)).fn else .no:=rfl
theorem q49:run K a (n+1) q2k ws=if ws.length=2 then(q4i K a (run K a n) (init 2 ws)).fn else .no:=rfl
theorem q7z:run K a (n+1) q5g ws=if ws.length=1 then(q7w K a (run K a n) (init 2 ws)).fn else .no:=rfl
theorem q54:run K a (n+1) q2p ws=if ws.length=1 then(q5t K a (run K a n) (init 1 ws)).fn else .no:=rfl
theorem q70:run K a (n+1) q4m ws=if ws.length=3 then(q7x K a (run K a n) (init 3 ws)).fn else .no:=rfl
theorem q3k:run K a (n+1) q1m ws=if ws.length=4 then(q25 K a (run K a n) (init 9 ws)).fn else .no:=rfl
theorem q5k:run K a (n+1) q2z ws=if ws.length=1 then(q42 K a (run K a n) (init 1 ws)).fn else .no:=rfl
theorem q65:run K a (n+1) q4x ws=if ws.length=4 then(q61 K a (run K a n) (init 4 ws)).fn else .no:=rfl
theorem q6t:run K a (n+1) q1t ws=if ws.length=2 then(q59 K a (run K a n) (init 4 ws)).fn else .no:=rfl
theorem q5l:run K a (n+1) q20 ws=if ws.length=2 then(q44 K a (run K a n) (init 5 ws)).fn else .no:=rfl
theorem q55:run K a (n+1) q4g ws=if ws.length=1 then(q5u K a (run K a n) (init 2 ws)).fn else .no:=rfl
theorem q4o:run K a (n+1) q21 ws=if ws.length=1 then(q31 K a (run K a n) (init 1 ws)).fn else .no:=rfl
theorem q2m{n:Nat}:run K a (n+1) q0u ws=if ws.length=1 then(q2e K a (run K a n) (init 1 ws)).fn else .no:=rfl
theorem q3v:run K a (n+1) q0r ws=if ws.length=1 then(q3i K a (run K a n) (init 4 ws)).fn else .no:=rfl
theorem q4p:run K a (n+1) q1n ws=if ws.length=2 then(q32 K a (run K a n) (init 2 ws)).fn else .no:=rfl
theorem q5m:run K a (n+1) q22 ws=if ws.length=1 then(q45 K a (run K a n) (init 1 ws)).fn else .no:=rfl
theorem q5n:run K a (n+1) q1u ws=if ws.length=3 then(q46 K a (run K a n) (init 5 ws)).fn else .no:=rfl
theorem q26:run K a (n+1) q14 ws=if ws.length=1 then(q3u K a (run K a n) (init 2 ws)).fn else .no:=rfl
theorem q5o:run K a (n+1) q15 ws=if ws.length=1 then(q47 K a (run K a n) (init 3 ws)).fn else .no:=rfl
theorem q5a:run K a (n+1) q3n ws=if ws.length=2 then(q4j K a (run K a n) (init 4 ws)).fn else .no:=rfl
theorem q4q:run K a (n+1) q23 ws=if ws.length=2 then(q33 K a (run K a n) (init 2 ws)).fn else .no:=rfl
theorem q4r:run K a (n+1) q24 ws=if ws.length=2 then(q34 K a (run K a n) (init 6 ws)).fn else .no:=rfl
theorem q38:run K a (n+1) q1b ws=if ws.length=1 then(q3q K a (run K a n) (init 4 ws)).fn else .no:=rfl
theorem q56:run K a (n+1) q4h ws=if ws.length=2 then(q5v K a (run K a n) (init 4 ws)).fn else .no:=rfl
theorem q4s{n:Nat}:run K a (n+1) q12 ws=if ws.length=1 then(q35 K a (run K a n) (init 2 ws)).fn else .no:=rfl
theorem q7h:run K a (n+1) q82 ws=if ws.length=1 then(x3j K a (run K a n) (init 11 ws)).fn else .no:=rfl
theorem y7m:run K a (n+1) x0v ws=lgT (recN (run K a n) q04) (.fn q0r q1e []) ws:=rfl
theorem q4t:run K a (n+1) q00 ws=if ws.length=4 then exprFR (q3y K a (run K a n) (ws.map .fr))else .no:=rfl
section
variable{P:Program}{w:World}{base:Heap}
structure Mks(K:PySem.W.Frag)(mg:Str->Option Value):Prop where
 joined:∀f oc od fd sl,mg "joined"=some (.ref f)->K.lookup f=some ⟨oc,od,.func fd,sl⟩->MakK K "joined" fd.code
structure Ats(K:PySem.W.Frag)(mg:Str->Option Value):Prop where
 eased_not:At K mg "eased_not" q2q ["form"]
 eased:At K mg "eased" q5h ["word", "form", "other"]
 with_truth:At K mg "with_truth" q16 ["word", "truth", "form"]
 rows_many:At K mg "rows_many" q2r ["many"]
 least_graph:At K mg "least_graph" q1v ["begin", "ask"]
 number_for:At K mg "number_for" q17 ["thing", "ask", "nodes", "numbers", "seen"]
 node_number:At K mg "node_number" q1w ["node", "nodes", "numbers"]
 node_at:At K mg "node_at" q3r ["graph", "number"]
 is_end:At K mg "is_end" q4n ["number"]
 check_graph:At K mg "check_graph" q1l ["graph", "many"]
 turned:At K mg "turned" q3s ["graph"]
 other_end:At K mg "other_end" q2s ["number"]
 joined:At K mg "joined" q3b ["word", "graph", "other"]
 told_of_pair:At K mg "told_of_pair" q07 ["word", "graph", "other", "pair"]
 known_form:At K mg "known_form" q18 ["number"]
 gone_on:At K mg "gone_on" q3t ["graph", "number", "place", "truth"]
 how_many:At K mg "how_many" q3c ["graph", "many"]
 first_true:At K mg "first_true" q19 ["graph", "many"]
 places_of:At K mg "places_of" q2t ["table"]
 is_one_truth:At K mg "is_one_truth" q1j ["truths"]
 graph_of_table:At K mg "graph_of_table" q1g ["table"]
 told_of_truths:At K mg "told_of_truths" q1h ["thing"]
 _law_cell_at:At K mg "_law_cell_at" q1o ["_law_script", "_law_k"]
 _law_whole:At K mg "_law_whole" q2a ["_law_found"]
 _law_mixed:At K mg "_law_mixed" q2b ["_law_cell", "_law_k", "_law_many"]
 _law_class:At K mg "_law_class" q2c ["_law_e"]
 _law_count:At K mg "_law_count" q2d ["_law_many"]
 _law_row_of:At K mg "_law_row_of" q1x ["_law_number", "_law_many"]
 _law_is_node:At K mg "_law_is_node" q1k ["_law_node", "_law_many"]
 _law_reached:At K mg "_law_reached" q1p ["_law_nodes", "_law_begin"]
 _law_is_least:At K mg "_law_is_least" q08 ["_law_found"]
 _law_walk:At K mg "_law_walk" q2u ["_law_found", "_law_row_here"]
 _law_refused:At K mg "_law_refused" q1q ["_law_rows_here"]
 law:At K mg "law" q3d ["_law_script"]
structure Cals(P:Program)(w:World)(K:PySem.W.Frag)(mg:Str->Option Value)(base:Heap)(a:Adr)(n:Nat):Prop where
 eased_not:Cal P w K mg base n "eased_not" ["form"] (spF K (run K a n q4f))
 eased:Cal P w K mg base n "eased" ["word", "form", "other"] (spF K (run K a n q7f))
 with_truth:Cal P w K mg base n "with_truth" ["word", "truth", "form"] (spF K (run K a n q2y))
 rows_many:Cal P w K mg base n "rows_many" ["many"] (spF K (run K a n q3p))
 least_graph:Cal P w K mg base n "least_graph" ["begin", "ask"] (spLGK K (run K a n q2j) (run K a n x0v) mg "told_of_truths")
 number_for:Cal P w K mg base n "number_for" ["thing", "ask", "nodes", "numbers", "seen"] (spNFK K lams (recN (run K a n) q04) mg "told_of_truths" (.fn q0r q1e []))
 node_number:Cal P w K mg base n "node_number" ["node", "nodes", "numbers"] (spNNp K (0<n))
 node_at:Cal P w K mg base n "node_at" ["graph", "number"] (spF K (run K a n q27))
 is_end:Cal P w K mg base n "is_end" ["number"] (spF K (run K a n q3a))
 check_graph:Cal P w K mg base n "check_graph" ["graph", "many"] (spF K (run K a n q2k))
 turned:Cal P w K mg base n "turned" ["graph"] (spF K (run K a n q5g))
 other_end:Cal P w K mg base n "other_end" ["number"] (spF K (run K a n q2p))
 joined:Cal P w K mg base n "joined" ["word", "graph", "other"] (spF K (run K a n q4m))
 told_of_pair:Cal P w K mg base n "told_of_pair" ["word", "graph", "other", "pair"] (spF K (run K a n q1m))
 known_form:Cal P w K mg base n "known_form" ["number"] (spF K (run K a n q2z))
 gone_on:Cal P w K mg base n "gone_on" ["graph", "number", "place", "truth"] (spF K (run K a n q4x))
 how_many:Cal P w K mg base n "how_many" ["graph", "many"] (spF K (run K a n q1t))
 first_true:Cal P w K mg base n "first_true" ["graph", "many"] (spF K (run K a n q20))
 places_of:Cal P w K mg base n "places_of" ["table"] (spF K (run K a n q4g))
 is_one_truth:Cal P w K mg base n "is_one_truth" ["truths"] (spF K (run K a n q21))
 graph_of_table:Cal P w K mg base n "graph_of_table" ["table"] (spF K (run K a n q0u))
 told_of_truths:Cal P w K mg base n "told_of_truths" ["thing"] (spF K (run K a n q0r))
 _law_cell_at:Cal P w K mg base n "_law_cell_at" ["_law_script", "_law_k"] (spF K (run K a n q1n))
 _law_whole:Cal P w K mg base n "_law_whole" ["_law_found"] (spF K (run K a n q22))
 _law_mixed:Cal P w K mg base n "_law_mixed" ["_law_cell", "_law_k", "_law_many"] (spF K (run K a n q1u))
 _law_class:Cal P w K mg base n "_law_class" ["_law_e"] (spF K (run K a n q14))
 _law_count:Cal P w K mg base n "_law_count" ["_law_many"] (spF K (run K a n q15))
 _law_row_of:Cal P w K mg base n "_law_row_of" ["_law_number", "_law_many"] (spF K (run K a n q3n))
 _law_is_node:Cal P w K mg base n "_law_is_node" ["_law_node", "_law_many"] (spF K (run K a n q23))
 _law_reached:Cal P w K mg base n "_law_reached" ["_law_nodes", "_law_begin"] (spF K (run K a n q24))
 _law_is_least:Cal P w K mg base n "_law_is_least" ["_law_found"] (spF K (run K a n q1b))
 _law_walk:Cal P w K mg base n "_law_walk" ["_law_found", "_law_row_here"] (spF K (run K a n q4h))
 _law_refused:Cal P w K mg base n "_law_refused" ["_law_rows_here"] (spF K (run K a n q12))
 law:Cal P w K mg base n "law" ["_law_script"] (spF K (run K a n q82))
 lam:FnV P w K mg base (CX1 P w) n (spV K lams (run K a n))
structure CalsH(P:Program)(w:World)(K:PySem.W.Frag)(mg:Str->Option Value)(base:Heap)(a:Adr)(n:Nat):Prop where
 z:True
 _law_class:CalH P w K mg base n "_law_class" ["_law_e"] (spF K (run K a n q14))
theorem x1p(A:Ats K mg)(B:Blt mg)(M:Exs K mg a):CalH P w K mg base (n+1) "_law_class" ["_law_e"] (spF K (run K a (n+1) q14)):=by
 refine conH A._law_class sc__law_class (fun ws hw=>?_) (fun ws hw f cdv A outer s H Z hr=>⟨q3u K a (run K a n),(q0e (q4z 1 sc__law_class.nd (q3l q0c))
  (q0e (q0x (q0t (q05 (c0:=.ref _) rfl (q1c M.m_NoPlace) B.b_isinstance (dv 0)))
  (q0f (q1d 1 (q0a q01 q0c)))
  q0p)
  (q0e (q0x (q0t (q05 (c0:=.ref _) rfl (q1c M.m_NoName) B.b_isinstance (dv 0)))
  (q0f (q1d 1 (q0a q01 q0c)))
  q0p)
  (q0e (q0x (q0t (q05 (c0:=.ref _) rfl (q1c M.m_BadText) B.b_isinstance (dv 0)))
  (q0f (q1d 1 (q0a q01 q0c)))
  q0p)
  (q0e (q0x (q0t (q05 (c0:=.ref _) rfl (q1c M.m_NoRow) B.b_isinstance (dv 0)))
  (q0f (q1d 1 (q0a q01 q0c)))
  q0p)
  (q0e (q0x (q0t (q05 (c0:=.ref _) rfl (q1c M.m_NoTable) B.b_isinstance (dv 0)))
  (q0f (q1d 1 (q0a q01 q0c)))
  q0p)
  (q0e (q0x (q0t (q05 (c0:=.ref _) rfl (q1c M.m_UnlikeSizes) B.b_isinstance (dv 0)))
  (q0f (q1d 1 (q0a q01 q0c)))
  q0p)
  (q0e (q0x (dt_w (q2l (q0t (q05 (c0:=.ref _) rfl (q1c M.m_TooGreat) B.b_isinstance (dv 0))) (q2l (q0t (q05 (c0:=.ref _) rfl (q1c M.m_NoMachine) B.b_isinstance (dv 0))) (q4a (q0t (q05 (c0:=.ref _) rfl (q1c M.m_BadSheet) B.b_isinstance (dv 0)))))))
  (q0f (q1d 1 (q0a q01 q0c)))
  q0p)
  (q0e (q0x (dt_w (x3u (q3x (x31 hr) (x1h 1 B.b_len) q0b) (x1f (q0t (q05 (c0:=.ty _) rfl (q5f PyProof.Rows.Boot.«ValueError» B.b_ValueError) B.b_isinstance (dv 0))))))
  (q0f (q0o (q8l 1 q0b)))
  q0p)
  (q0f (q0o q01))))))))))),?_⟩)
 ·rw[q26]at hw;split at hw
  ·assumption
  ·exact absurd rfl hw
 ·rw[q26]at hw |-;split at hw
  ·rename_i hl;rw[if_pos hl];rfl
  ·exact absurd rfl hw
section
variable(B:Blt mg)(M:Exs K mg a)(C:Cals P w K mg base a n)(CH:CalsH P w K mg base a n)(BM:BMain base mg)(MK:Mks K mg)
theorem lof{c:Prop} [Decidable c]{x r:FR}(e:r=if c then x else .no)(h:r≠.no):c/\x=r:=by
 rw[e]at h |-;split at h
 ·rename_i hl;rw[if_pos hl];exact⟨hl,rfl⟩
 ·exact absurd rfl h
include B M C CH BM MK
theorem x4r  (A:Ats K mg):Cal P w K mg base (n+1) "eased_not" ["form"] (spF K (run K a (n+1) q4f)):=
 con A.eased_not x4p (fun ws hw=>(lof q52 hw).1) fun ws hw f cdv A outer s H E Z hr=>⟨q5r K a (run K a n),(q0e (q0x (q3x (q0q hr) (q0k (dv 0) q0b) q01)
  (q0f (q0o (q1a (q0a q01 (q0a (x3w (q0k (dv 0) q0b)) q0c)))))
  q0p)
  (q0f (q0o (q1a (q0a q01 (q0a (dv 0) q0c)))))),(lof q52 hw).2⟩
theorem y3q  (A:Ats K mg):Cal P w K mg base (n+1) "eased" ["word", "form", "other"] (spF K (run K a (n+1) q7f)):=
 con A.eased y3p (fun ws hw=>(lof q8p hw).1) fun ws hw f cdv A outer s H E Z hr=>⟨q83 K a (run K a n),(q0e (q0x (q3x (q0q hr) (q0k (dv 1) q0b) q01)
  (q0f (q0o (q0n C.with_truth hr pass1 (q0a (dv 0) (q0a (q0k (dv 1) q0b) (q0a (dv 2) q0c))))))
  q0p)
  (q0e (q0x (q3x (q0q hr) (q0k (dv 2) q0b) q01)
  (q0f (q0o (q0n C.with_truth hr pass1 (q0a (dv 0) (q0a (q0k (dv 2) q0b) (q0a (dv 1) q0c))))))
  q0p)
  (q0f (q0o (q1a (q0a (dv 0) (q0a (dv 1) (q0a (dv 2) q0c)))))))),(lof q8p hw).2⟩
theorem x25  (A:Ats K mg):Cal P w K mg base (n+1) "with_truth" ["word", "truth", "form"] (spF K (run K a (n+1) q2y)):=
 con A.with_truth x22 (fun ws hw=>(lof q5j hw).1) fun ws hw f cdv A outer s H E Z hr=>⟨q41 K a (run K a n),(q0e (q0x (q3x (q0q hr) (dv 0) q01)
  (q0f (q0o (q7m (q0t (dv 1)) (dv 2) (q1a (q0a q01 (q0a q1s q0c))))))
  q0p)
  (q0e (q0x (q3x (q0q hr) (dv 0) q01)
  (q0f (q0o (q7m (q0t (dv 1)) (q1a (q0a q01 (q0a q1s q0c))) (dv 2))))
  q0p)
  (q0f (q0o (q7m (q0t (dv 1)) (q0n C.eased_not hr pass1 (q0a (dv 2) q0c)) (dv 2)))))),(lof q5j hw).2⟩
theorem x4s  (A:Ats K mg):Cal P w K mg base (n+1) "rows_many" ["many"] (spF K (run K a (n+1) q3p)):=
 con A.rows_many sc_rows_many (fun ws hw=>(lof q53 hw).1) fun ws hw f cdv A outer s H E Z hr=>⟨q5s K a (run K a n),(q0e (q02 1 sc_rows_many.nd q0b)
  (q0e (q7b 2 sc_rows_many.nd PassesOwn.leaving rfl B.b_range (q0a (dv 0) q0c)
  (q0f (q02 1 sc_rows_many.nd (q7e q0b (dv 1)))))
  (q0f (q0o (dv 1))))),(lof q53 hw).2⟩
theorem x1q  (A:Ats K mg):Cal P w K mg base (n+1) "least_graph" ["begin", "ask"] (spLGK K (run K a (n+1) q2j) (run K a (n+1) x0v) mg "told_of_truths"):=
 A.least_graph.cal sc_least_graph (fun vs H Q E h=>y7k h) fun f cdv A outer s H vs Q E hr h=>⟨_,q2n (q6w 2 sc_least_graph.nd (x8q q1z)) (q2n (q6w 3 sc_least_graph.nd (q6j C.number_for hr pass1 (q0s (pv 0) (q0s (pv 1) (q0s (pv 2) (q0s (x4a (sh:=shN)) (q0s y3m q1z)))))))
  (q3w (q6g (x0d (q0s (pv 2) (q0s (pv 3) q1z)))))),z1l h _ rfl⟩
theorem x26  (A : Ats K mg) : Cal P w K mg base (n + 1) "number_for" ["thing", "ask", "nodes", "numbers", "seen"] (spNFK K lams (recN (run K a (n + 1)) q04) mg "told_of_truths" (.fn q0r q1e [])) :=
  A.number_for.cal sc_number_for (fun vs H Q E h => y7j h) fun f cdv A outer s H vs Q E hr h => ⟨_, q2n (x0b (x8j (x2l (hu1 (q0q hr)) (pv 0) (pv 4)) rfl)
    (q2n (q6w 5 sc_number_for.nd (y0m C.lam C.told_of_truths hr (pv 1) pass1 (q0s (pv 0) q1z)))
     (q3w (x0b (PW.pt (y32 (q8t x9e (pv 5) x67 (nomark _)) (x8k (q8t x9e (pv 5) x67 (nomark _)))))
        (q3w (x1j (hu1 (q0q hr)) (pv 4) (pv 0) (x3m (x3o (pv 5) (fun _ => rfl)) q39 q39) rfl))
        (q2n (q6w 6 sc_number_for.nd (q6j C.number_for hr pass1 (q0s (pe_ix ix_tup (pv 5) q39 (by intro _ _; rfl)) (q0s (pv 1) (q0s (pv 2) (q0s (pv 3) (q0s (pv 4) q1z)))))))
         (q2n (q6w 7 sc_number_for.nd (q6j C.number_for hr pass1 (q0s (pe_ix ix_tup (pv 5) q39 (by intro _ _; rfl)) (q0s (pv 1) (q0s (pv 2) (q0s (pv 3) (q0s (pv 4) q1z)))))))
          (q3w (x1j (hu1 (q0q hr)) (pv 4) (pv 0) (q6j C.node_number hr pass1 (q0s (x0d (q0s (pe_ix ix_tup (pv 5) q39 (by intro _ _; rfl)) (q0s (pv 6) (q0s (pv 7) q1z)))) (q0s (pv 2) (q0s (pv 3) q1z)))) rfl))))))) q8s)
    (q3w (q6g (x6h (hu1 (q0q hr)) (pv 4) (pv 0) (by intro _ _; rfl)))), z1j M.nt h (fun i l caps t st v st' e => (q95 (r := run K a n) (fun _ => rfl) i l caps t st).symm.trans e) (fun f t st x e => by cases n with
      | zero => cases e
      | succ n => exact Nat.succ_pos n) _ rfl⟩
theorem x1r  (A:Ats K mg):Cal P w K mg base (n+1) "node_number" ["node", "nodes", "numbers"] (spNNp K (0<n+1)):=
 A.node_number.cal x1n (fun vs H Q E h=>z1c h) fun f cdv A outer s H vs Q E hr h=>⟨_,q2n (x0b (q8t z2b (pe_ix ix_tup (pv 0) q39 (by intro _ _;rfl)) (pe_ix ix_tup (pv 0) q39 (by intro _ _;rfl)) (nomark _)) (q3w (q6g (pe_ix ix_tup (pv 0) q39 (by intro _ _;rfl)))) q8s)
  (q2n (x0b (x8j (x2l (hu1 (q0q hr)) (pv 0) (pv 2)) rfl) (q2n (x1b (x8z (pv 1) (q0s (pv 0) q1z))) (q3w (x1j (hu1 (q0q hr)) (pv 2) (pv 0) (x7b op_add (y82 q9m B.b_len (q0s (pv 1) q1z)) q39) rfl))) q8s)
  (q3w (q6g (x6h (hu1 (q0q hr)) (pv 2) (pv 0) (by intro _ _;rfl))))),nn_ok M.nt h.2 _ rfl⟩
theorem x75  (A:Ats K mg):Cal P w K mg base (n+1) "node_at" ["graph", "number"] (spF K (run K a (n+1) q27)):=
 con A.node_at x73 (fun ws hw=>(lof q64 hw).1) fun ws hw f cdv A outer s H E Z hr=>⟨q6z K a (run K a n),(q0f (q0o (q0k (q0k (dv 0) q0b) (q4d (dv 1) q0b)))),(lof q64 hw).2⟩
theorem y0r  (A:Ats K mg):Cal P w K mg base (n+1) "is_end" ["number"] (spF K (run K a (n+1) q3a)):=
 con A.is_end y0p (fun ws hw=>(lof q7y hw).1) fun ws hw f cdv A outer s H E Z hr=>⟨q7u K a (run K a n),(q0f (q0o (y4c (dv 0) q0b))),(lof q7y hw).2⟩
theorem x1s  (A:Ats K mg):Cal P w K mg base (n+1) "check_graph" ["graph", "many"] (spF K (run K a (n+1) q2k)):=
 con A.check_graph x1o (fun ws hw=>(lof q49 hw).1) fun ws hw f cdv A outer s H E Z hr=>⟨q4i K a (run K a n),(q0f (q0x (q0t (z03 rfl B.b_any (q0a (q2v (q8x (x:="node") (Nf:=["many"]) (js:=[1]) (sc:=defScope q1l) (N:=["graph", "many"]) rfl (q0k (dv 0) q0b) (by decide +kernel)
   (fun _ _ _ _ _ _=>q2x)
   (fun _ _ _ _ _ _=>(y4d (q0k (dv 0) q0b) (dv 1)))
   (fun _ _ _ _ _=>q29 0 (show(["node", "many"]:List Str).Nodup by decide +kernel)))) q0c)))
  (q0f (x3y rais1 M.e_NoPlace M.m_NoPlace rfl (q0a q01 q0c)))
  q0p)),(lof q49 hw).2⟩
theorem y0s  (A:Ats K mg):Cal P w K mg base (n+1) "turned" ["graph"] (spF K (run K a (n+1) q5g)):=
 con A.turned sc_turned (fun ws hw=>(lof q7z hw).1) fun ws hw f cdv A outer s H E Z hr=>⟨q7w K a (run K a n),(q0e (x7k 1 sc_turned.nd (x:="node") (Nf:=[]) (js:=[]) (sc:=defScope q3s) (N:=["graph", "nodes"]) rfl (q0k (dv 0) q0b) (by decide +kernel)
   (fun _ _ _ _ _ _=>q2x)
   (fun _ _ _ _ _ _=>(q1a (q0a (q0k (dv 0) q0b) (q0a (q0n C.other_end hr passE (q0a (q0k (dv 0) q0b) q0c)) (q0a (q0n C.other_end hr passE (q0a (q0k (dv 0) q0b) q0c)) q0c)))))
   (fun _ _ _ _ _=>q29 0 (show(["node"]:List Str).Nodup by decide +kernel)))
  (q0f (q94 (z09 (x4e (z08 1) (x4e (y63 (q0n C.other_end hr pass1 (q0a (q0k (dv 0) q0b) q0c))) y64)))))),(lof q7z hw).2⟩
theorem x4t  (A:Ats K mg):Cal P w K mg base (n+1) "other_end" ["number"] (spF K (run K a (n+1) q2p)):=
 con A.other_end x4q (fun ws hw=>(lof q54 hw).1) fun ws hw f cdv A outer s H E Z hr=>⟨q5t K a (run K a n),(q0f (q0o (q7m (q0t (q0n C.is_end hr pass1 (q0a (dv 0) q0c))) (q4d q0b (dv 0)) (dv 0)))),(lof q54 hw).2⟩
theorem y0t  (A:Ats K mg):Cal P w K mg base (n+1) "joined" ["word", "graph", "other"] (spF K (run K a (n+1) q4m)):=
 conM A.joined MK.joined y0q (fun ws hw=>(lof q70 hw).1) fun ws hw f cdv A outer s H E Z hr hmk=>⟨q7x K a (run K a n),(q0f (q94 (x71 34 q1e (D.Cal.impS C.least_graph fun _ _ _ _ h=>.inl h) hr pass1 (z3q hmk BM) (fun _=>rfl) (q1a (q0a (q0k (dv 1) q0b) (q0a (q0k (dv 2) q0b) q0c))) (sc:=defScope q3b) (N:=["word", "graph", "other"]) (nf:=["word", "graph", "other"]) (by decide +kernel)))),(lof q70 hw).2⟩
theorem x0x  (A:Ats K mg):Cal P w K mg base (n+1) "told_of_pair" ["word", "graph", "other", "pair"] (spF K (run K a (n+1) q1m)):=
 con A.told_of_pair sc_told_of_pair (fun ws hw=>(lof q3k hw).1) fun ws hw f cdv A outer s H E Z hr=>⟨q25 K a (run K a n),(q0e (q02 4 sc_told_of_pair.nd (q0n C.eased hr pass1 (q0a (dv 0) (q0a (q0n C.known_form hr pass1 (q0a (q0k (dv 3) q0b) q0c)) (q0a (q0n C.known_form hr pass1 (q0a (q0k (dv 3) q0b) q0c)) q0c)))))
  (q0e (q0x (q3x (q0q hr) (q0k (dv 4) q0b) q01)
  (q0f (q0o (q0k (dv 4) q0b)))
  q0p)
  (q0e (q02 5 sc_told_of_pair.nd (q1a (q0a (q1a (q0a (dv 1) (q0a (q0k (dv 3) q0b) q0c))) (q0a (q1a (q0a (dv 2) (q0a (q0k (dv 3) q0b) q0c))) q0c))))
  (q0e (q02 6 sc_told_of_pair.nd (y6w rfl B.b_min (q0a (q2v (q9x (x:="side") (y:="number") (Nf:=[]) (js:=[]) (sc:=defScope q07) (N:=["word", "graph", "other", "pair", "known", "sides", "place", "low", "high"]) rfl (q9y (dv 5)) (by decide +kernel)
   (fun _ _ _ _ _ _=>(y5b (q4b (q0t (q0n C.is_end hr passE (q0a (dv 1) q0c))))))
   (fun _ _ _ _ _ _=>(q0k (q0n C.node_at hr passE (q0a (dv 0) (q0a (dv 1) q0c))) q0b))
   (fun _ _ _ _ _=>x36 (show(["side", "number"]:List Str).Nodup by decide +kernel) rfl))) q0c)))
  (q0e (q02 7 sc_told_of_pair.nd (q6n B.b_tuple (q0a (q2v (q9x (x:="side") (y:="number") (Nf:=["place"]) (js:=[6]) (sc:=defScope q07) (N:=["word", "graph", "other", "pair", "known", "sides", "place", "low", "high"]) rfl (q9y (dv 5)) (by decide +kernel)
   (fun _ _ _ _ _ _=>q2x)
   (fun _ _ _ _ _ _=>(q0n C.gone_on hr passE (q0a (dv 0) (q0a (dv 1) (q0a (dv 2) (q0a q1s q0c))))))
   (fun _ _ _ _ _=>x36 (show(["side", "number", "place"]:List Str).Nodup by decide +kernel) rfl))) q0c)))
  (q0e (q02 8 sc_told_of_pair.nd (q6n B.b_tuple (q0a (q2v (q9x (x:="side") (y:="number") (Nf:=["place"]) (js:=[6]) (sc:=defScope q07) (N:=["word", "graph", "other", "pair", "known", "sides", "place", "low", "high"]) rfl (q9y (dv 5)) (by decide +kernel)
   (fun _ _ _ _ _ _=>q2x)
   (fun _ _ _ _ _ _=>(q0n C.gone_on hr passE (q0a (dv 0) (q0a (dv 1) (q0a (dv 2) (q0a q1s q0c))))))
   (fun _ _ _ _ _=>x36 (show(["side", "number", "place"]:List Str).Nodup by decide +kernel) rfl))) q0c)))
  (q0f (q0o (q1a (q0a (dv 6) (q0a (dv 7) (q0a (dv 8) q0c)))))))))))),(lof q3k hw).2⟩
theorem x27  (A:Ats K mg):Cal P w K mg base (n+1) "known_form" ["number"] (spF K (run K a (n+1) q2z)):=
 con A.known_form x23 (fun ws hw=>(lof q5k hw).1) fun ws hw f cdv A outer s H E Z hr=>⟨q42 K a (run K a n),(q0f (q0o (q7m (q0t (q0n C.is_end hr pass1 (q0a (dv 0) q0c))) (q1a (q0a q01 (q0a (q40 (q0q hr) (dv 0) q0b) q0c))) (q1a (q0a q01 (q0a (dv 0) q0c)))))),(lof q5k hw).2⟩
theorem x76  (A:Ats K mg):Cal P w K mg base (n+1) "gone_on" ["graph", "number", "place", "truth"] (spF K (run K a (n+1) q4x)):=
 con A.gone_on x74 (fun ws hw=>(lof q65 hw).1) fun ws hw f cdv A outer s H E Z hr=>⟨q61 K a (run K a n),(q0e (q0x (dt_w (q2l (q0t (q0n C.is_end hr pass1 (q0a (dv 1) q0c))) (q4a (q6y (q0q hr) (q0k (q0n C.node_at hr pass1 (q0a (dv 0) (q0a (dv 1) q0c))) q0b) (dv 2)))))
  (q0f (q0o (dv 1)))
  q0p)
  (q0f (q0o (q0k (q0n C.node_at hr pass1 (q0a (dv 0) (q0a (dv 1) q0c))) (q7m (q0t (dv 3)) q0b q0b))))),(lof q65 hw).2⟩
theorem x5s  (A:Ats K mg):Cal P w K mg base (n+1) "how_many" ["graph", "many"] (spF K (run K a (n+1) q1t)):=
 con A.how_many sc_how_many (fun ws hw=>(lof q6t hw).1) fun ws hw f cdv A outer s H E Z hr=>⟨q59 K a (run K a n),(q0e (q8w (q0n C.check_graph hr pass1 (q0a (dv 0) (q0a (dv 1) q0c))))
  (q0e (q4z 2 sc_how_many.nd (q3l (q0a q0b (q0a (q0n C.rows_many hr pass1 (q0a (dv 1) q0c)) q0c))))
  (q0e (x3x 3 sc_how_many.nd PassesOwn.leaving rfl (q0k (dv 0) q0b)
  (q0f (q1d 2 (q0a (q5e (q2h (q8l 2 (q0k (dv 3) q0b)) (q8l 2 (q0k (dv 3) q0b))) q0b) q0c))))
  (q0f (q0o (q8l 2 (q0k (dv 0) q0b))))))),(lof q6t hw).2⟩
theorem x28  (A:Ats K mg):Cal P w K mg base (n+1) "first_true" ["graph", "many"] (spF K (run K a (n+1) q20)):=
 con A.first_true sc_first_true (fun ws hw=>(lof q5l hw).1) fun ws hw f cdv A outer s H E Z hr=>⟨q44 K a (run K a n),(q0e (q8w (q0n C.check_graph hr pass1 (q0a (dv 0) (q0a (dv 1) q0c))))
  (q0e (q02 2 sc_first_true.nd (q0k (dv 0) q0b))
  (q0e (q0x (q3x (q0q hr) (dv 2) q0b)
  (q0f (q0o y84))
  q0p)
  (q0e (q4z 3 sc_first_true.nd (z07 (q2v (q3l (q0a q1s q0c))) (dv 1)))
  (q0e (q9q 1000000 PassesOwn.leaving (q4b (q0t (q0n C.is_end hr pass1 (q0a (dv 2) q0c))))
  (q0e (q02 4 sc_first_true.nd (q0n C.node_at hr pass1 (q0a (dv 0) (q0a (dv 2) q0c))))
  (q0e (x9r 3 (q40 (q0q hr) (q0k (dv 4) q0b) q0b) (q0k (dv 4) q0b))
  (q0f (q02 2 sc_first_true.nd (q7m (q3x (q0q hr) (q0k (dv 4) q0b) q0b) (q0k (dv 4) q0b) (q0k (dv 4) q0b)))))))
  (q0f (q0o (q6n B.b_tuple (q0a (dv 3) q0c))))))))),(lof q5l hw).2⟩
theorem x4u  (A:Ats K mg):Cal P w K mg base (n+1) "places_of" ["table"] (spF K (run K a (n+1) q4g)):=
 con A.places_of sc_places_of (fun ws hw=>(lof q55 hw).1) fun ws hw f cdv A outer s H E Z hr=>⟨q5u K a (run K a n),(q0e (q7b 1 sc_places_of.nd PassesOwn.leaving rfl B.b_range (q0a (q2h (z0w M.m_MOST_PLACES M.g_MOST_PLACES) q0b) q0c)
  (q0f (q0x (q3x (q0q hr) (q10 B.b_len (q0a (dv 0) q0c)) (q0n C.rows_many hr pass1 (q0a (dv 1) q0c)))
  (q0f (q0o (dv 1)))
  q0p)))
  (q0f (x3y rais1 M.e_NoTable M.m_NoTable rfl (q0a q01 q0c)))),(lof q55 hw).2⟩
theorem x0y  (A:Ats K mg):Cal P w K mg base (n+1) "is_one_truth" ["truths"] (spF K (run K a (n+1) q21)):=
 con A.is_one_truth x0s (fun ws hw=>(lof q4o hw).1) fun ws hw f cdv A outer s H E Z hr=>⟨q31 K a (run K a n),(q0f (q0o (x34 rfl B.b_all (q0a (q2v (q8x (x:="truth") (Nf:=["truths"]) (js:=[0]) (sc:=defScope q1j) (N:=["truths"]) rfl (dv 0) (by decide +kernel)
   (fun _ _ _ _ _ _=>q2x)
   (fun _ _ _ _ _ _=>(q40 (q0q hr) (dv 0) (q0k (dv 1) q0b)))
   (fun _ _ _ _ _=>q29 0 (show(["truth", "truths"]:List Str).Nodup by decide +kernel)))) q0c)))),(lof q4o hw).2⟩
theorem q9c  (A:Ats K mg):Cal P w K mg base (n+1) "graph_of_table" ["table"] (spF K (run K a (n+1) q0u)):=
 con A.graph_of_table q9b (fun ws hw=>(lof q2m hw).1) fun ws hw f cdv A outer s H E Z hr=>⟨q2e K a (run K a n),(q0e (q8w (q0n C.places_of hr pass1 (q0a (dv 0) q0c)))
  (q0f (q94 (y7l C.least_graph C.told_of_truths hr pass1 (q1a (q0a q0b (q0a (q6n B.b_tuple (q0a (dv 0) q0c)) q0c))))))),(lof q2m hw).2⟩
theorem q9d  (A:Ats K mg):Cal P w K mg base (n+1) "told_of_truths" ["thing"] (spF K (run K a (n+1) q0r)):=
 con A.told_of_truths sc_told_of_truths (fun ws hw=>(lof q3v hw).1) fun ws hw f cdv A outer s H E Z hr=>⟨q3i K a (run K a n),(q0e (q02 1 sc_told_of_truths.nd (q0k (dv 0) q0b))
  (q0e (q02 2 sc_told_of_truths.nd (q0k (dv 0) q0b))
  (q0e (q0x (q0t (q0n C.is_one_truth hr pass1 (q0a (dv 2) q0c)))
  (q0f (q0o (q0k (dv 2) q0b)))
  q0p)
  (q0e (q02 3 sc_told_of_truths.nd (q5e (q10 B.b_len (q0a (dv 2) q0c)) q0b))
  (q0f (q0o (q1a (q0a (dv 1) (q0a (q1a (q0a (q2h (dv 1) q0b) (q0a (q4l (dv 2) q6c (q4v (dv 3))) q0c))) (q0a (q1a (q0a (q2h (dv 1) q0b) (q0a (q4l (dv 2) (q4v (dv 3)) q6c) q0c))) q0c)))))))))),(lof q3v hw).2⟩
theorem x0z  (A:Ats K mg):Cal P w K mg base (n+1) "_law_cell_at" ["_law_script", "_law_k"] (spF K (run K a (n+1) q1n)):=
 con A._law_cell_at x0t (fun ws hw=>(lof q4p hw).1) fun ws hw f cdv A outer s H E Z hr=>⟨q32 K a (run K a n),(q0e (q0x (y4e (dv 1) (q10 B.b_len (q0a (dv 0) q0c)))
  (q0f (q0o (q0k (dv 0) (dv 1))))
  q0p)
  (q0f (q0o q0b))),(lof q4p hw).2⟩
theorem x29  (A:Ats K mg):Cal P w K mg base (n+1) "_law_whole" ["_law_found"] (spF K (run K a (n+1) q22)):=
 con A._law_whole x24 (fun ws hw=>(lof q5m hw).1) fun ws hw f cdv A outer s H E Z hr=>⟨q45 K a (run K a n),(q0f (q0o (q8k (q05 (c0:=.ty _) rfl (q5f PyProof.Rows.Boot.«int» B.b_int) B.b_isinstance (dv 0)) (x3v (x3w (q05 (c0:=.ty _) rfl (q5f PyProof.Rows.Boot.«bool» B.b_bool) B.b_isinstance (dv 0))))))),(lof q5m hw).2⟩
theorem x3a  (A:Ats K mg):Cal P w K mg base (n+1) "_law_mixed" ["_law_cell", "_law_k", "_law_many"] (spF K (run K a (n+1) q1u)):=
 con A._law_mixed sc__law_mixed (fun ws hw=>(lof q5n hw).1) fun ws hw f cdv A outer s H E Z hr=>⟨q46 K a (run K a n),(q0e (q02 3 sc__law_mixed.nd (q2v (q3l (q0a q0b (q0a q0b (q0a q0b (q0a q0b (q0a q0b (q0a q0b (q0a q0b (q0a q0b (q0a q0b (q0a q0b (q0a q0b q0c))))))))))))))
  (q0e (q02 4 sc__law_mixed.nd (q4e (q7e (q2h (dv 0) (q7e q0b (dv 1))) q0b) (q0k (dv 3) (q4e (dv 1) q0b))))
  (q0f (q0o (q4e (q4e (q2h (q2h (q7e (q7e (dv 4) (dv 4)) q0b) (dv 4)) (dv 1)) q0b) (dv 2)))))),(lof q5n hw).2⟩
theorem x3b  (A:Ats K mg):Cal P w K mg base (n+1) "_law_class" ["_law_e"] (spF K (run K a (n+1) q14)):=
 con A._law_class sc__law_class (fun ws hw=>(lof q26 hw).1) fun ws hw f cdv A outer s H E Z hr=>⟨q3u K a (run K a n),(q0e (q4z 1 sc__law_class.nd (q3l q0c))
  (q0e (q0x (q0t (q05 (c0:=.ref _) rfl (q1c M.m_NoPlace) B.b_isinstance (dv 0)))
  (q0f (q1d 1 (q0a q01 q0c)))
  q0p)
  (q0e (q0x (q0t (q05 (c0:=.ref _) rfl (q1c M.m_NoName) B.b_isinstance (dv 0)))
  (q0f (q1d 1 (q0a q01 q0c)))
  q0p)
  (q0e (q0x (q0t (q05 (c0:=.ref _) rfl (q1c M.m_BadText) B.b_isinstance (dv 0)))
  (q0f (q1d 1 (q0a q01 q0c)))
  q0p)
  (q0e (q0x (q0t (q05 (c0:=.ref _) rfl (q1c M.m_NoRow) B.b_isinstance (dv 0)))
  (q0f (q1d 1 (q0a q01 q0c)))
  q0p)
  (q0e (q0x (q0t (q05 (c0:=.ref _) rfl (q1c M.m_NoTable) B.b_isinstance (dv 0)))
  (q0f (q1d 1 (q0a q01 q0c)))
  q0p)
  (q0e (q0x (q0t (q05 (c0:=.ref _) rfl (q1c M.m_UnlikeSizes) B.b_isinstance (dv 0)))
  (q0f (q1d 1 (q0a q01 q0c)))
  q0p)
  (q0e (q0x (dt_w (q2l (q0t (q05 (c0:=.ref _) rfl (q1c M.m_TooGreat) B.b_isinstance (dv 0))) (q2l (q0t (q05 (c0:=.ref _) rfl (q1c M.m_NoMachine) B.b_isinstance (dv 0))) (q4a (q0t (q05 (c0:=.ref _) rfl (q1c M.m_BadSheet) B.b_isinstance (dv 0)))))))
  (q0f (q1d 1 (q0a q01 q0c)))
  q0p)
  (q0e (q0x (dt_w (x3u (q3x (q0q hr) (x1h 1 B.b_len) q0b) (x1f (q0t (q05 (c0:=.ty _) rfl (q5f PyProof.Rows.Boot.«ValueError» B.b_ValueError) B.b_isinstance (dv 0))))))
  (q0f (q0o (q8l 1 q0b)))
  q0p)
  (q0f (q0o q01))))))))))),(lof q26 hw).2⟩
theorem x3c  (A:Ats K mg):Cal P w K mg base (n+1) "_law_count" ["_law_many"] (spF K (run K a (n+1) q15)):=
 con A._law_count sc__law_count (fun ws hw=>(lof q5o hw).1) fun ws hw f cdv A outer s H E Z hr=>⟨q47 K a (run K a n),(q0e (q02 1 sc__law_count.nd q0b)
  (q0e (q7b 2 sc__law_count.nd PassesOwn.leaving rfl B.b_range (q0a (dv 0) q0c)
  (q0f (q02 1 sc__law_count.nd (q7e q0b (dv 1)))))
  (q0f (q0o (dv 1))))),(lof q5o hw).2⟩
theorem x1t  (A:Ats K mg):Cal P w K mg base (n+1) "_law_row_of" ["_law_number", "_law_many"] (spF K (run K a (n+1) q3n)):=
 con A._law_row_of sc__law_row_of (fun ws hw=>(lof q5a hw).1) fun ws hw f cdv A outer s H E Z hr=>⟨q4j K a (run K a n),(q0e (q4z 2 sc__law_row_of.nd (q3l q0c))
  (q0e (q7b 3 sc__law_row_of.nd PassesOwn.leaving rfl B.b_range (q0a (dv 1) q0c)
  (q0f (q1d 2 (q0a (q40 (q0q hr) (q4e (q5e (dv 0) (q0n C._law_count hr pass1 (q0a (q4d (q4d (dv 1) q0b) (dv 3)) q0c))) q0b) q0b) q0c))))
  (q0f (q0o (q6n B.b_tuple (q0a (dv 2) q0c)))))),(lof q5a hw).2⟩
theorem x00  (A:Ats K mg):Cal P w K mg base (n+1) "_law_is_node" ["_law_node", "_law_many"] (spF K (run K a (n+1) q23)):=
 con A._law_is_node x0u (fun ws hw=>(lof q4q hw).1) fun ws hw f cdv A outer s H E Z hr=>⟨q33 K a (run K a n),(q0e (q0x (dt_w (q2l (q4b (q0t (q05 (c0:=.ty _) rfl (q5f PyProof.Rows.Boot.«tuple» B.b_tuple) B.b_isinstance (dv 0)))) (q2l (q6y (q0q hr) (q10 B.b_len (q0a (dv 0) q0c)) q0b) (q4a (q4b (q0t (x34 rfl B.b_all (q0a (q2v (q8x (x:="_law_one") (Nf:=[]) (js:=[]) (sc:=defScope q1k) (N:=["_law_node", "_law_many"]) rfl (dv 0) (by decide +kernel)
   (fun _ _ _ _ _ _=>q2x)
   (fun _ _ _ _ _ _=>(q0n C._law_whole hr passE (q0a (dv 0) q0c)))
   (fun _ _ _ _ _=>q29 0 (show(["_law_one"]:List Str).Nodup by decide +kernel)))) q0c))))))))
  (q0f (q0o q1s))
  q0p)
  (q0f (q0o (q8k (y4d (q0k (dv 0) q0b) q0b) (q8k (z2h (q0q hr) (q0k (dv 0) q0b) (q0k (dv 0) q0b)) (q8k (z2g q0b (y7h rfl B.b_min (q0a (q4l (dv 0) (q4v q0b) q6c) q0c))) (x3v (y4c (y7i rfl B.b_max (q0a (q4l (dv 0) (q4v q0b) q6c) q0c)) (q2h (dv 1) q0b))))))))),(lof q4q hw).2⟩
theorem x01  (A:Ats K mg):Cal P w K mg base (n+1) "_law_reached" ["_law_nodes", "_law_begin"] (spF K (run K a (n+1) q24)):=
 con A._law_reached sc__law_reached (fun ws hw=>(lof q4r hw).1) fun ws hw f cdv A outer s H E Z hr=>⟨q34 K a (run K a n),(q0e (q4z 2 sc__law_reached.nd (q3l q0c))
  (q0e (q4z 3 sc__law_reached.nd (q3l (q0a (q1a (q0a (dv 1) (q0a q1s q0c))) q0c)))
  (q0e (q4z 4 sc__law_reached.nd (q3l (q0a q0b (q0a q0b q0c))))
  (q0e (q9q 1000000 PassesOwn.leaving (q80 (x1h 3 B.b_len) q0b)
  (q0e (q02 5 sc__law_reached.nd (y9b 3))
  (q0f (q0x (q0t (q0k (dv 5) q0b))
  (q0f (q1d 2 (q0a (q0k (dv 5) q0b) q0c)))
  (q0f (q0x (x2j fun _=>(x9p (q0q hr) (q0k (dv 5) q0b) (dv 4)))
  (q0e (q1d 4 (q0a (q0k (dv 5) q0b) q0c))
  (q0e (q1d 3 (q0a (q1a (q0a (q0k (dv 5) q0b) (q0a q1s q0c))) q0c))
  (q0e (q1d 3 (q0a (q1a (q0a (q0k (q0k (dv 0) (q4d (q0k (dv 5) q0b) q0b)) q0b) (q0a q1s q0c))) q0c))
  (q0f (q1d 3 (q0a (q1a (q0a (q0k (q0k (dv 0) (q4d (q0k (dv 5) q0b) q0b)) q0b) (q0a q1s q0c))) q0c))))))
  q0p))))))
  (q0f (y46 2)))))),(lof q4r hw).2⟩
theorem q97  (A:Ats K mg):Cal P w K mg base (n+1) "_law_is_least" ["_law_found"] (spF K (run K a (n+1) q1b)):=
 con A._law_is_least sc__law_is_least (fun ws hw=>(lof q38 hw).1) fun ws hw f cdv A outer s H E Z hr=>⟨q3q K a (run K a n),(q0e (q0x (dt_w (q2l (q4b (q0t (q05 (c0:=.ty _) rfl (q5f PyProof.Rows.Boot.«tuple» B.b_tuple) B.b_isinstance (dv 0)))) (q2l (q6y (q0q hr) (q10 B.b_len (q0a (dv 0) q0c)) q0b) (q2l (q4b (q0t (q05 (c0:=.ty _) rfl (q5f PyProof.Rows.Boot.«list» B.b_list) B.b_isinstance (q0k (dv 0) q0b)))) (q4a (q4b (q0t (q0n C._law_whole hr pass1 (q0a (q0k (dv 0) q0b) q0c)))))))))
  (q0f (q0o q1s))
  q0p)
  (q0e (q02 1 sc__law_is_least.nd (q0k (dv 0) q0b))
  (q0e (q0x (dt_w (q2l (q4b (q0t (x34 rfl B.b_all (q0a (q2v (q9r (x:="_law_k") (Nf:=["_law_nodes"]) (js:=[1]) (sc:=defScope q08) (N:=["_law_found", "_law_nodes", "_law_k", "_law_at"]) rfl B.b_range (q0a (q10 B.b_len (q0a (dv 1) q0c)) q0c) (by decide +kernel)
   (fun _ _ _ _ _ _=>q2x)
   (fun _ _ _ _ _ _=>(q0n C._law_is_node hr passE (q0a (q0k (dv 1) (dv 0)) (q0a (dv 0) q0c))))
   (fun _ _ _ _ _=>q29 0 (show(["_law_k", "_law_nodes"]:List Str).Nodup by decide +kernel)))) q0c)))) (q2l (y4e (q0k (dv 0) q0b) q0b) (q4a (q80 (q0k (dv 0) q0b) (q2h (q10 B.b_len (q0a (dv 1) q0c)) q0b))))))
  (q0f (q0o q1s))
  q0p)
  (q0e (q7b 2 sc__law_is_least.nd PassesOwn.leaving rfl B.b_range (q0a (q10 B.b_len (q0a (dv 1) q0c)) q0c)
  (q0f (x3x 3 sc__law_is_least.nd PassesOwn.leaving rfl (q4l (q0k (dv 1) (dv 2)) (q4v q0b) q6c)
  (q0f (q0x (dt_w (q2l (dt_w (x3u (q80 (dv 3) q0b) (x1f (z2i (q0k (q0k (dv 1) (q4d (dv 3) q0b)) q0b) (q0k (q0k (dv 1) (dv 2)) q0b))))) (q4a (z1i (q0q hr) (q0k (dv 1) (dv 2)) (q4l (dv 1) q6c (q4v (dv 2)))))))
  (q0f (q0o q1s))
  q0p)))))
  (q0f (q0o (q40 (q0q hr) (q0n C._law_reached hr pass1 (q0a (dv 1) (q0a (q0k (dv 0) q0b) q0c))) (q2v (q9r (x:="_law_k") (Nf:=[]) (js:=[]) (sc:=defScope q08) (N:=["_law_found", "_law_nodes", "_law_k", "_law_at"]) rfl B.b_range (q0a (q10 B.b_len (q0a (dv 1) q0c)) q0c) (by decide +kernel)
   (fun _ _ _ _ _ _=>q2x)
   (fun _ _ _ _ _ _=>(q2h (dv 0) q0b))
   (fun _ _ _ _ _=>q29 0 (show(["_law_k"]:List Str).Nodup by decide +kernel))))))))))),(lof q38 hw).2⟩
theorem x4v  (A:Ats K mg):Cal P w K mg base (n+1) "_law_walk" ["_law_found", "_law_row_here"] (spF K (run K a (n+1) q4h)):=
 con A._law_walk sc__law_walk (fun ws hw=>(lof q56 hw).1) fun ws hw f cdv A outer s H E Z hr=>⟨q5v K a (run K a n),(q0e (q02 2 sc__law_walk.nd (q0k (dv 0) q0b))
  (q0e (q9q 1000000 PassesOwn.leaving (q80 (dv 2) q0b)
  (q0e (q02 3 sc__law_walk.nd (q0k (q0k (dv 0) q0b) (q4d (dv 2) q0b)))
  (q0f (q02 2 sc__law_walk.nd (q0k (dv 3) (q2h q0b (y6h B.b_int (q0a (q0k (dv 1) (q0k (dv 3) q0b)) q0c))))))))
  (q0f (q0o (q40 (q0q hr) (dv 2) q0b))))),(lof q56 hw).2⟩
theorem x02  (A:Ats K mg):Cal P w K mg base (n+1) "_law_refused" ["_law_rows_here"] (spF K (run K a (n+1) q12)):=
 con A._law_refused sc__law_refused (fun ws hw=>(lof q4s hw).1) fun ws hw f cdv A outer s H E Z hr=>⟨q35 K a (run K a n),(q0e (y86 M.m_CircuitError sc__law_refused.nd (i:=1) rfl rfl (fun EE pn xe hx1=>(q0f (q8w (q0n C.graph_of_table hr hx1 (q0a (dv 0) q0c)))))
  (fun e=>(q0f (q0o (q40 (x31 (hr.hm _)) (y48 CH._law_class (hr.hm _) (q0a (dv 1) q0c)) q01)))))
  (q0f (q0o q1s))),(lof q4s hw).2⟩
theorem y4g  {f:Addr}{cdv:Value}{A:Around}{outer:List Env}{s:Shared}{H:Hp}{E:XK}{Z:Zt}(hr:Room n (A.deeper (PyProof.Rows.envOfC "law" (defScope q3d) s.heap.objs.size f cdv)))(hz:Z.H=H/\Z.io=[]):
  DSs Z (cxOf (CX1 P w) P w K mg base ["_law_script", "_law_cell", "_law_rows_here", "_law_size", "_law_many", "_law_handed", "_law_found", "_law_numbers", "_law_number", "_law_other", "_law_apart"] "law" (defScope q3d) f cdv A outer s H E) (fun _=>E) (defBody q3d) (x3j K a (run K a n)):=
 (q0e (q02 1 sc_law.nd (q0n C._law_cell_at hr pass1 (q0a (dv 0) (q0a q0b q0c))))
  (q0e (q02 2 sc_law.nd (q2v (q8x (x:="_law_one") (Nf:=[]) (js:=[]) (sc:=defScope q3d) (N:=["_law_script", "_law_cell", "_law_rows_here", "_law_size", "_law_many", "_law_handed", "_law_found", "_law_numbers", "_law_number", "_law_other", "_law_apart"]) rfl (q4l (dv 0) (q4v q0b) (q4v q0b)) (by decide +kernel)
   (fun _ _ _ _ _ _=>q2x)
   (fun _ _ _ _ _ _=>(q40 (q0q hr) (q4e (dv 0) q0b) q0b))
   (fun _ _ _ _ _=>q29 0 (show(["_law_one"]:List Str).Nodup by decide +kernel)))))
  (q0e (q0x (q80 (q4e (dv 1) q0b) q0b)
  (q0e (q02 3 sc_law.nd (q0n C._law_count hr pass1 (q0a (q4e (q5e (dv 1) q0b) q0b) q0c)))
  (q0e (q0x (q3x (q0q hr) (q4e (q5e (dv 1) q0b) q0b) q0b)
  (q0f (q02 3 sc_law.nd (q0k (q2v (q3l (q0a q0b (q0a q0b (q0a q0b (q0a q0b (q0a q0b (q0a q0b (q0a q0b (q0a (q4e (q5e (dv 1) q0b) q0b) q0c)))))))))) (q0n C._law_mixed hr pass1 (q0a (dv 1) (q0a q0b (q0a q0b q0c)))))))
  q0p)
  (q0f (q02 2 sc_law.nd (q2v (q9r (x:="_law_k") (Nf:=["_law_script"]) (js:=[0]) (sc:=defScope q3d) (N:=["_law_script", "_law_cell", "_law_rows_here", "_law_size", "_law_many", "_law_handed", "_law_found", "_law_numbers", "_law_number", "_law_other", "_law_apart"]) rfl B.b_range (q0a (dv 3) q0c) (by decide +kernel)
   (fun _ _ _ _ _ _=>q2x)
   (fun _ _ _ _ _ _=>(q40 (q0q hr) (q0n C._law_mixed hr passE (q0a (q2h (q0n C._law_cell_at hr passE (q0a (dv 1) (q0a q0b q0c))) (q5e (dv 0) q0b)) (q0a (dv 0) (q0a q0b q0c)))) q0b))
   (fun _ _ _ _ _=>q29 0 (show(["_law_k", "_law_script"]:List Str).Nodup by decide +kernel))))))))
  q0p)
  (q0e (q0x (x9p (q0q hr) (q10 B.b_len (q0a (dv 2) q0c)) (q2v (q3l (q0a q0b (q0a q0b (q0a q0b (q0a q0b (q0a q0b (q0a q0b (q0a q0b (q0a q0b (q0a q0b (q0a q0b (q0a q0b q0c))))))))))))))
  (q0f (q0o (q0n C._law_refused hr pass1 (q0a (dv 2) q0c))))
  q0p)
  (q0e (q02 4 sc_law.nd (x9y (q2v (q3l (q0a q0b (q0a q0b (q0a q0b (q0a q0b (q0a q0b (q0a q0b (q0a q0b (q0a q0b (q0a q0b (q0a q0b (q0a q0b q0c))))))))))))) (q0a (q10 B.b_len (q0a (dv 2) q0c)) q0c)))
  (q0e (q4z 5 sc_law.nd (y5e B.b_list (q0a (dv 2) q0c)))
  (q0e (x4f 6 sc_law.nd (x6k hz.2 fun _=>(y0a C.graph_of_table hr pass1 (q0a (dv 5) q0c))))
  (q0e (q0x (dt_w (q2l (q4b (q0t (q0n C._law_is_least hr pass1 (q0a (dv 6) q0c)))) (q4a (x2j fun _=>(q6y (q0q hr) (dv 5) (dv 2))))))
  (q0f (q0o q1s))
  q0p)
  (q0e (q02 7 sc_law.nd (q2v (y21 rfl B.b_list B.b_range (q0a (q10 B.b_len (q0a (dv 2) q0c)) q0c))))
  (q0e (q0x (q80 (q10 B.b_len (q0a (dv 2) q0c)) q0b)
  (q0f (x5o 7 sc_law.nd (x:="_law_k") (Nf:=["_law_cell", "_law_rows_here"]) (js:=[1,2]) (sc:=defScope q3d) (N:=["_law_script", "_law_cell", "_law_rows_here", "_law_size", "_law_many", "_law_handed", "_law_found", "_law_numbers", "_law_number", "_law_other", "_law_apart"]) rfl B.b_range (q0a q0b q0c) (by decide +kernel)
   (fun _ _ _ _ _ _=>q2x)
   (fun _ _ _ _ _ _=>(q0n C._law_mixed hr passE (q0a (dv 1) (q0a (dv 0) (q0a (q10 B.b_len (q0a (dv 2) q0c)) q0c)))))
   (fun _ _ _ _ _=>q29 0 (show(["_law_k", "_law_cell", "_law_rows_here"]:List Str).Nodup by decide +kernel))))
  q0p)
  (q0e (x3x 8 sc_law.nd PassesOwn.leaving rfl (dv 7)
  (q0f (q0x (q6y (q0q hr) (q0n C._law_walk hr pass1 (q0a (dv 6) (q0a (q0n C._law_row_of hr pass1 (q0a (dv 8) (q0a (dv 4) q0c))) q0c))) (q0k (dv 2) (dv 8)))
  (q0f (q0o q1s))
  q0p)))
  (q0e (x9r 5 (x3w (q0k (dv 2) (q4d (q10 B.b_len (q0a (dv 2) q0c)) q0b))) (q4d (q10 B.b_len (q0a (dv 2) q0c)) q0b))
  (q0e (x4f 9 sc_law.nd (x6k hz.2 fun _=>(y0a C.graph_of_table hr pass1 (q0a (dv 5) q0c))))
  (q0e (q0x (dt_w (q2l (q3x (q0q hr) (dv 9) (dv 6)) (q2l (q6y (q0q hr) (q0n C.graph_of_table hr pass1 (q0a (dv 2) q0c)) (dv 6)) (q4a (q6y (q0q hr) (q0n C.how_many hr pass1 (q0a (dv 6) (q0a (dv 4) q0c))) (x38 (dv 2) (q0a q1s q0c)))))))
  (q0f (q0o q1s))
  q0p)
  (q0e (q02 10 sc_law.nd (q0n C.joined hr pass1 (q0a q01 (q0a (dv 9) (q0a (dv 6) q0c)))))
  (q0e (q0x (dt_w (q2l (q4b (q0t (q0n C._law_is_least hr pass1 (q0a (dv 10) q0c)))) (q4a (q6y (q0q hr) (q0n C.how_many hr pass1 (q0a (q0n C.turned hr pass1 (q0a (dv 6) q0c)) (q0a (dv 4) q0c))) (x38 (dv 2) (q0a q1s q0c))))))
  (q0f (q0o q1s))
  q0p)
  (q0f (q0o (q8k (q40 (q0q hr) (q0n C.how_many hr pass1 (q0a (dv 10) (q0a (dv 4) q0c))) q0b) (x3v (q40 (q0q hr) (q0n C.first_true hr pass1 (q0a (dv 10) (q0a (dv 4) q0c))) (y6o (q1a (q0a q1s q0c)) (dv 4)))))))))))))))))))))))
theorem z1n  (A:Ats K mg):Cal P w K mg base (n+1) "law" ["_law_script"] (spF K (run K a (n+1) q82)):=
 conZ A.law sc_law (fun ws hw=>(lof q7h hw).1) fun ws hw f cdv A outer s H E Z hr hz=>⟨_,y4g B M C CH BM MK hr hz,(lof q7h hw).2⟩
end
theorem allH(A:Ats K mg)(B:Blt mg)(M:Exs K mg a):∀n,CalsH P w K mg base a n
 |0=>⟨trivial,con0H A._law_class⟩
 |n+1=>⟨trivial,x1p A B M⟩
theorem x4w(B:Blt mg)(M:Exs K mg a)(C:Cals P w K mg base a n)(CH:CalsH P w K mg base a n):LamOk P w K mg base n q1e ["pair"] (run K a (n+1) q00) where
 sc:=⟨rfl,rfl,rfl,by decide +kernel,by decide +kernel,by decide +kernel,by decide +kernel⟩
 bind:=fun cl pm c' ctv=>us1 fun _=>rfl
 len:=fun ws h=>by
  rw[q4t]at h;split at h
  ·assumption
  ·exact absurd rfl h
 body:=fun ws h Z f cd cl A outer s H hr=>⟨q3y K a (run K a n),(q0n C.told_of_pair hr passE (q0a (dv 1) (q0a (dv 2) (q0a (dv 3) (q0a (dv 0) q0c))))),by
  rw[q4t]at h |-;split at h
  ·rename_i hl;rw[if_pos hl]
  ·exact absurd rfl h⟩
theorem okl(B:Blt mg)(M:Exs K mg a)(C:Cals P w K mg base a n)(CH:CalsH P w K mg base a n):FnV P w K mg base (CX1 P w) (n+1) (spV K lams (run K a (n+1))):=z06 fun i l h=>by
 unfold lams at h;split at h
 ·cases h;exact⟨_,x4w B M C CH⟩
 ·cases h
theorem all(A:Ats K mg)(B:Blt mg)(M:Exs K mg a)(BM:BMain base mg)(MK:Mks K mg):∀n,Cals P w K mg base a n
 |0=>⟨con0 A.eased_not,con0 A.eased,con0 A.with_truth,con0 A.rows_many,con0X A.least_graph (fun _ _ _ _ h=>z1m (fun _=>rfl) (fun _=>rfl) h),con0X A.number_for (fun _ _ _ _ h=>z1k (fun _ _ _=>rfl) h),con0X A.node_number (fun _ _ _ _ h=>absurd h.1 (w1o 0)),con0 A.node_at,con0 A.is_end,con0 A.check_graph,con0 A.turned,con0 A.other_end,con0 A.joined,con0 A.told_of_pair,con0 A.known_form,con0 A.gone_on,con0 A.how_many,con0 A.first_true,con0 A.places_of,con0 A.is_one_truth,con0 A.graph_of_table,con0 A.told_of_truths,con0 A._law_cell_at,con0 A._law_whole,con0 A._law_mixed,con0 A._law_class,con0 A._law_count,con0 A._law_row_of,con0 A._law_is_node,con0 A._law_reached,con0 A._law_is_least,con0 A._law_walk,con0 A._law_refused,con0 A.law,fnV0⟩
 |n+1=>⟨x4r B M (all A B M BM MK n) (allH A B M n) BM MK A,y3q B M (all A B M BM MK n) (allH A B M n) BM MK A,x25 B M (all A B M BM MK n) (allH A B M n) BM MK A,x4s B M (all A B M BM MK n) (allH A B M n) BM MK A,x1q B M (all A B M BM MK n) (allH A B M n) BM MK A,x26 B M (all A B M BM MK n) (allH A B M n) BM MK A,x1r B M (all A B M BM MK n) (allH A B M n) BM MK A,x75 B M (all A B M BM MK n) (allH A B M n) BM MK A,y0r B M (all A B M BM MK n) (allH A B M n) BM MK A,x1s B M (all A B M BM MK n) (allH A B M n) BM MK A,y0s B M (all A B M BM MK n) (allH A B M n) BM MK A,x4t B M (all A B M BM MK n) (allH A B M n) BM MK A,y0t B M (all A B M BM MK n) (allH A B M n) BM MK A,x0x B M (all A B M BM MK n) (allH A B M n) BM MK A,x27 B M (all A B M BM MK n) (allH A B M n) BM MK A,x76 B M (all A B M BM MK n) (allH A B M n) BM MK A,x5s B M (all A B M BM MK n) (allH A B M n) BM MK A,x28 B M (all A B M BM MK n) (allH A B M n) BM MK A,x4u B M (all A B M BM MK n) (allH A B M n) BM MK A,x0y B M (all A B M BM MK n) (allH A B M n) BM MK A,q9c B M (all A B M BM MK n) (allH A B M n) BM MK A,q9d B M (all A B M BM MK n) (allH A B M n) BM MK A,x0z B M (all A B M BM MK n) (allH A B M n) BM MK A,x29 B M (all A B M BM MK n) (allH A B M n) BM MK A,x3a B M (all A B M BM MK n) (allH A B M n) BM MK A,x3b B M (all A B M BM MK n) (allH A B M n) BM MK A,x3c B M (all A B M BM MK n) (allH A B M n) BM MK A,x1t B M (all A B M BM MK n) (allH A B M n) BM MK A,x00 B M (all A B M BM MK n) (allH A B M n) BM MK A,x01 B M (all A B M BM MK n) (allH A B M n) BM MK A,q97 B M (all A B M BM MK n) (allH A B M n) BM MK A,x4v B M (all A B M BM MK n) (allH A B M n) BM MK A,x02 B M (all A B M BM MK n) (allH A B M n) BM MK A,z1n B M (all A B M BM MK n) (allH A B M n) BM MK A,okl B M (all A B M BM MK n) (allH A B M n)⟩
theorem law_fn{f:Addr}{fd:FuncData}(A:Ats K mg)(B:Blt mg)(M:Exs K mg a)(BM:BMain base mg)(MK:Mks K mg)(F:Fun K "law" "law" q3d f fd)(n:Nat):FnOk P w K mg base (CX1 P w) (n+1) f fd ["_law_script"] (spF K (run K a (n+1) q82)):=
 conFZ F sc_law (fun ws hw=>(lof q7h hw).1) fun ws hw cdv A' outer s H E Z hr hz=>⟨_,y4g B M (all A B M BM MK n) (allH A B M n) BM MK hr hz,(lof q7h hw).2⟩
end
theorem mk{l:PySem.W.OpenLaw}{w:World}{h:Heap}{fa:Addr}(X:K.In h)(G:h.Ns mainGlobals mg)(hfa:mg "law"=some (.ref fa))
  {f0:Addr}{od0 an0:Option Addr}{sl0:Array (Option Value)}{oc0 kV0 dc0 pm0 cd0 ct0:Value}
  {f1:Addr}{od1 an1:Option Addr}{sl1:Array (Option Value)}{oc1 kV1 dc1 pm1 cd1 ct1:Value}
  {f2:Addr}{od2 an2:Option Addr}{sl2:Array (Option Value)}{oc2 kV2 dc2 pm2 cd2 ct2:Value}
  {f3:Addr}{od3 an3:Option Addr}{sl3:Array (Option Value)}{oc3 kV3 dc3 pm3 cd3 ct3:Value}
  {f4:Addr}{od4 an4:Option Addr}{sl4:Array (Option Value)}{oc4 kV4 dc4 pm4 cd4 ct4:Value}
  {f5:Addr}{od5 an5:Option Addr}{sl5:Array (Option Value)}{oc5 kV5 dc5 pm5 cd5 ct5:Value}
  {f6:Addr}{od6 an6:Option Addr}{sl6:Array (Option Value)}{oc6 kV6 dc6 pm6 cd6 ct6:Value}
  {f7:Addr}{od7 an7:Option Addr}{sl7:Array (Option Value)}{oc7 kV7 dc7 pm7 cd7 ct7:Value}
  {f8:Addr}{od8 an8:Option Addr}{sl8:Array (Option Value)}{oc8 kV8 dc8 pm8 cd8 ct8:Value}
  {f9:Addr}{od9 an9:Option Addr}{sl9:Array (Option Value)}{oc9 kV9 dc9 pm9 cd9 ct9:Value}
  {f10:Addr}{od10 an10:Option Addr}{sl10:Array (Option Value)}{oc10 kV10 dc10 pm10 cd10 ct10:Value}
  {f11:Addr}{od11 an11:Option Addr}{sl11:Array (Option Value)}{oc11 kV11 dc11 pm11 cd11 ct11:Value}
  {f12:Addr}{od12 an12:Option Addr}{sl12:Array (Option Value)}{oc12 kV12 dc12 pm12 cd12 ct12:Value}
  {f13:Addr}{od13 an13:Option Addr}{sl13:Array (Option Value)}{oc13 kV13 dc13 pm13 cd13 ct13:Value}
  {f14:Addr}{od14 an14:Option Addr}{sl14:Array (Option Value)}{oc14 kV14 dc14 pm14 cd14 ct14:Value}
  {f15:Addr}{od15 an15:Option Addr}{sl15:Array (Option Value)}{oc15 kV15 dc15 pm15 cd15 ct15:Value}
  {f16:Addr}{od16 an16:Option Addr}{sl16:Array (Option Value)}{oc16 kV16 dc16 pm16 cd16 ct16:Value}
  {f17:Addr}{od17 an17:Option Addr}{sl17:Array (Option Value)}{oc17 kV17 dc17 pm17 cd17 ct17:Value}
  {f18:Addr}{od18 an18:Option Addr}{sl18:Array (Option Value)}{oc18 kV18 dc18 pm18 cd18 ct18:Value}
  {f19:Addr}{od19 an19:Option Addr}{sl19:Array (Option Value)}{oc19 kV19 dc19 pm19 cd19 ct19:Value}
  {f20:Addr}{od20 an20:Option Addr}{sl20:Array (Option Value)}{oc20 kV20 dc20 pm20 cd20 ct20:Value}
  {f21:Addr}{od21 an21:Option Addr}{sl21:Array (Option Value)}{oc21 kV21 dc21 pm21 cd21 ct21:Value}
  {f22:Addr}{od22 an22:Option Addr}{sl22:Array (Option Value)}{oc22 kV22 dc22 pm22 cd22 ct22:Value}
  {f23:Addr}{od23 an23:Option Addr}{sl23:Array (Option Value)}{oc23 kV23 dc23 pm23 cd23 ct23:Value}
  {f24:Addr}{od24 an24:Option Addr}{sl24:Array (Option Value)}{oc24 kV24 dc24 pm24 cd24 ct24:Value}
  {f25:Addr}{od25 an25:Option Addr}{sl25:Array (Option Value)}{oc25 kV25 dc25 pm25 cd25 ct25:Value}
  {f26:Addr}{od26 an26:Option Addr}{sl26:Array (Option Value)}{oc26 kV26 dc26 pm26 cd26 ct26:Value}
  {f27:Addr}{od27 an27:Option Addr}{sl27:Array (Option Value)}{oc27 kV27 dc27 pm27 cd27 ct27:Value}
  {f28:Addr}{od28 an28:Option Addr}{sl28:Array (Option Value)}{oc28 kV28 dc28 pm28 cd28 ct28:Value}
  {f29:Addr}{od29 an29:Option Addr}{sl29:Array (Option Value)}{oc29 kV29 dc29 pm29 cd29 ct29:Value}
  {f30:Addr}{od30 an30:Option Addr}{sl30:Array (Option Value)}{oc30 kV30 dc30 pm30 cd30 ct30:Value}
  {f31:Addr}{od31 an31:Option Addr}{sl31:Array (Option Value)}{oc31 kV31 dc31 pm31 cd31 ct31:Value}
  {f32:Addr}{od32 an32:Option Addr}{sl32:Array (Option Value)}{oc32 kV32 dc32 pm32 cd32 ct32:Value}
  {f33:Addr}{od33 an33:Option Addr}{sl33:Array (Option Value)}{oc33 kV33 dc33 pm33 cd33 ct33:Value}
  {A_CircuitError:Addr}
  {A_NoPlace:Addr}
  {A_NoName:Addr}
  {A_BadText:Addr}
  {A_NoRow:Addr}
  {A_NoTable:Addr}
  {A_UnlikeSizes:Addr}
  {A_TooGreat:Addr}
  {A_NoMachine:Addr}
  {A_BadSheet:Addr}
  {A_MOST_PLACES:Value}
  {cc12 PP12:Addr}
  (a0:PySem.W.nsIn K mainGlobals "eased_not"=some (some (.ref f0)))
  (l0:K.lookup f0=some ⟨oc0,od0,.func (PySem.W.fnOf "eased_not" "eased_not" (defArgs q2q) (defBody q2q) (defScope q2q) .none kV0 dc0 pm0 an0 cd0 ct0),sl0⟩)
  (c0:PySem.W.codeIn K cd0 "eased_not"=true)
  (k0:keepIn K (.ref f0)=true)
  (a1:PySem.W.nsIn K mainGlobals "eased"=some (some (.ref f1)))
  (l1:K.lookup f1=some ⟨oc1,od1,.func (PySem.W.fnOf "eased" "eased" (defArgs q5h) (defBody q5h) (defScope q5h) .none kV1 dc1 pm1 an1 cd1 ct1),sl1⟩)
  (c1:PySem.W.codeIn K cd1 "eased"=true)
  (k1:keepIn K (.ref f1)=true)
  (a2:PySem.W.nsIn K mainGlobals "with_truth"=some (some (.ref f2)))
  (l2:K.lookup f2=some ⟨oc2,od2,.func (PySem.W.fnOf "with_truth" "with_truth" (defArgs q16) (defBody q16) (defScope q16) .none kV2 dc2 pm2 an2 cd2 ct2),sl2⟩)
  (c2:PySem.W.codeIn K cd2 "with_truth"=true)
  (k2:keepIn K (.ref f2)=true)
  (a3:PySem.W.nsIn K mainGlobals "rows_many"=some (some (.ref f3)))
  (l3:K.lookup f3=some ⟨oc3,od3,.func (PySem.W.fnOf "rows_many" "rows_many" (defArgs q2r) (defBody q2r) (defScope q2r) .none kV3 dc3 pm3 an3 cd3 ct3),sl3⟩)
  (c3:PySem.W.codeIn K cd3 "rows_many"=true)
  (k3:keepIn K (.ref f3)=true)
  (a4:PySem.W.nsIn K mainGlobals "least_graph"=some (some (.ref f4)))
  (l4:K.lookup f4=some ⟨oc4,od4,.func (PySem.W.fnOf "least_graph" "least_graph" (defArgs q1v) (defBody q1v) (defScope q1v) .none kV4 dc4 pm4 an4 cd4 ct4),sl4⟩)
  (c4:PySem.W.codeIn K cd4 "least_graph"=true)
  (k4:keepIn K (.ref f4)=true)
  (a5:PySem.W.nsIn K mainGlobals "number_for"=some (some (.ref f5)))
  (l5:K.lookup f5=some ⟨oc5,od5,.func (PySem.W.fnOf "number_for" "number_for" (defArgs q17) (defBody q17) (defScope q17) .none kV5 dc5 pm5 an5 cd5 ct5),sl5⟩)
  (c5:PySem.W.codeIn K cd5 "number_for"=true)
  (k5:keepIn K (.ref f5)=true)
  (a6:PySem.W.nsIn K mainGlobals "node_number"=some (some (.ref f6)))
  (l6:K.lookup f6=some ⟨oc6,od6,.func (PySem.W.fnOf "node_number" "node_number" (defArgs q1w) (defBody q1w) (defScope q1w) .none kV6 dc6 pm6 an6 cd6 ct6),sl6⟩)
  (c6:PySem.W.codeIn K cd6 "node_number"=true)
  (k6:keepIn K (.ref f6)=true)
  (a7:PySem.W.nsIn K mainGlobals "node_at"=some (some (.ref f7)))
  (l7:K.lookup f7=some ⟨oc7,od7,.func (PySem.W.fnOf "node_at" "node_at" (defArgs q3r) (defBody q3r) (defScope q3r) .none kV7 dc7 pm7 an7 cd7 ct7),sl7⟩)
  (c7:PySem.W.codeIn K cd7 "node_at"=true)
  (k7:keepIn K (.ref f7)=true)
  (a8:PySem.W.nsIn K mainGlobals "is_end"=some (some (.ref f8)))
  (l8:K.lookup f8=some ⟨oc8,od8,.func (PySem.W.fnOf "is_end" "is_end" (defArgs q4n) (defBody q4n) (defScope q4n) .none kV8 dc8 pm8 an8 cd8 ct8),sl8⟩)
  (c8:PySem.W.codeIn K cd8 "is_end"=true)
  (k8:keepIn K (.ref f8)=true)
  (a9:PySem.W.nsIn K mainGlobals "check_graph"=some (some (.ref f9)))
  (l9:K.lookup f9=some ⟨oc9,od9,.func (PySem.W.fnOf "check_graph" "check_graph" (defArgs q1l) (defBody q1l) (defScope q1l) .none kV9 dc9 pm9 an9 cd9 ct9),sl9⟩)
  (c9:PySem.W.codeIn K cd9 "check_graph"=true)
  (k9:keepIn K (.ref f9)=true)
  (a10:PySem.W.nsIn K mainGlobals "turned"=some (some (.ref f10)))
  (l10:K.lookup f10=some ⟨oc10,od10,.func (PySem.W.fnOf "turned" "turned" (defArgs q3s) (defBody q3s) (defScope q3s) .none kV10 dc10 pm10 an10 cd10 ct10),sl10⟩)
  (c10:PySem.W.codeIn K cd10 "turned"=true)
  (k10:keepIn K (.ref f10)=true)
  (a11:PySem.W.nsIn K mainGlobals "other_end"=some (some (.ref f11)))
  (l11:K.lookup f11=some ⟨oc11,od11,.func (PySem.W.fnOf "other_end" "other_end" (defArgs q2s) (defBody q2s) (defScope q2s) .none kV11 dc11 pm11 an11 cd11 ct11),sl11⟩)
  (c11:PySem.W.codeIn K cd11 "other_end"=true)
  (k11:keepIn K (.ref f11)=true)
  (a12:PySem.W.nsIn K mainGlobals "joined"=some (some (.ref f12)))
  (l12:K.lookup f12=some ⟨oc12,od12,.func (PySem.W.fnOf "joined" "joined" (defArgs q3b) (defBody q3b) (defScope q3b) .none kV12 dc12 pm12 an12 cd12 ct12),sl12⟩)
  (c12:PySem.W.codeIn K cd12 "joined"=true)
  (k12:keepIn K (.ref f12)=true)
  (a13:PySem.W.nsIn K mainGlobals "told_of_pair"=some (some (.ref f13)))
  (l13:K.lookup f13=some ⟨oc13,od13,.func (PySem.W.fnOf "told_of_pair" "told_of_pair" (defArgs q07) (defBody q07) (defScope q07) .none kV13 dc13 pm13 an13 cd13 ct13),sl13⟩)
  (c13:PySem.W.codeIn K cd13 "told_of_pair"=true)
  (k13:keepIn K (.ref f13)=true)
  (a14:PySem.W.nsIn K mainGlobals "known_form"=some (some (.ref f14)))
  (l14:K.lookup f14=some ⟨oc14,od14,.func (PySem.W.fnOf "known_form" "known_form" (defArgs q18) (defBody q18) (defScope q18) .none kV14 dc14 pm14 an14 cd14 ct14),sl14⟩)
  (c14:PySem.W.codeIn K cd14 "known_form"=true)
  (k14:keepIn K (.ref f14)=true)
  (a15:PySem.W.nsIn K mainGlobals "gone_on"=some (some (.ref f15)))
  (l15:K.lookup f15=some ⟨oc15,od15,.func (PySem.W.fnOf "gone_on" "gone_on" (defArgs q3t) (defBody q3t) (defScope q3t) .none kV15 dc15 pm15 an15 cd15 ct15),sl15⟩)
  (c15:PySem.W.codeIn K cd15 "gone_on"=true)
  (k15:keepIn K (.ref f15)=true)
  (a16:PySem.W.nsIn K mainGlobals "how_many"=some (some (.ref f16)))
  (l16:K.lookup f16=some ⟨oc16,od16,.func (PySem.W.fnOf "how_many" "how_many" (defArgs q3c) (defBody q3c) (defScope q3c) .none kV16 dc16 pm16 an16 cd16 ct16),sl16⟩)
  (c16:PySem.W.codeIn K cd16 "how_many"=true)
  (k16:keepIn K (.ref f16)=true)
  (a17:PySem.W.nsIn K mainGlobals "first_true"=some (some (.ref f17)))
  (l17:K.lookup f17=some ⟨oc17,od17,.func (PySem.W.fnOf "first_true" "first_true" (defArgs q19) (defBody q19) (defScope q19) .none kV17 dc17 pm17 an17 cd17 ct17),sl17⟩)
  (c17:PySem.W.codeIn K cd17 "first_true"=true)
  (k17:keepIn K (.ref f17)=true)
  (a18:PySem.W.nsIn K mainGlobals "places_of"=some (some (.ref f18)))
  (l18:K.lookup f18=some ⟨oc18,od18,.func (PySem.W.fnOf "places_of" "places_of" (defArgs q2t) (defBody q2t) (defScope q2t) .none kV18 dc18 pm18 an18 cd18 ct18),sl18⟩)
  (c18:PySem.W.codeIn K cd18 "places_of"=true)
  (k18:keepIn K (.ref f18)=true)
  (a19:PySem.W.nsIn K mainGlobals "is_one_truth"=some (some (.ref f19)))
  (l19:K.lookup f19=some ⟨oc19,od19,.func (PySem.W.fnOf "is_one_truth" "is_one_truth" (defArgs q1j) (defBody q1j) (defScope q1j) .none kV19 dc19 pm19 an19 cd19 ct19),sl19⟩)
  (c19:PySem.W.codeIn K cd19 "is_one_truth"=true)
  (k19:keepIn K (.ref f19)=true)
  (a20:PySem.W.nsIn K mainGlobals "graph_of_table"=some (some (.ref f20)))
  (l20:K.lookup f20=some ⟨oc20,od20,.func (PySem.W.fnOf "graph_of_table" "graph_of_table" (defArgs q1g) (defBody q1g) (defScope q1g) .none kV20 dc20 pm20 an20 cd20 ct20),sl20⟩)
  (c20:PySem.W.codeIn K cd20 "graph_of_table"=true)
  (k20:keepIn K (.ref f20)=true)
  (a21:PySem.W.nsIn K mainGlobals "told_of_truths"=some (some (.ref f21)))
  (l21:K.lookup f21=some ⟨oc21,od21,.func (PySem.W.fnOf "told_of_truths" "told_of_truths" (defArgs q1h) (defBody q1h) (defScope q1h) .none kV21 dc21 pm21 an21 cd21 ct21),sl21⟩)
  (c21:PySem.W.codeIn K cd21 "told_of_truths"=true)
  (k21:keepIn K (.ref f21)=true)
  (a22:PySem.W.nsIn K mainGlobals "_law_cell_at"=some (some (.ref f22)))
  (l22:K.lookup f22=some ⟨oc22,od22,.func (PySem.W.fnOf "_law_cell_at" "_law_cell_at" (defArgs q1o) (defBody q1o) (defScope q1o) .none kV22 dc22 pm22 an22 cd22 ct22),sl22⟩)
  (c22:PySem.W.codeIn K cd22 "_law_cell_at"=true)
  (k22:keepIn K (.ref f22)=true)
  (a23:PySem.W.nsIn K mainGlobals "_law_whole"=some (some (.ref f23)))
  (l23:K.lookup f23=some ⟨oc23,od23,.func (PySem.W.fnOf "_law_whole" "_law_whole" (defArgs q2a) (defBody q2a) (defScope q2a) .none kV23 dc23 pm23 an23 cd23 ct23),sl23⟩)
  (c23:PySem.W.codeIn K cd23 "_law_whole"=true)
  (k23:keepIn K (.ref f23)=true)
  (a24:PySem.W.nsIn K mainGlobals "_law_mixed"=some (some (.ref f24)))
  (l24:K.lookup f24=some ⟨oc24,od24,.func (PySem.W.fnOf "_law_mixed" "_law_mixed" (defArgs q2b) (defBody q2b) (defScope q2b) .none kV24 dc24 pm24 an24 cd24 ct24),sl24⟩)
  (c24:PySem.W.codeIn K cd24 "_law_mixed"=true)
  (k24:keepIn K (.ref f24)=true)
  (a25:PySem.W.nsIn K mainGlobals "_law_class"=some (some (.ref f25)))
  (l25:K.lookup f25=some ⟨oc25,od25,.func (PySem.W.fnOf "_law_class" "_law_class" (defArgs q2c) (defBody q2c) (defScope q2c) .none kV25 dc25 pm25 an25 cd25 ct25),sl25⟩)
  (c25:PySem.W.codeIn K cd25 "_law_class"=true)
  (k25:keepIn K (.ref f25)=true)
  (a26:PySem.W.nsIn K mainGlobals "_law_count"=some (some (.ref f26)))
  (l26:K.lookup f26=some ⟨oc26,od26,.func (PySem.W.fnOf "_law_count" "_law_count" (defArgs q2d) (defBody q2d) (defScope q2d) .none kV26 dc26 pm26 an26 cd26 ct26),sl26⟩)
  (c26:PySem.W.codeIn K cd26 "_law_count"=true)
  (k26:keepIn K (.ref f26)=true)
  (a27:PySem.W.nsIn K mainGlobals "_law_row_of"=some (some (.ref f27)))
  (l27:K.lookup f27=some ⟨oc27,od27,.func (PySem.W.fnOf "_law_row_of" "_law_row_of" (defArgs q1x) (defBody q1x) (defScope q1x) .none kV27 dc27 pm27 an27 cd27 ct27),sl27⟩)
  (c27:PySem.W.codeIn K cd27 "_law_row_of"=true)
  (k27:keepIn K (.ref f27)=true)
  (a28:PySem.W.nsIn K mainGlobals "_law_is_node"=some (some (.ref f28)))
  (l28:K.lookup f28=some ⟨oc28,od28,.func (PySem.W.fnOf "_law_is_node" "_law_is_node" (defArgs q1k) (defBody q1k) (defScope q1k) .none kV28 dc28 pm28 an28 cd28 ct28),sl28⟩)
  (c28:PySem.W.codeIn K cd28 "_law_is_node"=true)
  (k28:keepIn K (.ref f28)=true)
  (a29:PySem.W.nsIn K mainGlobals "_law_reached"=some (some (.ref f29)))
  (l29:K.lookup f29=some ⟨oc29,od29,.func (PySem.W.fnOf "_law_reached" "_law_reached" (defArgs q1p) (defBody q1p) (defScope q1p) .none kV29 dc29 pm29 an29 cd29 ct29),sl29⟩)
  (c29:PySem.W.codeIn K cd29 "_law_reached"=true)
  (k29:keepIn K (.ref f29)=true)
  (a30:PySem.W.nsIn K mainGlobals "_law_is_least"=some (some (.ref f30)))
  (l30:K.lookup f30=some ⟨oc30,od30,.func (PySem.W.fnOf "_law_is_least" "_law_is_least" (defArgs q08) (defBody q08) (defScope q08) .none kV30 dc30 pm30 an30 cd30 ct30),sl30⟩)
  (c30:PySem.W.codeIn K cd30 "_law_is_least"=true)
  (k30:keepIn K (.ref f30)=true)
  (a31:PySem.W.nsIn K mainGlobals "_law_walk"=some (some (.ref f31)))
  (l31:K.lookup f31=some ⟨oc31,od31,.func (PySem.W.fnOf "_law_walk" "_law_walk" (defArgs q2u) (defBody q2u) (defScope q2u) .none kV31 dc31 pm31 an31 cd31 ct31),sl31⟩)
  (c31:PySem.W.codeIn K cd31 "_law_walk"=true)
  (k31:keepIn K (.ref f31)=true)
  (a32:PySem.W.nsIn K mainGlobals "_law_refused"=some (some (.ref f32)))
  (l32:K.lookup f32=some ⟨oc32,od32,.func (PySem.W.fnOf "_law_refused" "_law_refused" (defArgs q1q) (defBody q1q) (defScope q1q) .none kV32 dc32 pm32 an32 cd32 ct32),sl32⟩)
  (c32:PySem.W.codeIn K cd32 "_law_refused"=true)
  (k32:keepIn K (.ref f32)=true)
  (a33:PySem.W.nsIn K mainGlobals "law"=some (some (.ref f33)))
  (l33:K.lookup f33=some ⟨oc33,od33,.func (PySem.W.fnOf "law" "law" (defArgs q3d) (defBody q3d) (defScope q3d) .none kV33 dc33 pm33 an33 cd33 ct33),sl33⟩)
  (c33:PySem.W.codeIn K cd33 "law"=true)
  (k33:keepIn K (.ref f33)=true)
  (v12:cd12=.ref cc12)
  (h12:codeHdIn K cc12 PP12=true)
  (m12:(mainGlobals,markO PP12 (("joined"++".<locals>.")++"<lambda>"))∈K)
  (n_CircuitError:PySem.W.nsIn K mainGlobals "CircuitError"=some (some (.ref A_CircuitError)))
  (n_NoPlace:PySem.W.nsIn K mainGlobals "NoPlace"=some (some (.ref A_NoPlace)))
  (n_NoName:PySem.W.nsIn K mainGlobals "NoName"=some (some (.ref A_NoName)))
  (n_BadText:PySem.W.nsIn K mainGlobals "BadText"=some (some (.ref A_BadText)))
  (n_NoRow:PySem.W.nsIn K mainGlobals "NoRow"=some (some (.ref A_NoRow)))
  (n_NoTable:PySem.W.nsIn K mainGlobals "NoTable"=some (some (.ref A_NoTable)))
  (n_UnlikeSizes:PySem.W.nsIn K mainGlobals "UnlikeSizes"=some (some (.ref A_UnlikeSizes)))
  (n_TooGreat:PySem.W.nsIn K mainGlobals "TooGreat"=some (some (.ref A_TooGreat)))
  (n_NoMachine:PySem.W.nsIn K mainGlobals "NoMachine"=some (some (.ref A_NoMachine)))
  (n_BadSheet:PySem.W.nsIn K mainGlobals "BadSheet"=some (some (.ref A_BadSheet)))
  (n_MOST_PLACES:PySem.W.nsIn K mainGlobals "MOST_PLACES"=some (some A_MOST_PLACES))
  (z_ValueError:PySem.W.nsIn K mainGlobals "ValueError"=some none)
  (z_all:PySem.W.nsIn K mainGlobals "all"=some none)
  (z_any:PySem.W.nsIn K mainGlobals "any"=some none)
  (z_bool:PySem.W.nsIn K mainGlobals "bool"=some none)
  (z_int:PySem.W.nsIn K mainGlobals "int"=some none)
  (z_isinstance:PySem.W.nsIn K mainGlobals "isinstance"=some none)
  (z_len:PySem.W.nsIn K mainGlobals "len"=some none)
  (z_list:PySem.W.nsIn K mainGlobals "list"=some none)
  (z_max:PySem.W.nsIn K mainGlobals "max"=some none)
  (z_min:PySem.W.nsIn K mainGlobals "min"=some none)
  (z_range:PySem.W.nsIn K mainGlobals "range"=some none)
  (z_tuple:PySem.W.nsIn K mainGlobals "tuple"=some none)
  (g_MOST_PLACES:conIn K (.int 10) A_MOST_PLACES=true)
  (e_NoPlace:excIn K A_NoPlace A_CircuitError=true)
  (e_NoTable:excIn K A_NoTable A_CircuitError=true)
  (c_NoPlace:excClsIn K A_NoPlace=true)
  (x_NoPlace_CircuitError:exmOne K (.ref A_NoPlace) (.ref A_CircuitError)=some true)
  (k_NoPlace_NoPlace:kitOne K (.ref A_NoPlace) (.ref A_NoPlace)=some true)
  (k_NoPlace_NoName:kitOne K (.ref A_NoPlace) (.ref A_NoName)=some false)
  (k_NoPlace_BadText:kitOne K (.ref A_NoPlace) (.ref A_BadText)=some false)
  (k_NoPlace_NoRow:kitOne K (.ref A_NoPlace) (.ref A_NoRow)=some false)
  (k_NoPlace_NoTable:kitOne K (.ref A_NoPlace) (.ref A_NoTable)=some false)
  (k_NoPlace_UnlikeSizes:kitOne K (.ref A_NoPlace) (.ref A_UnlikeSizes)=some false)
  (k_NoPlace_TooGreat:kitOne K (.ref A_NoPlace) (.ref A_TooGreat)=some false)
  (k_NoPlace_NoMachine:kitOne K (.ref A_NoPlace) (.ref A_NoMachine)=some false)
  (k_NoPlace_BadSheet:kitOne K (.ref A_NoPlace) (.ref A_BadSheet)=some false)
  (k_NoPlace_ValueError:kitOne K (.ref A_NoPlace) (.type "ValueError")=some true)
  (c_NoTable:excClsIn K A_NoTable=true)
  (x_NoTable_CircuitError:exmOne K (.ref A_NoTable) (.ref A_CircuitError)=some true)
  (k_NoTable_NoPlace:kitOne K (.ref A_NoTable) (.ref A_NoPlace)=some false)
  (k_NoTable_NoName:kitOne K (.ref A_NoTable) (.ref A_NoName)=some false)
  (k_NoTable_BadText:kitOne K (.ref A_NoTable) (.ref A_BadText)=some false)
  (k_NoTable_NoRow:kitOne K (.ref A_NoTable) (.ref A_NoRow)=some false)
  (k_NoTable_NoTable:kitOne K (.ref A_NoTable) (.ref A_NoTable)=some true)
  (k_NoTable_UnlikeSizes:kitOne K (.ref A_NoTable) (.ref A_UnlikeSizes)=some false)
  (k_NoTable_TooGreat:kitOne K (.ref A_NoTable) (.ref A_TooGreat)=some false)
  (k_NoTable_NoMachine:kitOne K (.ref A_NoTable) (.ref A_NoMachine)=some false)
  (k_NoTable_BadSheet:kitOne K (.ref A_NoTable) (.ref A_BadSheet)=some false)
  (k_NoTable_ValueError:kitOne K (.ref A_NoTable) (.type "ValueError")=some true)
  (t_NoneType_int:kitOne K (.type "NoneType") (.type "int")=some false)
  (t_bool_int:kitOne K (.type "bool") (.type "int")=some true)
  (t_int_int:kitOne K (.type "int") (.type "int")=some true)
  (t_str_int:kitOne K (.type "str") (.type "int")=some false)
  (t_tuple_int:kitOne K (.type "tuple") (.type "int")=some false)
  (t_list_int:kitOne K (.type "list") (.type "int")=some false)
  (t_NoneType_bool:kitOne K (.type "NoneType") (.type "bool")=some false)
  (t_bool_bool:kitOne K (.type "bool") (.type "bool")=some true)
  (t_int_bool:kitOne K (.type "int") (.type "bool")=some false)
  (t_str_bool:kitOne K (.type "str") (.type "bool")=some false)
  (t_tuple_bool:kitOne K (.type "tuple") (.type "bool")=some false)
  (t_list_bool:kitOne K (.type "list") (.type "bool")=some false)
  (t_NoneType_tuple:kitOne K (.type "NoneType") (.type "tuple")=some false)
  (t_bool_tuple:kitOne K (.type "bool") (.type "tuple")=some false)
  (t_int_tuple:kitOne K (.type "int") (.type "tuple")=some false)
  (t_str_tuple:kitOne K (.type "str") (.type "tuple")=some false)
  (t_tuple_tuple:kitOne K (.type "tuple") (.type "tuple")=some true)
  (t_list_tuple:kitOne K (.type "list") (.type "tuple")=some false)
  (t_NoneType_list:kitOne K (.type "NoneType") (.type "list")=some false)
  (t_bool_list:kitOne K (.type "bool") (.type "list")=some false)
  (t_int_list:kitOne K (.type "int") (.type "list")=some false)
  (t_str_list:kitOne K (.type "str") (.type "list")=some false)
  (t_tuple_list:kitOne K (.type "tuple") (.type "list")=some false)
  (t_list_list:kitOne K (.type "list") (.type "list")=some true)
  (nt:NoTup K)
  (n:Nat)(hL:∀a:Adr,Exs K mg a->∀ns:List Int,ns.length<=63->run K a (n+1) q82 [.lst (ns.map .int)]=.ok (.fr (.bl true))):
  ∃fd:FuncData,(∀(s:Shared)(v:Value),BindsTo s fd ⟨[v],[]⟩ [("_law_script", v)])/\∀base:Heap,K.In base->base.Ns mainGlobals mg->BMain base mg->FnOk l.prog w K mg base (CX1 l.prog w) (n+1) fa fd ["_law_script"] (spLaw K):=by
 have e:=hfa.symm.trans (mg_of X G a33);cases e
 have A:Ats K mg:=⟨⟨⟨_,_,q0i (st:=q2q) l0 c0 k0,mg_of X G a0,(q0i (st:=q2q) l0 c0 k0).binds (ps:=["form"]) fun _ _ _ _ _ _=>us1 fun _=>rfl⟩⟩,
  ⟨⟨_,_,q0i (st:=q5h) l1 c1 k1,mg_of X G a1,(q0i (st:=q5h) l1 c1 k1).binds (ps:=["word", "form", "other"]) fun _ _ _ _ _ _=>us3 fun _ _ _=>rfl⟩⟩,
  ⟨⟨_,_,q0i (st:=q16) l2 c2 k2,mg_of X G a2,(q0i (st:=q16) l2 c2 k2).binds (ps:=["word", "truth", "form"]) fun _ _ _ _ _ _=>us3 fun _ _ _=>rfl⟩⟩,
  ⟨⟨_,_,q0i (st:=q2r) l3 c3 k3,mg_of X G a3,(q0i (st:=q2r) l3 c3 k3).binds (ps:=["many"]) fun _ _ _ _ _ _=>us1 fun _=>rfl⟩⟩,
  ⟨⟨_,_,q0i (st:=q1v) l4 c4 k4,mg_of X G a4,(q0i (st:=q1v) l4 c4 k4).binds (ps:=["begin", "ask"]) fun _ _ _ _ _ _=>us2 fun _ _=>rfl⟩⟩,
  ⟨⟨_,_,q0i (st:=q17) l5 c5 k5,mg_of X G a5,(q0i (st:=q17) l5 c5 k5).binds (ps:=["thing", "ask", "nodes", "numbers", "seen"]) fun _ _ _ _ _ _=>us5 fun _ _ _ _ _=>rfl⟩⟩,
  ⟨⟨_,_,q0i (st:=q1w) l6 c6 k6,mg_of X G a6,(q0i (st:=q1w) l6 c6 k6).binds (ps:=["node", "nodes", "numbers"]) fun _ _ _ _ _ _=>us3 fun _ _ _=>rfl⟩⟩,
  ⟨⟨_,_,q0i (st:=q3r) l7 c7 k7,mg_of X G a7,(q0i (st:=q3r) l7 c7 k7).binds (ps:=["graph", "number"]) fun _ _ _ _ _ _=>us2 fun _ _=>rfl⟩⟩,
  ⟨⟨_,_,q0i (st:=q4n) l8 c8 k8,mg_of X G a8,(q0i (st:=q4n) l8 c8 k8).binds (ps:=["number"]) fun _ _ _ _ _ _=>us1 fun _=>rfl⟩⟩,
  ⟨⟨_,_,q0i (st:=q1l) l9 c9 k9,mg_of X G a9,(q0i (st:=q1l) l9 c9 k9).binds (ps:=["graph", "many"]) fun _ _ _ _ _ _=>us2 fun _ _=>rfl⟩⟩,
  ⟨⟨_,_,q0i (st:=q3s) l10 c10 k10,mg_of X G a10,(q0i (st:=q3s) l10 c10 k10).binds (ps:=["graph"]) fun _ _ _ _ _ _=>us1 fun _=>rfl⟩⟩,
  ⟨⟨_,_,q0i (st:=q2s) l11 c11 k11,mg_of X G a11,(q0i (st:=q2s) l11 c11 k11).binds (ps:=["number"]) fun _ _ _ _ _ _=>us1 fun _=>rfl⟩⟩,
  ⟨⟨_,_,q0i (st:=q3b) l12 c12 k12,mg_of X G a12,(q0i (st:=q3b) l12 c12 k12).binds (ps:=["word", "graph", "other"]) fun _ _ _ _ _ _=>us3 fun _ _ _=>rfl⟩⟩,
  ⟨⟨_,_,q0i (st:=q07) l13 c13 k13,mg_of X G a13,(q0i (st:=q07) l13 c13 k13).binds (ps:=["word", "graph", "other", "pair"]) fun _ _ _ _ _ _=>us4 fun _ _ _ _=>rfl⟩⟩,
  ⟨⟨_,_,q0i (st:=q18) l14 c14 k14,mg_of X G a14,(q0i (st:=q18) l14 c14 k14).binds (ps:=["number"]) fun _ _ _ _ _ _=>us1 fun _=>rfl⟩⟩,
  ⟨⟨_,_,q0i (st:=q3t) l15 c15 k15,mg_of X G a15,(q0i (st:=q3t) l15 c15 k15).binds (ps:=["graph", "number", "place", "truth"]) fun _ _ _ _ _ _=>us4 fun _ _ _ _=>rfl⟩⟩,
  ⟨⟨_,_,q0i (st:=q3c) l16 c16 k16,mg_of X G a16,(q0i (st:=q3c) l16 c16 k16).binds (ps:=["graph", "many"]) fun _ _ _ _ _ _=>us2 fun _ _=>rfl⟩⟩,
  ⟨⟨_,_,q0i (st:=q19) l17 c17 k17,mg_of X G a17,(q0i (st:=q19) l17 c17 k17).binds (ps:=["graph", "many"]) fun _ _ _ _ _ _=>us2 fun _ _=>rfl⟩⟩,
  ⟨⟨_,_,q0i (st:=q2t) l18 c18 k18,mg_of X G a18,(q0i (st:=q2t) l18 c18 k18).binds (ps:=["table"]) fun _ _ _ _ _ _=>us1 fun _=>rfl⟩⟩,
  ⟨⟨_,_,q0i (st:=q1j) l19 c19 k19,mg_of X G a19,(q0i (st:=q1j) l19 c19 k19).binds (ps:=["truths"]) fun _ _ _ _ _ _=>us1 fun _=>rfl⟩⟩,
  ⟨⟨_,_,q0i (st:=q1g) l20 c20 k20,mg_of X G a20,(q0i (st:=q1g) l20 c20 k20).binds (ps:=["table"]) fun _ _ _ _ _ _=>us1 fun _=>rfl⟩⟩,
  ⟨⟨_,_,q0i (st:=q1h) l21 c21 k21,mg_of X G a21,(q0i (st:=q1h) l21 c21 k21).binds (ps:=["thing"]) fun _ _ _ _ _ _=>us1 fun _=>rfl⟩⟩,
  ⟨⟨_,_,q0i (st:=q1o) l22 c22 k22,mg_of X G a22,(q0i (st:=q1o) l22 c22 k22).binds (ps:=["_law_script", "_law_k"]) fun _ _ _ _ _ _=>us2 fun _ _=>rfl⟩⟩,
  ⟨⟨_,_,q0i (st:=q2a) l23 c23 k23,mg_of X G a23,(q0i (st:=q2a) l23 c23 k23).binds (ps:=["_law_found"]) fun _ _ _ _ _ _=>us1 fun _=>rfl⟩⟩,
  ⟨⟨_,_,q0i (st:=q2b) l24 c24 k24,mg_of X G a24,(q0i (st:=q2b) l24 c24 k24).binds (ps:=["_law_cell", "_law_k", "_law_many"]) fun _ _ _ _ _ _=>us3 fun _ _ _=>rfl⟩⟩,
  ⟨⟨_,_,q0i (st:=q2c) l25 c25 k25,mg_of X G a25,(q0i (st:=q2c) l25 c25 k25).binds (ps:=["_law_e"]) fun _ _ _ _ _ _=>us1 fun _=>rfl⟩⟩,
  ⟨⟨_,_,q0i (st:=q2d) l26 c26 k26,mg_of X G a26,(q0i (st:=q2d) l26 c26 k26).binds (ps:=["_law_many"]) fun _ _ _ _ _ _=>us1 fun _=>rfl⟩⟩,
  ⟨⟨_,_,q0i (st:=q1x) l27 c27 k27,mg_of X G a27,(q0i (st:=q1x) l27 c27 k27).binds (ps:=["_law_number", "_law_many"]) fun _ _ _ _ _ _=>us2 fun _ _=>rfl⟩⟩,
  ⟨⟨_,_,q0i (st:=q1k) l28 c28 k28,mg_of X G a28,(q0i (st:=q1k) l28 c28 k28).binds (ps:=["_law_node", "_law_many"]) fun _ _ _ _ _ _=>us2 fun _ _=>rfl⟩⟩,
  ⟨⟨_,_,q0i (st:=q1p) l29 c29 k29,mg_of X G a29,(q0i (st:=q1p) l29 c29 k29).binds (ps:=["_law_nodes", "_law_begin"]) fun _ _ _ _ _ _=>us2 fun _ _=>rfl⟩⟩,
  ⟨⟨_,_,q0i (st:=q08) l30 c30 k30,mg_of X G a30,(q0i (st:=q08) l30 c30 k30).binds (ps:=["_law_found"]) fun _ _ _ _ _ _=>us1 fun _=>rfl⟩⟩,
  ⟨⟨_,_,q0i (st:=q2u) l31 c31 k31,mg_of X G a31,(q0i (st:=q2u) l31 c31 k31).binds (ps:=["_law_found", "_law_row_here"]) fun _ _ _ _ _ _=>us2 fun _ _=>rfl⟩⟩,
  ⟨⟨_,_,q0i (st:=q1q) l32 c32 k32,mg_of X G a32,(q0i (st:=q1q) l32 c32 k32).binds (ps:=["_law_rows_here"]) fun _ _ _ _ _ _=>us1 fun _=>rfl⟩⟩,
  ⟨⟨_,_,q0i (st:=q3d) l33 c33 k33,mg_of X G a33,(q0i (st:=q3d) l33 c33 k33).binds (ps:=["_law_script"]) fun _ _ _ _ _ _=>us1 fun _=>rfl⟩⟩⟩
 have B:Blt mg:=⟨mg_none_of X G z_ValueError,mg_none_of X G z_all,mg_none_of X G z_any,mg_none_of X G z_bool,mg_none_of X G z_int,mg_none_of X G z_isinstance,mg_none_of X G z_len,mg_none_of X G z_list,mg_none_of X G z_max,mg_none_of X G z_min,mg_none_of X G z_range,mg_none_of X G z_tuple⟩;have M:Exs K mg ⟨A_CircuitError,A_NoPlace,A_NoName,A_BadText,A_NoRow,A_NoTable,A_UnlikeSizes,A_TooGreat,A_NoMachine,A_BadSheet,A_MOST_PLACES⟩:=⟨trivial,mg_of X G n_CircuitError,mg_of X G n_NoPlace,mg_of X G n_NoName,mg_of X G n_BadText,mg_of X G n_NoRow,mg_of X G n_NoTable,mg_of X G n_UnlikeSizes,mg_of X G n_TooGreat,mg_of X G n_NoMachine,mg_of X G n_BadSheet,mg_of X G n_MOST_PLACES,g_MOST_PLACES,e_NoPlace,e_NoTable,c_NoPlace,x_NoPlace_CircuitError,k_NoPlace_NoPlace,k_NoPlace_NoName,k_NoPlace_BadText,k_NoPlace_NoRow,k_NoPlace_NoTable,k_NoPlace_UnlikeSizes,k_NoPlace_TooGreat,k_NoPlace_NoMachine,k_NoPlace_BadSheet,k_NoPlace_ValueError,c_NoTable,x_NoTable_CircuitError,k_NoTable_NoPlace,k_NoTable_NoName,k_NoTable_BadText,k_NoTable_NoRow,k_NoTable_NoTable,k_NoTable_UnlikeSizes,k_NoTable_TooGreat,k_NoTable_NoMachine,k_NoTable_BadSheet,k_NoTable_ValueError,t_NoneType_int,t_bool_int,t_int_int,t_str_int,t_tuple_int,t_list_int,t_NoneType_bool,t_bool_bool,t_int_bool,t_str_bool,t_tuple_bool,t_list_bool,t_NoneType_tuple,t_bool_tuple,t_int_tuple,t_str_tuple,t_tuple_tuple,t_list_tuple,t_NoneType_list,t_bool_list,t_int_list,t_str_list,t_tuple_list,t_list_list,nt⟩
 have MK:Mks K mg:=⟨fun f oc od fd sl e1 e2=>by
  have z:=(mg_of X G a12).symm.trans e1;cases z;rw[l12]at e2;cases e2;exact⟨cc12,PP12,_,v12,h12,m12⟩⟩
 exact⟨_,fun s v=>.of_eq rfl,fun base _ _ BM=>(law_fn A B M BM MK (q0i (st:=q3d) l33 c33 k33) n).imp fun vs H Q E q=>y15 (hL _ M) q⟩
local macro_rules | `(tactic| walk_at "den") => do
 let l:=(("y3o x99 y3b y61 y29 y60 x96 y26 y17 y22 y6q y6r y6s y6t y2v x90 x91 x7u x7v x7w x5p y2t x9z y2u y6k y6l z0x y2m y2n x9s x9t y6i z0y z0z z00 x7s y2p y2q y9i y9j y9k y9l y9m y9n y9o y5j y5f y5g y5h y16 y9f y9g y9h y5i z2j z2k z2l z2m y9p x7m x7n x9g y9q y9r y5m dC_s z2n y5n y5o y9s y9t z2o y9u y5p y9v y5q y9w z2p y9x y5r y9y y9z z2q z2r y5s z2s y5t y90 y5u y5v y91 y92 y93 y5w y5x y5y y2a y5z y50 y2b x9h y2c x9i y2d y2e x9j y94 y51 x9k q81 y52 y53 x57 y54 y55 y2f y95 x9l z2t y99 z0a z0b y56 z0c z2v z2w z0d y57 y2g z2x x9m y58 y2h z0e z0f z0g z0h z0i y6a y6b y6c y6d y2i x7o x7p z0k y2j x9n y6e y2k z0l z0m z0n z0o z0p y6f z0q z2y z2z z20 z21 z22 z23 z24 z25 z26 z27 ix_t ix_l z28 z29 z3a z3b z3c z3d z3e z3f z3g z3h z3i z3j z3k sc_i sc_b sc_s sc_n sl_l at0 at1 at2 z0s rng1 rng2 init Option.map_some Option.bind_some List.map_cons List.map_nil List.length_cons List.length_nil List.replicate_succ List.replicate_zero List.cons_append List.nil_append List.getElem?_cons_zero List.getElem?_cons_succ List.set_cons_zero List.set_cons_succ if_true if_false decide_eq_true_eq reduceIte Bool.false_eq_true ite_true ite_false Nat.reduceSub Nat.reduceAdd Nat.reduceLeDiff Nat.zero_add Nat.le_refl Int.reduceLT Int.reduceLE Int.reduceNeg true_and and_true true_or or_true false_and and_false false_or or_false not_true_eq_false not_false_eq_true decide_true decide_false Bool.not_true Bool.not_false String.reduceEq Nat.reduceEqDiff y2l z3m z3n Int.reduceToNat Int.reducePow Nat.reduceLT cast0 cast1 Int.reduceEq Int.reduceMod Int.reduceDiv Int.reduceAdd Int.reduceSub Int.reduceMul y19 y3c y65 z1a y66 y67 y3d y3e y3f y3g y0b y69 x72 y0c y3h y3i y3j y3k y3l y0d y5k y5l y96 y97 y98 z2u y18".splitOn " ").map fun s=>Lean.mkIdent s.toName).toArray
 `(tactic| try simp only [$[$l:ident],*])
noncomputable def someAt(j:Int):Int:=if j=0 then 99991 else if j=1 then 99989 else if j=2 then 99971 else if j=3 then 99961 else if j=4 then 99929 else if j=5 then 99923 else if j=6 then 99907 else if j=7 then 99901 else if j=8 then 99881 else if j=9 then 99877 else 99871
noncomputable def made(c k:Int):Int:=(c+7*k)*48271%someAt (k%11)
noncomputable def mixed(c k m:Int):Int:=(made c k*made c k*7+made c k+k)%1000003%m
theorem x03(j:Int):0<someAt j/\someAt j<=99991:=by
 unfold someAt
 repeat (split;· omega)
 omega
theorem y7n(c k:Int):0<=made c k/\made c k<99991:=by
 have h:=x03 (k%11);have h1:=w3y ((c+7*k)*48271) (show someAt (k%11)≠0 by omega);have h2:=w3l ((c+7*k)*48271) h.1;unfold made;omega
theorem q98{c k m:Int}(h:0<m):0<=mixed c k m/\mixed c k m<m:=⟨w3y _ (by omega),w3l _ h⟩
theorem y7o{j:Int}(h0:0<=j)(h1:j<11):atI [W.int 99991,.int 99989,.int 99971,.int 99961,.int 99929,.int 99923,.int 99907,.int 99901,.int 99881,.int 99877,.int 99871] j=some (.int (someAt j)):=by
 have:j=0\/j=1\/j=2\/j=3\/j=4\/j=5\/j=6\/j=7\/j=8\/j=9\/j=10:=by omega
 rcases this with h|h|h|h|h|h|h|h|h|h|h<;>(subst h;rfl)
theorem q8q(n:Nat)(c k:Int){m:Int}(hm:0<m):run K a (n+1) q1u [.int c,.int k,.int m]=.ok (.fr (.int (mixed c k m))):=by
 rw[q5n];unfold q46;walk_at "den";rw[y7o (w3y _ (by decide)) (w3l _ (by decide))];walk_at "den";rw[if_pos (x03 _).1];have b:=y7n c k;have e:(c+7*k)*48271%someAt (k%11)=made c k:=rfl;walk_at "den";rw[e,if_pos (by omega),if_pos hm];rfl
theorem x4x(n:Nat)(ns:List Int){k:Int}(hk:0<=k):run K a (n+1) q1n [.lst (ns.map .int),.int k]=.ok (.fr (.int (ns.getD k.toNat 0))):=by
 rw[q4p];unfold q32;walk_at "den"
 by_cases h:k<ns.length
 ·rw[if_pos (by simpa using h),z0r hk]
  have e:(ns.map W.int)[k.toNat]?=some (.int (ns.getD k.toNat 0)):=by
   have:k.toNat<ns.length:=by omega
   simp[List.getD,this]
  rw[e];walk_at "den"
 ·rw[if_neg (by simpa using h)]
  have:ns.getD k.toNat 0=0:=by
   have:¬k.toNat<ns.length:=by omega
   simp[List.getD,this]
  rw[this]
set_option genInjectivity true in
inductive Fm where
 |is (b:Bool)|at (p:Nat)|not (f:Fm)|and (f g:Fm)|or (f g:Fm)|odd (f g:Fm)
noncomputable def enc:Fm->W
 |.is b=>.tup [.str "is", .bl b]
 |.at p=>.tup [.str "at", .int p]
 |.not f=>.tup [.str "not", enc f]
 |.and f g=>.tup [.str "and", enc f,enc g]
 |.or f g=>.tup [.str "or", enc f,enc g]
 |.odd f g=>.tup [.str "odd", enc f,enc g]
theorem z1o{row:List Bool}(h:p<row.length):atI (row.map W.bl) (p:Int)=some (.bl (row.getD p false)):=by
 refine q4u ?_;simp[List.getD,h]
theorem q86{i:Nat}{b:List S->SR}(I:Nat->List S->Prop):∀(ws:List W)(k:Nat)(e:List S),I k e->(∀(j:Nat)(w:W)(e:List S),w∈ws->I j e->∃e',b (e.set i (.fr w))=.nx e'/\I (j+1) e')->∃e',forD i b ws e=.nx e'/\I (k+ws.length) e'
 |[],k,e,h0,_=>⟨e,rfl,h0⟩
 |w::ws,k,e,h0,h=>by
  obtain⟨e1,h1,h2⟩:=h k w e (by simp) h0;obtain⟨e2,h3,h4⟩:=q86 I ws (k+1) e1 h2 fun j u e hu=>h j u e (by simp[hu])
  refine⟨e2,?_,?_⟩
  ·rw[q6o,h1,q81,h3]
  ·rw[w0v];have:k+1+ws.length=k+(ws.length+1):=by omega
   rw[<- this];exact h4
inductive O3 where
 |a|o|d
noncomputable def wd:O3->Str
 |.a=>"and"
 |.o=>"or"
 |.d=>"odd"
noncomputable def mk3:O3->Fm->Fm->Fm
 |.a=>.and
 |.o=>.or
 |.d=>.odd
noncomputable def Fm.eNot:Fm->Fm
 |.is b=>.is (!b)
 |f=>.not f
noncomputable def withT:O3->Bool->Fm->Fm
 |.a,true,f=>f
 |.a,false,_=>.is false
 |.o,true,_=>.is true
 |.o,false,f=>f
 |.d,true,f=>f.eNot
 |.d,false,f=>f
noncomputable def Fm.ease(o:O3)(f g:Fm):Fm:=match f with
 |.is b=>withT o b g
 |f=>match g with
  |.is b=>withT o b f
  |g=>mk3 o f g
theorem y3r(n:Nat)(f:Fm):run K a (n+1) q4f [enc f]=.ok (.fr (enc f.eNot)):=by
 rw[q52];unfold q5r;cases f<;>simp only[enc,Fm.eNot]<;>walk_at "den"
theorem x4y(n:Nat)(o:O3)(b:Bool)(f:Fm):run K a (n+2) q2y [.str (wd o),.bl b,enc f]=.ok (.fr (enc (withT o b f))):=by
 rw[q5j];unfold q41;have h:=y3r (K:=K) (a:=a) n f;cases o<;>cases b<;>simp only[wd,withT]<;>walk_at "den"<;>first|rfl|(rw[h];walk_at "den")
noncomputable def Fm.hd:Fm->Str
 |.is _=>"is"
 |.at _=>"at"
 |.not _=>"not"
 |.and _ _=>"and"
 |.or _ _=>"or"
 |.odd _ _=>"odd"
theorem x1u(f:Fm):ixW (enc f) (.int 0)=some (.str f.hd):=by cases f<;>rfl
theorem x04(f:Fm):f.hd="is"↔∃b,f=.is b:=by
 cases f with
 |is b=>exact⟨fun _=>⟨b,rfl⟩,fun _=>rfl⟩
 |_=>exact⟨fun h=>absurd h (by simp only[Fm.hd];decide),fun⟨b,h⟩=>by cases h⟩
theorem x1v{o:O3}{g:Fm}:Fm.ease o (.is b) g=withT o b g:=rfl
theorem x4z{o:O3}{f:Fm}(hf:¬∃b,f=.is b):Fm.ease o f (.is b)=withT o b f:=by
 cases f with
 |is b=>exact absurd ⟨b,rfl⟩ hf
 |_=>rfl
theorem x6n{o:O3}{f g:Fm}(hf:¬∃b,f=.is b)(hg:¬∃b,g=.is b):Fm.ease o f g=mk3 o f g:=by
 cases f with
 |is b=>exact absurd ⟨b,rfl⟩ hf
 |_=>cases g with
  |is b=>exact absurd ⟨b,rfl⟩ hg
  |_=>rfl
theorem y7p{o:O3}{f g:Fm}:enc (mk3 o f g)=.tup [.str (wd o),enc f,enc g]:=by cases o<;>rfl
theorem x40(n:Nat)(o:O3)(f g:Fm):run K a (n+3) q7f [.str (wd o),enc f,enc g]=.ok (.fr (enc (f.ease o g))):=by
 rw[q8p];unfold q83;walk_at "den";rw[x1u];walk_at "den"
 by_cases hf:∃b,f=.is b
 ·obtain⟨b,rfl⟩:=hf;rw[if_pos ((x04 (.is b)).mpr ⟨b,rfl⟩),x1v];simp only[enc];walk_at "den";rw[x4y n o b g];walk_at "den"
 ·rw[if_neg (by rw[x04];exact hf),x1u];walk_at "den"
  by_cases hg:∃b,g=.is b
  ·obtain⟨b,rfl⟩:=hg;rw[if_pos ((x04 (.is b)).mpr ⟨b,rfl⟩),x4z hf];simp only[enc];walk_at "den";rw[x4y n o b f];walk_at "den"
  ·rw[if_neg (by rw[x04];exact hg),x6n hf hg,y7p]
theorem x2q(M:Exs K mg a)(n:Nat)(i:Int):run K a (n+1) q22 [.int i]=.ok (.fr (.bl true)):=by
 rw[q5m];unfold q45;walk_at "den";rw[x58 M.t_int_int];walk_at "den";rw[x58 M.t_int_bool];walk_at "den"
theorem x6o{cc:Den Bool}{d:Den W}{pe:List S}{α:Type}{q:α->Bool}{g:α->W}{en:α->W}:∀(xs:List α),(∀x∈xs,∃e1,cc (.fr (en x)::pe)=.ok (q x) e1/\(q x=true->∃e2,d e1=.ok (g x) e2))->compD cc d pe (xs.map en)=some ((xs.filter q).map g)
 |[],_=>rfl
 |x::xs,h=>by
  obtain⟨e1,h1,h2⟩:=h x (by simp);have ih:=x6o (cc:=cc) (d:=d) (pe:=pe) (q:=q) (g:=g) (en:=en) xs fun u hu=>h u (by simp[hu])
  rw[w0i,x9o,h1,ih];cases hq:q x with
  |true=>
   obtain⟨e2,h3⟩:=h2 hq;simp only[hq,h3,w1z,if_true];rfl
  |false=>simp[hq,w1z]
theorem q4y{d:Den W}{pe:List S}{g:α->W}{en:α->W}(xs:List α)(h:∀x∈xs,∃e2,d (.fr (en x)::pe)=.ok (g x) e2):compD dYes d pe (xs.map en)=some (xs.map g):=by
 rw[x6o (cc:=dYes) (q:=fun _=>true) (g:=g) xs fun x hx=>⟨_,rfl,fun _=>h x hx⟩,List.filter_eq_self.mpr fun _ _=>rfl]
theorem q71{cc:Den Bool}{d:Den W}{pe:List S}{α:Type}{q:α->Bool}{g:α->W}{en:α->W×W}:∀(xs:List α),(∀x∈xs,∃e1,cc (.fr (en x).1::.fr (en x).2::pe)=.ok (q x) e1/\(q x=true->∃e2,d e1=.ok (g x) e2))->compP cc d pe (xs.map en)=some ((xs.filter q).map g)
 |[],_=>rfl
 |x::xs,h=>by
  obtain⟨e1,h1,h2⟩:=h x (by simp);have ih:=q71 (cc:=cc) (d:=d) (pe:=pe) (q:=q) (g:=g) (en:=en) xs fun u hu=>h u (by simp[hu])
  rw[w0i,x7t,h1,ih];cases hq:q x with
  |true=>
   obtain⟨e2,h3⟩:=h2 hq;simp only[hq,h3,w1z,if_true];rfl
  |false=>simp[hq,w1z]
noncomputable def grW(ns:List Nd)(r:Nat):W:=.tup [.lst (ns.map ndW),.int r]
theorem q5x(n r:Nat):run K a (n+1) q3a [.int r]=.ok (.fr (.bl (decide (r<2)))):=by
 rw[q7y];unfold q7u;walk_at "den";rw[show decide ((r:Int)<2)=decide (r<2)from decide_eq_decide.mpr (by omega)]
theorem q5w{k:Nat}(h:ns[k]?=some x):atI (ns.map ndW) (k:Int)=some (ndW x):=q4u (by rw[w0h,h];rfl)
theorem q6a(n:Nat){R k:Nat}(h:ns[k]?=some x):run K a (n+1) q27 [grW ns R,.int (k+2:Nat)]=.ok (.fr (ndW x)):=by
 rw[q64];unfold q6z grW;walk_at "den";rw[show((k+2:Nat):Int)-2=(k:Int)from by omega,q5w h];walk_at "den"
theorem q99(n r:Nat):run K a (n+2) q2p [.int r]=.ok (.fr (.int (oe r))):=by
 rw[q54];unfold q5t;walk_at "den";rw[q5x];walk_at "den";unfold oe
 by_cases h:r<2
 ·rw[if_pos h,if_pos h,show((1-r:Nat):Int)=1-(r:Int)from by omega]
 ·rw[if_neg h,if_neg h]
theorem q72:∀ns:List Nd,flatWs (ns.map ndW)=true
 |[]=>rfl
 |x::ns=>by
  show(flatW (ndW x)&&flatWs (ns.map ndW))=true;rw[q72 ns];rfl
theorem eturn(n:Nat)(x:Nd):∃e2,q7v K a (run K a (n+2)) [.fr (ndW x)]=.ok (ndW (tnd x)) e2:=by
 refine⟨[.fr (ndW x)],?_⟩;obtain⟨p,l,h⟩:=x;unfold q7v ndW nW;walk_at "den";rw[q99 n];walk_at "den";rw[q99 n];walk_at "den";rfl
theorem x77(n:Nat)(r:Nat)(hl:ns.length<=16777216):run K a (n+3) q5g [grW ns r]=.ok (.x (.new (grW (ns.map tnd) (oe r)))):=by
 rw[q7z];unfold q7w grW;walk_at "den";rw[if_pos (by rw[w0c];exact hl),q4y (g:=fun x=>ndW (tnd x)) ns fun x _=>eturn n x]
 walk_at "den";rw[show ns.map (fun x=>ndW (tnd x))=(ns.map tnd).map ndW from by rw[w1f];rfl,y68,if_pos (q72 _)]
 walk_at "den";rw[q99 (n+0)];walk_at "den"
noncomputable def kf(r:Nat):Fm:=if r<2 then .is (decide (r=1))else .at r
theorem q6b(n r:Nat):run K a (n+2) q2z [.int r]=.ok (.fr (enc (kf r))):=by
 rw[q5k];unfold q42 kf;walk_at "den";rw[q5x];walk_at "den"
 by_cases h:r<2
 ·rw[if_pos h,if_pos h,show decide ((r:Int)=1)=decide (r=1)from decide_eq_decide.mpr (by omega)];rfl
 ·rw[if_neg h,if_neg h];rfl
noncomputable def goN(ns:List Nd)(r p:Nat)(b:Bool):Nat:=if r<2 then r else match ns[r-2]? with
 |some x=>if x.1=p then(if b=true then x.2.2 else x.2.1)else r
 |none=>r
theorem x41(n:Nat){R:Nat}(h:r<ns.length+2):run K a (n+2) q4x [grW ns R,.int r,.int p,.bl b]=.ok (.fr (.int (goN ns r p b))):=by
 rw[q65];unfold q61 goN;walk_at "den";rw[q5x];walk_at "den"
 by_cases hr:r<2
 ·rw[if_pos hr,if_pos hr]
 ·rw[if_neg hr,if_neg hr];obtain⟨k,rfl⟩:∃k,r=k+2:=⟨r-2,by omega⟩;have hk:k<ns.length:=by omega
  have e:ns[k]?=some ns[k]:=w0a hk;rw[q6a n e,w2g,e];unfold ndW nW;walk_at "den"
  by_cases hp:ns[k].1=p
  ·rw[if_neg (by simp;omega),if_pos hp,q6a n e];unfold ndW nW;walk_at "den";cases b<;>walk_at "den"
  ·rw[if_pos (by simp;omega),if_neg hp]
theorem x05(g:GOk m ns)(h:r<ns.length+2):goN ns r p b<ns.length+2:=by
 unfold goN;split
 ·exact h
 ·split
  ·rename_i x hx;obtain⟨_,_,c,d,_⟩:=g.nd _ x hx;have:=(w0b.mp hx).1;split
   ·split<;>omega
   ·exact h
  ·exact h
theorem q87(g:GOk m ns)(h:r<ns.length+2)(hp:p<m)(hr:p<=plc ns m r):p<plc ns m (goN ns r p b):=by
 unfold goN;split
 ·rename_i h2;rw[q4w h2];exact hp
 ·split
  ·rename_i h2 x hx;obtain⟨_,_,_,_,e,f⟩:=g.nd _ x hx;split
   ·rename_i z;subst z;split<;>assumption
   ·rename_i z;obtain⟨k,rfl⟩:∃k,r=k+2:=⟨r-2,by omega⟩;rw[w2g]at hx;rw[q3m hx]at hr |-
    omega
  ·rename_i hx;have:=List.getElem?_eq_none_iff.mp hx;omega
theorem x6p{o:O3}(h:¬∃b,Fm.ease o (kf i) (kf j)=.is b):¬(i<2/\j<2):=by
 rintro⟨hi,hj⟩;apply h;unfold kf;rw[if_pos hi,if_pos hj,x1v];cases o<;>cases(decide (i=1))<;>exact⟨_,rfl⟩
theorem x1w(n:Nat)(o:O3){R2:Nat}(h:Fm.ease o (kf i) (kf j)=.is b):run K a (n+4) q1m [.str (wd o),grW ns1 R1,grW ns2 R2,prW (i,j)]=.ok (.fr (.bl b)):=by
 rw[q3k];unfold q25 prW;walk_at "den";rw[q6b (n+1)];walk_at "den";rw[q6b (n+1)];walk_at "den";rw[x40 n o,h];simp only[enc];walk_at "den"
noncomputable def sdW(x:List Nd×Nat×Nat):W×W:=(grW x.1 x.2.1,.int x.2.2)
theorem tside(n:Nat){R:Nat}(h:i<ns.length+2):∃e1,q3h K a (run K a (n+3)) [.fr (grW ns R),.fr (.int i)]=.ok (!decide (i<2)) e1/\((!decide (i<2))=true->∃e2,q3g K a (run K a (n+3)) e1=.ok (.int (plc ns m i)) e2):=by
 refine⟨[.fr (grW ns R),.fr (.int i)],?_,fun hi=>⟨[.fr (grW ns R),.fr (.int i)],?_⟩⟩
 ·unfold q3h;walk_at "den";rw[q5x (n+2)];walk_at "den"
 ·have hi:¬i<2:=by simpa using hi
  obtain⟨k,rfl⟩:∃k,i=k+2:=⟨i-2,by omega⟩;have e:ns[k]?=some ns[k]:=w0a (by omega);unfold q3g;walk_at "den";rw[q6a (n+2) e,q3m e];unfold ndW nW;walk_at "den"
theorem lside(n:Nat){R:Nat}(h:i<ns.length+2):∃e1,dYes [.fr (grW ns R),.fr (.int i),.fr (.int p)]=.ok true e1/\(true=true->∃e2,q3f K a (run K a (n+3)) e1=.ok (.int (goN ns i p false)) e2):=by
 refine⟨[.fr (grW ns R),.fr (.int i),.fr (.int p)],rfl,fun _=>⟨[.fr (grW ns R),.fr (.int i),.fr (.int p)],?_⟩⟩
 unfold q3f;walk_at "den";rw[x41 (n+1) h];walk_at "den"
theorem hside(n:Nat){R:Nat}(h:i<ns.length+2):∃e1,dYes [.fr (grW ns R),.fr (.int i),.fr (.int p)]=.ok true e1/\(true=true->∃e2,q3e K a (run K a (n+3)) e1=.ok (.int (goN ns i p true)) e2):=by
 refine⟨[.fr (grW ns R),.fr (.int i),.fr (.int p)],rfl,fun _=>⟨[.fr (grW ns R),.fr (.int i),.fr (.int p)],?_⟩⟩
 unfold q3e;walk_at "den";rw[x41 (n+1) h];walk_at "den"
theorem sides{P:α->Prop}{x y:α}(h1:P x)(h2:P y):∀z∈[x,y],P z:=fun z hz=>by
 rcases w0q.mp hz with rfl|hz
 ·exact h1
 ·rw[w0n.mp hz];exact h2
theorem minp{R2:Nat}(h:¬(i<2/\j<2))(hp:p=tpP ns1 ns2 m (i,j))(g1:plc ns1 m i<=m)(g2:plc ns2 m j<=m):min1 [.lst ((([(ns1,R1,i),(ns2,R2,j)]:List (List Nd×Nat×Nat)).filter fun x=>!decide (x.2.2<2)).map fun x=>W.int (plc x.1 m x.2.2))]=some (.int p):=by
 subst hp;unfold tpP
 by_cases hi:i<2
 ·have hj:¬j<2:=fun z=>h ⟨hi,z⟩
  have e:=q4w (ns:=ns1) (m:=m) hi;simp only[w1z,hi,hj,w3z,decide_true,decide_false,w3e,w4e,if_true,w1l,if_false,w0i,w2f];rw[Nat.min_eq_right (by omega)];rfl
 ·by_cases hj:j<2
  ·have e:=q4w (ns:=ns2) (m:=m) hj;simp only[w1z,hi,hj,w3z,decide_true,decide_false,w3e,w4e,if_true,w1l,if_false,w0i,w2f];rw[w3h (by omega)];rfl
  ·simp only[w1z,hi,hj,w3z,decide_true,decide_false,w3e,w4e,if_true,w1l,if_false,w0i,w2f];have:=z04 (n:=(plc ns1 m i:Int)) (ns:=[(plc ns2 m j:Int)]);rw[w0i,w0i,w2f]at this;rw[this];congr 2;simp only[minL];split<;>omega
theorem x1x(n:Nat)(o:O3){R2:Nat}(hi:i<ns1.length+2)(hj:j<ns2.length+2)(g1:plc ns1 m i<=m)(g2:plc ns2 m j<=m)(h:¬∃b,Fm.ease o (kf i) (kf j)=.is b)(hp:p=tpP ns1 ns2 m (i,j)):run K a (n+4) q1m [.str (wd o),grW ns1 R1,grW ns2 R2,prW (i,j)]=.ok (.fr (.tup [.int p,prW (goN ns1 i p false,goN ns2 j p false),prW (goN ns1 i p true,goN ns2 j p true)])):=by
 rw[q3k];unfold q25 prW;walk_at "den";rw[q6b (n+1)];walk_at "den";rw[q6b (n+1)];walk_at "den";rw[x40 n o];walk_at "den";rw[x1u];walk_at "den";rw[if_neg (by rw[x04];exact h)];walk_at "den";have hne:=x6p h;have hpw:pairsW [W.tup [grW ns1 R1,W.int i],W.tup [grW ns2 R2,W.int j]]=some [sdW (ns1,R1,i),sdW (ns2,R2,j)]:=rfl;have c1:compP (q3h K a (run K a (n+3))) (q3g K a (run K a (n+3))) [] [sdW (ns1,R1,i),sdW (ns2,R2,j)]=_:=q71 (q:=fun x=>!decide (x.2.2<2)) (g:=fun x=>W.int (plc x.1 m x.2.2)) [(ns1,R1,i),(ns2,R2,j)] (sides (tside n hi) (tside n hj))
 have c2:compP dYes (q3f K a (run K a (n+3))) [.fr (.int p)] [sdW (ns1,R1,i),sdW (ns2,R2,j)]=some [.int (goN ns1 i p false),.int (goN ns2 j p false)]:=q71 (q:=fun _=>true) (g:=fun x=>W.int (goN x.1 x.2.2 p false)) [(ns1,R1,i),(ns2,R2,j)] (sides (lside n hi) (lside n hj))
 have c3:compP dYes (q3e K a (run K a (n+3))) [.fr (.int p)] [sdW (ns1,R1,i),sdW (ns2,R2,j)]=some [.int (goN ns1 i p true),.int (goN ns2 j p true)]:=q71 (q:=fun _=>true) (g:=fun x=>W.int (goN x.1 x.2.2 p true)) [(ns1,R1,i),(ns2,R2,j)] (sides (hside n hi) (hside n hj))
 rw[hpw];walk_at "den";rw[c1];walk_at "den";rw[minp hne hp g1 g2];walk_at "den";rw[hpw];walk_at "den";simp only[frz1,pj1,w0o,w1g];rw[c2];walk_at "den";rw[hpw];walk_at "den";simp only[frz1,pj1,w0o,w1g];rw[c3];walk_at "den"
noncomputable def capW(o:O3)(ns1:List Nd)(R1:Nat)(ns2:List Nd)(R2:Nat):List W:=[.str (wd o),grW ns1 R1,grW ns2 R2]
theorem lam_run(n:Nat)(o:O3){R2:Nat}{t:Nat×Nat}{w:W}(h:run K a (n+4) q1m [.str (wd o),grW ns1 R1,grW ns2 R2,prW t]=.ok (.fr w)):askF (run K a (n+5)) q00 (capW o ns1 R1 ns2 R2) (prW t)=some w:=by
 have e:run K a (n+5) q00 (prW t::capW o ns1 R1 ns2 R2)=.ok (.fr w):=by
  rw[q4t];unfold q3y capW;walk_at "den";rw[h];walk_at "den";rfl
 unfold askF;rw[e];rfl
theorem z1p(n:Nat)(o:O3){R2:Nat}(g1:GOk m ns1)(g2:GOk m ns2):AskOk prW (vdP ns1 ns2) (tpP ns1 ns2 m) m (askF (run K a (n+5)) q00 (capW o ns1 R1 ns2 R2)):=by
 rintro⟨i,j⟩ ⟨hi,hj⟩;have hi:i<ns1.length+2:=hi;have hj:j<ns2.length+2:=hj
 by_cases hk:∃b,Fm.ease o (kf i) (kf j)=.is b
 ·obtain⟨b,hb⟩:=hk;exact .inl ⟨b,lam_run n o (x1w n o hb)⟩
 ·have l1:=q6r g1 i;have l2:=q6r g2 j;have hne:=x6p hk
  have hpm:tpP ns1 ns2 m (i,j)<m:=by
   have w1:∀{ns:List Nd}{r:Nat},GOk m ns->r<ns.length+2->¬r<2->plc ns m r<m:=fun {ns r} g h h2=>by
    obtain⟨k,rfl⟩:∃k,r=k+2:=⟨r-2,by omega⟩;have e:ns[k]?=some ns[k]:=w0a (by omega);rw[q3m e];exact(g.nd k _ e).1
   show min (plc ns1 m i) (plc ns2 m j)<m
   by_cases z:i<2
   ·have:=w1 g2 hj fun y=>hne ⟨z,y⟩;omega
   ·have:=w1 g1 hi z;omega
  have t1:tpP ns1 ns2 m (i,j)<=plc ns1 m i:=Nat.min_le_left _ _;have t2:tpP ns1 ns2 m (i,j)<=plc ns2 m j:=w3c _ _;refine .inr ⟨tpP ns1 ns2 m (i,j),_,_,lam_run n o (x1x n o hi hj l1 l2 hk rfl),hpm,w0e _,⟨x05 g1 hi,x05 g2 hj⟩,⟨x05 g1 hi,x05 g2 hj⟩,?_,?_⟩
  ·exact Nat.lt_min.mpr ⟨q87 g1 hi hpm t1,q87 g2 hj hpm t2⟩
  ·exact Nat.lt_min.mpr ⟨q87 g1 hi hpm t1,q87 g2 hj hpm t2⟩
noncomputable def opB:O3->Bool->Bool->Bool
 |.a,x,y=>x&&y
 |.o,x,y=>x||y
 |.d,x,y=>x != y
theorem q88(h:kf r=.is b):ev ns row r=b:=by
 unfold kf at h;split at h
 ·rename_i h2;cases h;exact q13 h2
 ·cases h
theorem x42{o:O3}{x:Bool}(h:withT o x (kf r)=.is b):opB o x (ev ns row r)=b:=by
 have eN:(kf r).eNot=.is b->(!ev ns row r)=b:=fun z=>by
  cases q:kf r with
  |is c=>rw[q]at z;cases z;rw[q88 q]
  |_=>rw[q]at z;cases z
 cases o<;>cases x
 ·cases h;rfl
 ·exact q88 h
 ·exact(Bool.false_or _).trans (q88 h)
 ·cases h;rfl
 ·show(false != ev ns row r)=b;rw[Bool.false_bne];exact q88 h
 ·show(true != ev ns row r)=b;rw[Bool.true_bne];exact eN h
theorem y3s(o:O3)(x y:Bool):opB o x y=opB o y x:=by cases o<;>cases x<;>cases y<;>rfl
theorem y7q{o:O3}(h:Fm.ease o (kf i) (kf j)=.is b):opB o (ev ns1 row i) (ev ns2 row j)=b:=by
 cases hi:kf i with
 |is x=>
  rw[hi,x1v]at h;rw[q88 hi];exact x42 h
 |_=>
  have ni:¬∃b,kf i=.is b:=by rw[hi];rintro⟨b,z⟩;cases z
  cases hj:kf j with
  |is y=>
   rw[hj,x4z ni]at h;rw[y3s,q88 hj];exact x42 h
  |_=>
   rw[x6n ni (by rw[hj];rintro⟨b,z⟩;cases z)]at h;cases o<;>cases h
theorem q62(hb:row p=b):ev ns row (goN ns r p b)=ev ns row r:=by
 unfold goN;split
 ·rfl
 ·rename_i h2;split
  ·rename_i x hx;split
   ·rename_i e;obtain⟨k,rfl⟩:∃k,r=k+2:=⟨r-2,by omega⟩;rw[w2g]at hx;rw[q2i hx,e,hb]
   ·rfl
  ·rfl
def JP(o:O3)(ns1 ns2 ns:List Nd)(r:Nat)(t:Nat×Nat):Prop:=∀row,ev ns row r=opB o (ev ns1 row t.1) (ev ns2 row t.2)
theorem x6q{t u:Nat×Nat}(h:prW t=prW u):t=u:=by
 obtain⟨a,b⟩:=t;obtain⟨c,d⟩:=u;unfold prW at h;simp only[W.tup.injEq,List.cons.injEq,W.int.injEq,and_true]at h;exact Prod.ext (by have:=h.1;omega) (by have:=h.2;omega)
theorem z1q(n:Nat)(o:O3){R2:Nat}(g1:GOk m ns1)(g2:GOk m ns2){t:Nat×Nat}(hv:vdP ns1 ns2 t)(h:askF (run K a (n+5)) q00 (capW o ns1 R1 ns2 R2) (prW t)=some (.bl b)):Fm.ease o (kf t.1) (kf t.2)=.is b:=by
 obtain⟨i,j⟩:=t
 by_cases hk:∃b,Fm.ease o (kf i) (kf j)=.is b
 ·obtain⟨c,hc⟩:=hk;rw[lam_run n o (x1w n o hc)]at h;cases h;exact hc
 ·rw[lam_run n o (x1x n o hv.1 hv.2 (q6r g1 i) (q6r g2 j) hk rfl)]at h;cases h
theorem x6r(n:Nat)(o:O3){R2:Nat}(g1:GOk m ns1)(g2:GOk m ns2){t t0 t1:Nat×Nat}(hv:vdP ns1 ns2 t)(h:askF (run K a (n+5)) q00 (capW o ns1 R1 ns2 R2) (prW t)=some (.tup [.int (p:Nat),prW t0,prW t1])):t0=(goN ns1 t.1 p false,goN ns2 t.2 p false)/\t1=(goN ns1 t.1 p true,goN ns2 t.2 p true):=by
 obtain⟨i,j⟩:=t
 by_cases hk:∃b,Fm.ease o (kf i) (kf j)=.is b
 ·obtain⟨c,hc⟩:=hk;rw[lam_run n o (x1w n o hc)]at h;cases h
 ·rw[lam_run n o (x1x n o hv.1 hv.2 (q6r g1 i) (q6r g2 j) hk rfl)]at h;simp only[Option.some.injEq,W.tup.injEq,List.cons.injEq,W.int.injEq,and_true]at h;obtain⟨h1,h2,h3⟩:=h;have h1:tpP ns1 ns2 m (i,j)=p:=by omega
  subst h1;exact⟨(x6q h2).symm,(x6q h3).symm⟩
theorem y7r(n:Nat)(o:O3){R2:Nat}(g1:GOk m ns1)(g2:GOk m ns2):PropOk prW (vdP ns1 ns2) m (JP o ns1 ns2) (askF (run K a (n+5)) q00 (capW o ns1 R1 ns2 R2)):=by
 refine⟨fun ns ext r t g hr h row=>?_,fun ns t b hv h row=>?_,fun ns t p t0 t1 r hv h h0 h1 row=>?_,fun ns t p t0 t1 lo hi k hv h hx h0 h1 row=>?_⟩
 ·rw[y0l g hr];exact h row
 ·have e:=z1q n o g1 g2 hv h;rw[y7q e];cases b
  ·exact q13 (by decide)
  ·exact q13 (by decide)
 ·obtain⟨rfl,rfl⟩:=x6r n o g1 g2 hv h;cases hb:row p with
  |false=>
   have:=h0 row
   rwa [q62 hb,q62 hb]at this
  |true=>
   have:=h1 row
   rwa [q62 hb,q62 hb]at this
 ·obtain⟨rfl,rfl⟩:=x6r n o g1 g2 hv h;rw[q2i hx];show ev ns row (if row p=true then hi else lo)=_;cases hb:row p with
  |false=>
   have:=h0 row;rw[q62 hb,q62 hb]at this
   simpa using this
  |true=>
   have:=h1 row;rw[q62 hb,q62 hb]at this
   simpa using this
theorem y0u(o:O3){R2:Nat}(g1:GOk m ns1)(g2:GOk m ns2)(l:Lm):∀(d n:Nat),NfSpec prW (vdP ns1 ns2) (tpP ns1 ns2 m) m (JP o ns1 ns2) d (recN (run K a (n+d+6)) q04 (.fn q00 l (capW o ns1 R1 ns2 R2)))
 |d,n=>by
  have e:recN (run K a (n+d+6)) q04 (.fn q00 l (capW o ns1 R1 ns2 R2))=nfS (askF (run K a (n+d+5)) q00 (capW o ns1 R1 ns2 R2)) (recN (run K a (n+d+5)) q04 (.fn q00 l (capW o ns1 R1 ns2 R2))):=by
   funext t st
   exact q95 (fun _=>rfl) _ _ _ t st
  rw[e];refine x6m (fun t _=>w1e (Nat.min_le_left _ _) (q6r g1 _)) z1e (z1p (n+d) o g1 g2) (y7r (n+d) o g1 g2) fun d' hd=>?_
  subst hd;exact y0u o g1 g2 l d' n
theorem x43:∀ns:List Nd,noFns (ns.map ndW)=true
 |[]=>rfl
 |x::ns=>by
  show(noFn (ndW x)&&noFns (ns.map ndW))=true;rw[x43 ns];rfl
theorem x6s(ns:List Nd)(r:Nat):noFn (grW ns r)=true:=by
 show(noFns (ns.map ndW)&&_)=true;rw[x43 ns];rfl
theorem q8r:ixW (grW ns r) (.int 1)=some (.int r):=rfl
theorem x44:ixW (grW ns r) (.int 0)=some (.lst (ns.map ndW)):=rfl
theorem x78(n:Nat)(o:O3)(hm:m<=13){r1 r2:Nat}(g1:GG m ns1 r1)(g2:GG m ns2 r2):∃ns r,GG m ns r/\(∀row,ev ns row r=opB o (ev ns1 row r1) (ev ns2 row r2))/\run K a (n+21) q4m [.str (wd o),grW ns1 r1,grW ns2 r2]=.ok (.x (.new (grW ns r))):=by
 have hp:2^(m+1)<=16384:=w1k (by decide) (show m+1<=14 by omega);obtain⟨r,st',ns',ext,f',eq,s,ap,_,po,_,pr,_,sn,_⟩:=y0u (K:=K) (a:=a) o g1.ok g2.ok (R1:=r1) (R2:=r2) q1e m (n+(13-m)) (r1,r2) _ [] _ ⟨g1.lt,g2.lt⟩ (by omega) (y3n (r1,r2)) (by simp;omega) (by show 0+_<=_;omega);rw[show n+(13-m)+m+6=n+19 by omega]at eq;refine⟨ns',r,⟨s.ok,po,by simpa using sn⟩,pr,?_⟩
 have e2:run K a (n+20) q2j [prW (r1,r2),.fn q00 q1e (capW o ns1 r1 ns2 r2)]=.ok (.x (.new (grW ns' r))):=by
  rw[x0w];rw[z1f rfl (by show(_&&(noFn (grW ns1 r1)&&(noFn (grW ns2 r2)&&true)))=true;rw[x6s,x6s];rfl) eq (by rw[s.nodes];exact q72 _),s.nodes];rfl
 rw[q70];unfold q7x;walk_at "den";rw[q8r];walk_at "den";rw[q8r];walk_at "den";show((lamNRes [.fr (.str (wd o)),.fr (grW ns1 r1),.fr (grW ns2 r2)] (run K a (n+20) q2j [prW (r1,r2),.fn q00 q1e (capW o ns1 r1 ns2 r2)])).stm fun w e1=>SR.rt (S.x (SK.new w)) e1).fn=_
 rw[e2];walk_at "den"
noncomputable def nJ(k:Nat):W:=.int (k:Int)
noncomputable def wtW(x:Nat×Bool):W:=.tup [.int x.1,.bl x.2]
theorem wstep{c:Den Bool}{b:List S->SR}{e e':List S}(h1:c e=.ok true e)(h2:b e=.nx e'):whileD c b (n+1) e=whileD c b n e':=by
 show((c e).stm fun x e1=>if x=true then(match b e1 with
  |.nx e'=>whileD c b n e'
  |.ct e'=>whileD c b n e'
  |.bk e'=>.nx e'
  |.rt s e'=>.rt s e'
  |.ex c e'=>.ex c e'
  |.no=>.no)else .nx e1)=_
 rw[h1]
 show(match b e with
  |.nx e'=>whileD c b n e'
  |.ct e'=>whileD c b n e'
  |.bk e'=>.nx e'
  |.rt s e'=>.rt s e'
  |.ex c e'=>.ex c e'
  |.no=>.no)=_
 rw[h2]
noncomputable def rcE(ns:List Nd)(R:Nat)(order:List Nat)(wait:List (Nat×Bool))(seen:List Nat)(z:S):List S:=[.fr (.lst (ns.map ndW)),.fr (.int R),.own none (order.map nJ),.own none (wait.map wtW),.own none (seen.map nJ),z]
theorem x6t:∀ts:List Nat,(ts.map nJ).all scalW=true
 |[]=>rfl
 |_::ts=>by rw[w0i,w2p,x6t ts];rfl
theorem y0v(k:Nat):∀ts:List Nat,((ts.map nJ).any fun y=>eqS y (.int (k:Int)))=ts.contains k
 |[]=>rfl
 |t::ts=>by
  rw[w0i,w2q,y0v k ts,List.contains_cons];congr 1;show(((t:Int)==(k:Int)):Bool)=(k==t);apply w0x.mpr;simp only[beq_iff_eq];omega
theorem y0w(k:Nat)(ts:List Nat):ninW (.int (k:Int)) (.lst (ts.map nJ))=some (.bl (!ts.contains k)):=by
 show(if scalW (.int (k:Int))=true/\(ts.map nJ).all scalW=true then some (W.bl (!(ts.map nJ).any fun y=>eqS y (.int (k:Int))))else none)=_
 rw[if_pos ⟨rfl,x6t ts⟩,y0v]
theorem x45:ixW (wtW (r,b)) (.int 1)=some (.bl b):=rfl
theorem q6u:ixW (wtW (r,b)) (.int 0)=some (.int r):=rfl
theorem x1y(n:Nat)(ns:List Nd)(R:Nat)(order:List Nat)(wait:List (Nat×Bool))(x:Nat×Bool)(seen:List Nat)(z:S):q09 K a (run K a n) (rcE ns R order (wait++[x]) seen z)=.ok true (rcE ns R order (wait++[x]) seen z):=by
 unfold q09 rcE;walk_at "den";rw[decide_eq_true (by rw[w0c,w0g];simp)]
theorem y7s(n:Nat)(ns:List Nd)(R:Nat){order:List Nat}(wait:List (Nat×Bool))(r:Nat)(seen:List Nat)(z:S)(hl:order.length<16777216):∃z',q03 K a (run K a n) (rcE ns R order (wait++[(r,true)]) seen z)=.nx (rcE ns R (order++[r]) wait seen z'):=by
 refine⟨.fr (wtW (r,true)),?_⟩;unfold q03 rcE;rw[w0r,w0i,w2f];walk_at "den";rw[x45];walk_at "den";rw[q6u];walk_at "den";rw[if_pos (by rw[w0c];exact hl),w0r];rfl
theorem z1r(n:Nat)(ns:List Nd)(R:Nat)(order:List Nat)(wait:List (Nat×Bool))(r:Nat){seen:List Nat}(z:S)(hr:r∈seen):∃z',q03 K a (run K a n) (rcE ns R order (wait++[(r,false)]) seen z)=.nx (rcE ns R order wait seen z'):=by
 refine⟨.fr (wtW (r,false)),?_⟩;unfold q03 rcE;rw[w0r,w0i,w2f];walk_at "den";rw[x45];walk_at "den";rw[q6u];walk_at "den";rw[y0w,w4a.mpr hr];walk_at "den"
theorem z1s(n:Nat)(R:Nat)(order:List Nat){wait:List (Nat×Bool)}{k lo hi:Nat}{seen:List Nat}(z:S)(hk:ns[k]?=some (p,lo,hi))(hr:k+2∉seen)(hl:seen.length<16777216)(hw:wait.length+3<16777216):∃z',q03 K a (run K a n) (rcE ns R order (wait++[(k+2,false)]) seen z)=.nx (rcE ns R order (wait++[(k+2,true)]++[(hi,false)]++[(lo,false)]) (seen++[k+2]) z'):=by
 refine⟨.fr (wtW (k+2,false)),?_⟩
 have hc:seen.contains (k+2)=false:=by
  cases e:seen.contains (k+2)with
  |false=>rfl
  |true=>exact absurd (w4a.mp e) hr
 have e2:((k+2:Nat):Int)-2=(k:Int):=by omega
 unfold q03 rcE;rw[w0r,w0i,w2f];walk_at "den";rw[x45];walk_at "den";rw[q6u];walk_at "den";rw[y0w,hc];walk_at "den";rw[q6u];walk_at "den";rw[if_pos (by rw[w0c];exact hl)];walk_at "den";rw[q6u];walk_at "den";rw[if_pos (by rw[w0c];omega)];walk_at "den";rw[q6u];walk_at "den";rw[e2,q5w hk];simp only[ndW,nW];walk_at "den";rw[if_pos (by rw[w0g,w0c];simp;omega)];walk_at "den";rw[q6u];walk_at "den";rw[e2,q5w hk];simp only[ndW,nW];walk_at "den";rw[if_pos (by simp only[w0g,w0c,w0v,w1s];omega)];simp only[w0r,w0i,w2f];rfl
theorem z1t(n:Nat)(g:GOk m ns)(R:Nat){L':Nat}(h:Post ns L r L'):∀(order:List Nat)(wait:List (Nat×Bool))(seen:List Nat)(z:S),(∀x,x<=r->(x∈seen↔x<L+2)) ->
  order.length+(L'-L)<16777216->seen.length+(L'-L)<16777216->wait.length+3*(L'-L)+3<16777216 ->
  ∃(k:Nat)(seen':List Nat)(z':S),k<=3*(L'-L)+1/\(∀fuel,whileD (q09 K a (run K a n)) (q03 K a (run K a n)) (fuel+k) (rcE ns R order (wait++[(r,false)]) seen z)=whileD (q09 K a (run K a n)) (q03 K a (run K a n)) fuel (rcE ns R (order++List.range' (L+2) (L'-L)) wait seen' z')) /\
   (∀x,x∈seen'↔x∈seen\/(L+2<=x/\x<L'+2))/\seen'.length<=seen.length+(L'-L):=by
 induction h with
 | @old L r h=>
  intro order wait seen z hs _ _ _;obtain⟨z',e⟩:=z1r (K:=K) (a:=a) n ns R order wait r z ((hs r (w0e _)).mpr h);refine⟨1,seen,z',by omega,fun fuel=>?_,fun x=>⟨.inl,fun q=>q.elim id fun q=>absurd q.2 (by omega)⟩,by omega⟩
  rw[wstep (x1y n ns R order wait (r,false) seen z) e,w2n];simp
 | @new L L1 L2 p lo hi h h1 h2 i1 i2=>
  intro order wait seen z hs ho hl hw;obtain⟨l1,l1'⟩:=h1.le;obtain⟨l2,l2'⟩:=h2.le;obtain⟨_,_,c1,c2,_⟩:=g.nd L2 _ h;have c1:lo<L2+2:=c1;have c2:hi<L2+2:=c2;have hr:L2+2∉seen:=fun q=>by have:=(hs (L2+2) (w0e _)).mp q;omega
  obtain⟨z1,e1⟩:=z1s (K:=K) (a:=a) n R order (wait:=wait) z h hr (by omega) (by omega)
  obtain⟨k1,s1,z2,b1,w1,m1,n1⟩:=i1 order (wait++[(L2+2,true)]++[(hi,false)]) (seen++[L2+2]) z1 (fun x hx=>by
   rw[w1r,w0n];have:=hs x (by omega);constructor
   ·rintro(q|q)
    ·exact this.mp q
    ·omega
   ·exact fun q=>.inl (this.mpr q)) (by omega) (by simp only[w0g,w0v,w1s];omega) (by simp only[w0g,w0v,w1s];omega)
  obtain⟨k2,s2,z3,b2,w2,m2,n2⟩:=i2 (order++List.range' (L+2) (L1-L)) (wait++[(L2+2,true)]) s1 z2 (fun x hx=>by
   rw[m1,w1r,w0n];have:=hs x (by omega);constructor
   ·rintro((q|q)|q)
    ·have:=this.mp q;omega
    ·omega
    ·omega
   ·intro q
    by_cases y:x<L+2
    ·exact .inl (.inl (this.mpr y))
    ·exact .inr (by omega)) (by simp only[w0g,w4m];omega) (by simp only[w0g,w0v,w1s]at n1;omega) (by simp only[w0g,w0v,w1s];omega)
  have ho3:(order++List.range' (L+2) (L1-L)++List.range' (L1+2) (L2-L1)).length<16777216:=by simp only[w0g,w4m];omega
  obtain⟨z4,e4⟩:=y7s (K:=K) (a:=a) n ns R wait (L2+2) s2 z3 ho3
  have er:order++List.range' (L+2) (L1-L)++List.range' (L1+2) (L2-L1)++[L2+2]=order++List.range' (L+2) (L2+1-L):=by
   rw[w1h,w1h];congr 1
   have a1:List.range' (L1+2) (L2-L1)++[L2+2]=List.range' (L1+2) (L2-L1+1):=by
    rw[List.range'_concat];congr 2;omega
   rw[a1,show L1+2=(L+2)+1*(L1-L) by omega,List.range'_append];congr 1;omega
  refine⟨1+k2+k1+1,s2,z4,by omega,fun fuel=>?_,fun x=>?_,?_⟩
  ·rw[show fuel+(1+k2+k1+1)=(fuel+1+k2+k1)+1 by omega,wstep (x1y n ns R order wait (L2+2,false) seen z) e1,w1,w2,wstep (x1y n ns R _ wait (L2+2,true) s2 z3) e4,er]
  ·rw[m2,m1,w1r,w0n];constructor
   ·rintro(((q|q)|q)|q)
    ·exact .inl q
    ·exact .inr (by omega)
    ·exact .inr (by omega)
    ·exact .inr (by omega)
   ·rintro(q|q)
    ·exact .inl (.inl (.inl q))
    ·by_cases y:x<L1+2
     ·exact .inl (.inr (by omega))
     ·by_cases y2:x<L2+2
      ·exact .inr (by omega)
      ·exact .inl (.inl (.inr (by omega)))
  ·simp only[w0g,w0v,w1s]at n1;omega
theorem z1u(n:Nat)(ns:List Nd)(R:Nat)(order seen:List Nat)(z:S):q09 K a (run K a n) (rcE ns R order [] seen z)=.ok false (rcE ns R order [] seen z):=by
 unfold q09 rcE;walk_at "den"
theorem wend{c:Den Bool}{b:List S->SR}{e:List S}(h1:c e=.ok false e):whileD c b (n+1) e=.nx e:=by
 show((c e).stm fun x e1=>if x=true then(match b e1 with
  |.nx e'=>whileD c b n e'
  |.ct e'=>whileD c b n e'
  |.bk e'=>.nx e'
  |.rt s e'=>.rt s e'
  |.ex c e'=>.ex c e'
  |.no=>.no)else .nx e1)=_
 rw[h1];rfl
theorem z1v(n:Nat)(g:GG m ns r)(hl:ns.length<=16384)(F:Nat)(hF:100000<=F):∃(seen:List Nat)(z:S),whileD (q09 K a (run K a n)) (q03 K a (run K a n)) F (rcE ns r [] ([]++[(r,false)]) [0,1] .no)=.nx (rcE ns r (List.range' 2 ns.length) [] seen z):=by
 obtain⟨k,seen',z',b,w,m1,n1⟩:=z1t (K:=K) (a:=a) n g.ok r g.po [] [] [0,1] .no (fun x hx=>by simp only[w0q,List.not_mem_nil,or_false];omega) (by simp only[w1s];omega) (by simp only[w0v,w1s];omega) (by simp only[w1s];omega)
 obtain⟨f,rfl⟩:∃f,F=(f+1)+k:=⟨F-k-1,by omega⟩;refine⟨seen',z',?_⟩;rw[w,wend (z1u n ns r _ seen' z'),w2m,Nat.sub_zero]
theorem x5t(n:Nat)(g:GG m ns r)(hl:ns.length<=16384):run K a (n+1) q24 [.lst (ns.map ndW),.int r]=.ok (.own none ((List.range' 2 ns.length).map nJ)):=by
 rw[q4r];unfold q34;walk_at "den";obtain⟨seen,z,e⟩:=z1v (K:=K) (a:=a) n g hl 1000000 (by decide);rw[show[S.fr (W.lst (ns.map ndW)),S.fr (W.int r),S.own none [],S.own none [W.tup [W.int r,W.bl false]],S.own none [W.int 0,W.int 1],S.no]=rcE ns r [] ([]++[(r,false)]) [0,1] .no from rfl,e];unfold rcE;walk_at "den"
theorem ewhole(M:Exs K mg a)(n:Nat)(i:Int):∃e2,q3j K a (run K a (n+1)) [.fr (.int i)]=.ok (.bl true) e2:=by
 refine⟨[.fr (.int i)],?_⟩;unfold q3j;walk_at "den";rw[x2q M n i];walk_at "den"
theorem sl3{x y z:W}:slW (.tup [x,y,z]) (some 1) none=some (.tup [y,z]):=rfl
theorem x79(M:Exs K mg a)(n:Nat)(g:GOk m ns){k:Nat}(h:ns[k]?=some x):run K a (n+2) q23 [ndW x,.int k]=.ok (.fr (.bl true)):=by
 obtain⟨p,lo,hi⟩:=x;obtain⟨_,h2,h3,h4,_,_⟩:=g.nd k _ h;have h2:lo≠hi:=h2;have h3:lo<k+2:=h3;have h4:hi<k+2:=h4;have c1:compD dYes (q3j K a (run K a (n+1))) [] [W.int p,W.int lo,W.int hi]=some [.bl true,.bl true,.bl true]:=q4y (g:=fun _=>W.bl true) (en:=W.int) [(p:Int),(lo:Int),(hi:Int)] fun i _=>ewhole M n i
 rw[q4q];unfold q33 ndW nW;walk_at "den";rw[x59 M.t_tuple_tuple];walk_at "den";rw[c1];walk_at "den";rw[if_neg (by simp),show all1 [W.lst [W.bl true,W.bl true,W.bl true]]=some (.bl true)from rfl];walk_at "den";rw[if_pos (by omega),if_pos (by simp;omega),sl3];walk_at "den";rw[minT2];walk_at "den";rw[if_pos (by split<;>omega),sl3];walk_at "den";rw[maxT2];walk_at "den";rw[decide_eq_true (by split<;>omega)]
theorem y7t:∀xs:List α,all1 [.lst (xs.map fun _=>W.bl true)]=some (.bl true):=fun xs=>by
 have h:∀xs:List α,boolsW (xs.map fun _=>W.bl true)=some (xs.map fun _=>true):=fun xs=>by
  induction xs with
  |nil=>rfl
  |cons x xs ih=>
   show(boolsW (xs.map fun _=>W.bl true)).map (true::·)=_
   rw[ih];rfl
 show(boolsW (xs.map fun _=>W.bl true)).map (fun bs=>W.bl (bs.all id))=_
 rw[h];show some (W.bl ((xs.map fun _=>true).all id))=_
 rw[show(xs.map fun _=>true).all id=true from by simp]
theorem q6v(L:Nat):rangeW 0 (L:Int)=(List.range L).map nJ:=by
 unfold rangeW nJ;simp
theorem okL(h:L<=16384):okI (L:Int)=true:=by
 unfold okI;simp;omega
theorem enode(M:Exs K mg a)(n:Nat)(g:GOk m ns){k:Nat}(h:k<ns.length):∃e2,q37 K a (run K a (n+2)) [.fr (nJ k),.fr (.lst (ns.map ndW))]=.ok (.bl true) e2:=by
 refine⟨[.fr (nJ k),.fr (.lst (ns.map ndW))],?_⟩;have e:ns[k]?=some ns[k]:=w0a h;unfold q37 nJ;walk_at "den";rw[q5w e];walk_at "den";rw[x79 M n g e];walk_at "den"
theorem x8a(x y:Nd):eqW (ndW x) (ndW y)=some (decide (x=y)):=by
 obtain⟨a1,b1,c1⟩:=x;obtain⟨a2,b2,c2⟩:=y;show some (((a1:Int)==(a2:Int))&&(((b1:Int)==(b2:Int))&&(((c1:Int)==(c2:Int))&&true)))=_;congr 1;apply w0x.mpr;simp only[w0s,beq_iff_eq,decide_eq_true_eq,Prod.mk.injEq,and_true];omega
theorem y0x(x:Nd):∀ns:List Nd,x∉ns->inBW (ndW x) (ns.map ndW)=some false
 |[],_=>rfl
 |y::ns,h=>by
  show(match eqW (ndW y) (ndW x),inBW (ndW x) (ns.map ndW)with|some b,some c=>some (b||c)|_,_=>none)=_;rw[x8a,y0x x ns fun z=>h (w1b _ z),decide_eq_false fun z=>h (by rw[z];exact w1m)]
  rfl
theorem q89:∀ns:List Nd,depWs (ns.map ndW)<=1
 |[]=>w1i _
 |x::ns=>by
  have:=q89 ns;show max (depW (ndW x)) (depWs (ns.map ndW))<=1;have:depW (ndW x)=1:=rfl;omega
theorem x6u:∀ns:List Nd,eqWs (ns.map ndW) (ns.map ndW)=some true
 |[]=>rfl
 |x::ns=>by
  show(match eqW (ndW x) (ndW x),eqWs (ns.map ndW) (ns.map ndW)with|some a,some b=>some (a&&b)|_,_=>none)=_;rw[x8a,x6u ns,decide_eq_true rfl];rfl
theorem x6v{k:Nat}(h:k<ns.length):cutW (ns.map ndW) none (some (k:Int))=(ns.take k).map ndW:=by
 unfold cutW;rw[HT.sIx_none,HT.sIx_nat,w0c,w3h (by omega)];simp[w4n]
theorem y0y(g:GOk m ns){k:Nat}(h:ns[k]?=some x):inL (ndW x) (.lst ((ns.take k).map ndW))=some (.bl false):=by
 show(if depWs ((ns.take k).map ndW)<=148 then(inBW (ndW x) ((ns.take k).map ndW)).map W.bl else none)=_;have hd:=q89 (ns.take k);rw[if_pos (by omega),y0x x _ fun hx=>?_]
 ·rfl
 ·obtain⟨j,hj,e⟩:=w1t.mp hx;have hj':j<k:=by simp at hj;omega
  obtain⟨hk,ek⟩:=w0b.mp h;rw[List.getElem_take]at e;have:=(List.getElem_inj g.dist (h₀:=by omega) (h₁:=hk)).mp (e.trans ek.symm);omega
theorem x06(n:Nat)(g:GOk m ns){k:Nat}(h:ns[k]?=some x){c:Nat}(hc:c<k+2)(hp:x.1<plc ns m c)(w0:S):q2w K a (run K a n) [w0,.fr (.lst (ns.map ndW)),.fr (.int k),.fr (.int c)]=.nx [w0,.fr (.lst (ns.map ndW)),.fr (.int k),.fr (.int c)]:=by
 have hk:=(w0b.mp h).1;unfold q2w;walk_at "den"
 by_cases h1:c<2
 ·rw[if_neg (by omega),q5w h];walk_at "den";rw[x6v hk,y0y g h];walk_at "den"
 ·obtain⟨j,rfl⟩:∃j,c=j+2:=⟨c-2,by omega⟩;have e:ns[j]?=some ns[j]:=w0a (by omega);rw[q3m e]at hp;rw[if_pos (by omega),show((j+2:Nat):Int)-2=(j:Int)from by omega,q5w e];rw[show ndW ns[j]=.tup [.int ns[j].1,.int ns[j].2.1,.int ns[j].2.2]from rfl];walk_at "den";rw[q5w h];rw[show ndW x=.tup [.int x.1,.int x.2.1,.int x.2.2]from rfl];walk_at "den";rw[if_neg (by omega),q5w h];walk_at "den";rw[x6v hk,y0y g h];walk_at "den"
theorem x8b(n:Nat)(g:GOk m ns){k:Nat}(hk:k<ns.length)(w0 z:S):∃z',q11 K a (run K a n) [w0,.fr (.lst (ns.map ndW)),.fr (.int k),z]=.nx [w0,.fr (.lst (ns.map ndW)),.fr (.int k),z']:=by
 have e:ns[k]?=some ns[k]:=w0a hk;obtain⟨_,_,c1,c2,c3,c4⟩:=g.nd k _ e
 obtain⟨e',h1,z',rfl⟩:=q86 (i:=3) (b:=q2w K a (run K a n)) (fun _ e=>∃z,e=[w0,.fr (.lst (ns.map ndW)),.fr (.int k),z]) [W.int ns[k].2.1,W.int ns[k].2.2] 0 [w0,.fr (.lst (ns.map ndW)),.fr (.int k),z] ⟨_,rfl⟩ (by
  rintro j w e' hw ⟨z',rfl⟩;rcases w0q.mp hw with rfl|hw
  ·exact⟨_,x06 n g e c1 c3 w0,_,rfl⟩
  ·rw[w0n.mp hw];exact⟨_,x06 n g e c2 c4 w0,_,rfl⟩)
 refine⟨z',?_⟩;unfold q11;walk_at "den";rw[q5w e];rw[show ndW ns[k]=.tup [.int ns[k].1,.int ns[k].2.1,.int ns[k].2.2]from rfl];walk_at "den";rw[sl3];walk_at "den";exact h1
theorem eplus(n k:Nat):∃e2,q36 K a (run K a n) [.fr (nJ k)]=.ok (nJ (k+2)) e2:=by
 refine⟨[.fr (nJ k)],?_⟩;unfold q36 nJ;walk_at "den";rfl
theorem y0z:∀ks:List Nat,eqWs (ks.map nJ) (ks.map nJ)=some true
 |[]=>rfl
 |x::ns=>by
  show(match some (((x:Int))==(x:Int)),eqWs (ns.map nJ) (ns.map nJ)with|some a,some b=>some (a&&b)|_,_=>none)=_;rw[y0z ns,beq_self_eq_true];rfl
theorem y00:∀ks:List Nat,depWs (ks.map nJ)=0
 |[]=>rfl
 |x::ns=>by
  show max 0 (depWs (ns.map nJ))=0;rw[y00 ns];rfl
theorem z3s(ks:List Nat):eq2 (.lst (ks.map nJ)) (.lst (ks.map nJ))=some (.bl true):=by
 show(if depWs (ks.map nJ)+1<=150 then(eqWs (ks.map nJ) (ks.map nJ)).map W.bl else none)=_;rw[y00,if_pos (by decide),y0z];rfl
theorem y01(L:Nat):(List.range L).map (fun k=>nJ (k+2))=(List.range' 2 L).map nJ:=by
 apply List.ext_getElem
 ·simp
 ·intro i h1 h2;simp[Nat.add_comm]
theorem x2r(M:Exs K mg a)(n:Nat)(g:GG m ns r)(hl:ns.length<=16384):run K a (n+3) q1b [grW ns r]=.ok (.fr (.bl true)):=by
 have hlt:=g.lt;rw[q38];unfold q3q grW;walk_at "den";rw[x59 M.t_tuple_tuple];walk_at "den";rw[y59 M.t_list_list];walk_at "den";rw[x2q M (n+1)];walk_at "den";rw[if_neg (by simp),w0c,if_pos (okL hl),q6v];walk_at "den";simp only[frz1,pj1,w0o,w1g];rw[if_pos (by rw[w0c,w2y];omega),q4y (g:=fun _=>W.bl true) (List.range ns.length) fun k hk=>enode M n g.ok (w1d.mp hk)]
 walk_at "den";rw[y7t];walk_at "den";rw[if_neg (by omega),w0c,if_neg (by omega),if_pos (okL hl),q6v]
 obtain⟨e',h1,z2,z3,rfl⟩:=q86 (i:=2) (b:=q11 K a (run K a (n+2))) (fun _ e=>∃z2 z3,e=[.fr (W.tup [W.lst (ns.map ndW),W.int r]),.fr (W.lst (ns.map ndW)),z2,z3]) ((List.range ns.length).map nJ) 0 [.fr (W.tup [W.lst (ns.map ndW),W.int r]),.fr (W.lst (ns.map ndW)),.no,.no] ⟨_,_,rfl⟩ (by
  rintro j w e hw ⟨z2,z3,rfl⟩;obtain⟨k,hk,rfl⟩:=w1u.mp hw;obtain⟨z',h⟩:=x8b (K:=K) (a:=a) (n+2) g.ok (w1d.mp hk) (.fr (W.tup [W.lst (ns.map ndW),W.int r])) z3;exact⟨_,h,_,_,rfl⟩)
 rw[show forW 2 (q11 K a (run K a (n+2))) [S.fr (W.tup [W.lst (ns.map ndW),W.int r]),S.fr (W.lst (ns.map ndW)),S.no,S.no] (some ((List.range ns.length).map nJ))=_ from h1];walk_at "den";rw[x5t (n+1) g hl];walk_at "den";rw[w0c,if_pos (okL hl),q6v];walk_at "den";rw[if_pos (by rw[w0c,w2y];omega),q4y (g:=fun k=>nJ (k+2)) (List.range ns.length) fun k _=>eplus (n+2) k]
 walk_at "den";rw[y01,z3s];walk_at "den"
theorem x2s{i:Nat}{b:List S->SR}(st:S->List S)(p:W->Bool)(rt:W->S):∀(ws:List W)(z:S),(∀w∈ws,∀z,(p w=true->∃e',b ((st z).set i (.fr w))=.rt (rt w) e')/\(p w=false->∃z',b ((st z).set i (.fr w))=.nx (st z'))) ->
  (∀w,ws.find? p=some w->∃e',forD i b ws (st z)=.rt (rt w) e')/\(ws.find? p=none->∃z',forD i b ws (st z)=.nx (st z'))
 |[],z,h=>⟨fun w q=>by simp at q,fun _=>⟨z,rfl⟩⟩
 |w::ws,z,h=>by
  obtain⟨h1,h2⟩:=h w (by simp) z;cases q:p w with
  |true=>
   obtain⟨e',h3⟩:=h1 q;refine⟨fun u hu=>?_,fun hu=>?_⟩
   ·rw[w2v q]at hu;cases hu;exact⟨e',by rw[q6o,h3,x57]⟩
   ·rw[w2v q]at hu;cases hu
  |false=>
   obtain⟨z',h3⟩:=h2 q;have ih:=x2s st p rt ws z' fun u hu=>h u (by simp[hu])
   rw[List.find?_cons_of_neg (by simp[q]),q6o,h3,q81];exact ih
theorem x2t(n:Nat)(m:Int)(h0:0<=m)(h1:m<1000):run K a (n+1) q15 [.int m]=.ok (.fr (.int (2^m.toNat))):=by
 rw[q5o];unfold q47;walk_at "den";rw[if_pos (q7a (by omega) (by omega))];walk_at "den"
 obtain⟨e',h2,z,rfl⟩:=q7r (b:=q5i K a (run K a n)) (i:=2) (lo:=0) (hi:=m) m.toNat (by omega) (fun j e=>∃z,e=[.fr (.int m),.fr (.int (2^j)),z]) [.fr (.int m),.fr (.int 1),.no] ⟨_,rfl⟩ (by
  rintro j e hj ⟨z,rfl⟩;unfold q5i;walk_at "den";exact⟨_,rfl,_,by rw[Int.pow_succ,Int.mul_comm]⟩)
 rw[h2];walk_at "den"
theorem q77(n:Nat)(m:Int)(h0:0<=m)(h1:m<1000):run K a (n+1) q3p [.int m]=.ok (.fr (.int (2^m.toNat))):=by
 rw[q53];unfold q5s;walk_at "den";rw[if_pos (q7a (by omega) (by omega))];walk_at "den"
 obtain⟨e',h2,z,rfl⟩:=q7r (b:=q5z K a (run K a n)) (i:=2) (lo:=0) (hi:=m) m.toNat (by omega) (fun j e=>∃z,e=[.fr (.int m),.fr (.int (2^j)),z]) [.fr (.int m),.fr (.int 1),.no] ⟨_,rfl⟩ (by
  rintro j e hj ⟨z,rfl⟩;unfold q5z;walk_at "den";exact⟨_,rfl,_,by rw[Int.pow_succ,Int.mul_comm]⟩)
 rw[h2];walk_at "den"
noncomputable def lg(n:Nat):Option Nat:=(List.range 11).find? fun m=>decide (2^m=n)
theorem x6w(h:lg n=some m):m<=10/\n=2^m:=by
 unfold lg at h;have h1:=List.find?_some h;have h2:=List.mem_of_find?_eq_some h;simp at h1 h2;omega
noncomputable def placesR(a:Adr):Option Nat->FR
 |some m=>.ok (.fr (.int m))
 |none=>.ex (.ref a.NoTable)
theorem q78(n:Nat)(ws:List W):run K a (n+2) q4g [.lst ws]=placesR a (lg ws.length):=by
 rw[q55];unfold q5u;walk_at "den";rw[if_pos (q7a (by omega) (by omega))];walk_at "den";have e:rangeW 0 11=(List.range 11).map fun(k:Nat)=>W.int (0+(k:Int)):=rfl
 have h:=x2s (i:=1) (b:=q50 K a (run K a (n+1))) (fun z=>[.fr (.lst ws),z]) (fun w=>match w with|.int k=>decide ((ws.length:Int)=2^k.toNat)|_=>false) (fun w=>.fr w) (rangeW 0 11) .no (by
  intro w hw z;rw[e]at hw;obtain⟨k,hk,rfl⟩:=w1u.mp hw;rw[w1d]at hk;unfold q50;walk_at "den";rw[q77 n _ (by omega) (by omega)];walk_at "den";constructor
  ·intro hp;have hp:(ws.length:Int)=2^(0+(k:Int)).toNat:=by simpa using hp
   rw[if_pos hp];exact⟨_,rfl⟩
  ·intro hp;have hp:¬(ws.length:Int)=2^(0+(k:Int)).toNat:=by simpa using hp
   rw[if_neg hp];exact⟨_,rfl⟩)
 have e2:(rangeW 0 11).find? (fun w=>match w with|.int k=>decide ((ws.length:Int)=2^k.toNat)|_=>false)=(lg ws.length).map fun(k:Nat)=>W.int (0+(k:Int)):=by
  rw[e,w3a];unfold lg;congr 2;funext k
  simp only[Function.comp];rw[show(0+(k:Int)).toNat=k by omega]
  have:((ws.length:Int)=2^k)↔2^k=ws.length:=by
   constructor
   ·intro h;exact_mod_cast h.symm
   ·intro h;exact_mod_cast h.symm
  simp only[this]
 rw[e2]at h;cases q:lg ws.length with
 |some m=>
  rw[q]at h;obtain⟨e',h1⟩:=h.1 _ rfl;rw[h1];walk_at "den";simp[placesR]
 |none=>
  rw[q]at h;obtain⟨z',h1⟩:=h.2 rfl;rw[h1];walk_at "den";rfl
noncomputable def sizesW:List W:=[.int 1,.int 2,.int 4,.int 8,.int 16,.int 32,.int 64,.int 128,.int 256,.int 512,.int 1024]
theorem y02(n:Nat):(sizesW.any fun y=>eqS y (.int (n:Int)))=(lg n).isSome:=by
 have e:sizesW=(List.range 11).map fun(m:Nat)=>W.int (2^m):=rfl
 rw[e,w4t];unfold lg;apply w0x.mpr;rw[w2e,List.find?_isSome]
 have key:∀m:Nat,((fun y=>eqS y (.int (n:Int))) ∘ fun(m:Nat)=>W.int (2^m)) m=true↔decide (2^m=n)=true:=fun m=>by
  show(((2:Int)^m==(n:Int))=true)↔_;rw[beq_iff_eq,decide_eq_true_eq];constructor
  ·intro h;exact_mod_cast h
  ·intro h;exact_mod_cast h
 constructor
 ·rintro⟨m,hm,h⟩;exact⟨m,hm,(key m).mp h⟩
 ·rintro⟨m,hm,h⟩;exact⟨m,hm,(key m).mpr h⟩
theorem y03(n:Nat):ninW (.int (n:Int)) (.lst sizesW)=some (.bl (!(lg n).isSome)):=by
 show(if scalW (.int (n:Int))=true/\sizesW.all scalW=true then some (W.bl (!sizesW.any fun y=>eqS y (.int (n:Int))))else none)=_
 rw[if_pos ⟨rfl,rfl⟩,y02]
theorem x3d(M:Exs K mg a)(n:Nat):run K a (n+1) q14 [.exc (.ref a.NoTable)]=.ok (.fr (.str "table")):=by
 rw[q26];unfold q3u;walk_at "den";rw[q3o M.c_NoTable M.k_NoTable_NoPlace];walk_at "den";rw[q3o M.c_NoTable M.k_NoTable_NoName];walk_at "den";rw[q3o M.c_NoTable M.k_NoTable_BadText];walk_at "den";rw[q3o M.c_NoTable M.k_NoTable_NoRow];walk_at "den";rw[q3o M.c_NoTable M.k_NoTable_NoTable];walk_at "den";rw[q3o M.c_NoTable M.k_NoTable_UnlikeSizes];walk_at "den";rw[q3o M.c_NoTable M.k_NoTable_TooGreat];walk_at "den";rw[q3o M.c_NoTable M.k_NoTable_NoMachine];walk_at "den";rw[q3o M.c_NoTable M.k_NoTable_BadSheet];walk_at "den";rw[q3o M.c_NoTable M.k_NoTable_ValueError];walk_at "den"
theorem y04(h:lg n=some m):idxI (n:Int) [1,2,4,8,16,32,64,128,256,512,1024]=some m:=by
 obtain⟨h1,rfl⟩:=x6w h;have:m=0\/m=1\/m=2\/m=3\/m=4\/m=5\/m=6\/m=7\/m=8\/m=9\/m=10:=by omega
 rcases this with h|h|h|h|h|h|h|h|h|h|h<;>(subst h;decide)
theorem z1w(h:m<=10):lg (2^m)=some m:=by
 have:m=0\/m=1\/m=2\/m=3\/m=4\/m=5\/m=6\/m=7\/m=8\/m=9\/m=10:=by omega
 rcases this with h|h|h|h|h|h|h|h|h|h|h<;>(subst h;decide)
theorem z1x{xs:List W}{k:Nat}(h:k<=xs.length):cutW xs none (some (k:Int))=xs.take k:=by
 unfold cutW;rw[HT.sIx_none,HT.sIx_nat,w3h h];simp
theorem y3t{xs:List W}{k:Nat}(h:k<=xs.length):cutW xs (some (k:Int)) none=xs.drop k:=by
 unfold cutW;rw[HT.sIx_none,HT.sIx_nat,w3h h];exact w2w (by simp)
noncomputable def rwF(row:List Bool):Rw:=fun p=>row.getD p false
noncomputable def wkE(ns:List Nd)(R:Nat)(row:List Bool)(r:Nat)(z:S):List S:=[.fr (grW ns R),.fr (.tup (row.map .bl)),.fr (.int r),z]
theorem x46{c:Den Bool}{b:List S->SR}{R:Nat}{row:List Bool}(g:GOk m ns)(hc0:∀r z,r<2->c (wkE ns R row r z)=.ok false (wkE ns R row r z))(hc1:∀r z,¬r<2->c (wkE ns R row r z)=.ok true (wkE ns R row r z))
  (hb:∀k x z,ns[k]?=some x->∃z',b (wkE ns R row (k+2) z)=.nx (wkE ns R row (if rwF row x.1=true then x.2.2 else x.2.1) z')):∀(N r F:Nat)(z:S),r<N->r<ns.length+2->r<F->∃q z',whileD c b F (wkE ns R row r z)=.nx (wkE ns R row q z')/\q<2/\decide (q=1)=ev ns (rwF row) r
 |N+1,r,F,z,hN,hr,hF=>by
  obtain⟨F,rfl⟩:∃f,F=f+1:=⟨F-1,by omega⟩
  by_cases h2:r<2
  ·exact⟨r,z,wend (hc0 r z h2),h2,(q13 h2).symm⟩
  ·obtain⟨k,rfl⟩:∃k,r=k+2:=⟨r-2,by omega⟩;have e:ns[k]?=some ns[k]:=w0a (by omega);obtain⟨z1,h1⟩:=hb k _ z e;obtain⟨_,_,a1,a2,_⟩:=g.nd k _ e;rw[wstep (hc1 _ z h2) h1,q2i e];split
   ·exact x46 g hc0 hc1 hb N _ F z1 (by omega) (by omega) (by omega)
   ·exact x46 g hc0 hc1 hb N _ F z1 (by omega) (by omega) (by omega)
theorem x5u(n:Nat){row:List Bool}(g:GG m ns r)(hl:ns.length<=16384)(hm:m<=row.length):run K a (n+1) q4h [grW ns r,.tup (row.map .bl)]=.ok (.fr (.bl (ev ns (rwF row) r))):=by
 have hlt:=g.lt
 obtain⟨q,z',h1,h2,h3⟩:=x46 (c:=q4k K a (run K a n)) (b:=q51 K a (run K a n)) (R:=r) (row:=row) g.ok (fun r' z h=>by
   unfold q4k wkE;walk_at "den";rw[decide_eq_false (by omega)]) (fun r' z h=>by
   unfold q4k wkE;walk_at "den";rw[decide_eq_true (by omega)]) (fun k x z hx=>by
   obtain⟨p,lo,hi⟩:=x;have hp:p<row.length:=w0m (g.ok.nd k _ hx).1 hm;refine⟨.fr (ndW (p,lo,hi)),?_⟩;unfold q51 wkE;walk_at "den";rw[x44];walk_at "den";rw[show((k+2:Nat):Int)-2=(k:Int)from by omega,q5w hx];simp only[ndW,nW];walk_at "den";rw[z1o hp];walk_at "den";unfold rwF;cases row.getD p false<;>rfl) (r+1) r 1000000 .no (w1q _) hlt (by omega)
 rw[q56];unfold q5v;walk_at "den";rw[q8r];walk_at "den";rw[show[S.fr (grW ns r),S.fr (W.tup (row.map W.bl)),S.fr (W.int r),S.no]=wkE ns r row r .no from rfl,h1];unfold wkE;walk_at "den";rw[<- h3,show decide ((q:Int)=1)=decide (q=1)from decide_eq_decide.mpr (by omega)]
theorem y7u(q:Nd->Bool):∀ns:List Nd,any1 [.lst (ns.map fun x=>W.bl (q x))]=some (.bl (ns.any q)):=fun ns=>by
 have h:∀ns:List Nd,boolsW (ns.map fun x=>W.bl (q x))=some (ns.map q):=fun ns=>by
  induction ns with
  |nil=>rfl
  |cons x ns ih=>
   show(boolsW (ns.map fun x=>W.bl (q x))).map (q x::·)=_
   rw[ih];rfl
 show(boolsW (ns.map fun x=>W.bl (q x))).map (fun bs=>W.bl (bs.any id))=_
 rw[h];show some (W.bl ((ns.map q).any id))=_;rw[w4t];rfl
theorem x2u(n:Nat)(hl:ns.length<=16384):run K a (n+1) q2k [grW ns r,.int L]=if(ns.any fun x=>decide (L<=x.1))=true then .ex (.ref a.NoPlace)else .ok (.fr .non):=by
 rw[q49];unfold q4i;walk_at "den";rw[x44];walk_at "den";rw[if_pos (by rw[w0c];omega)];simp only[frz1,pj1,w0o,w1g]
 rw[q4y (g:=fun x=>W.bl (decide (L<=x.1))) ns fun x _=>by
  refine⟨[.fr (ndW x),.fr (.int L)],?_⟩;obtain⟨p,lo,hi⟩:=x;unfold q60 ndW nW;walk_at "den";rw[show decide ((L:Int)<=(p:Int))=decide (L<=p)from decide_eq_decide.mpr (by omega)]]
 walk_at "den";rw[y7u];walk_at "den"
noncomputable def rcons(b:Bool)(row:Rw):Rw
 |0=>b
 |p+1=>row p
noncomputable def cntF:Nat->(Rw->Bool)->Nat
 |0,φ=>if φ (fun _=>false)=true then 1 else 0
 |M+1,φ=>cntF M (fun row=>φ (rcons false row))+cntF M (fun row=>φ (rcons true row))
theorem x2v(b c:Bool)(row:Rw):rset (rcons b row) 0 c=rcons c row:=by
 funext p
 cases p with
 |zero=>rfl
 |succ p=>exact if_neg (by omega)
theorem x2w(b c:Bool)(row:Rw)(q:Nat):rset (rcons b row) (q+1) c=rcons b (rset row q c):=by
 funext p
 cases p with
 |zero=>exact if_neg (by omega)
 |succ p=>
  show(if p+1=q+1 then c else row p)=if p=q then c else row p
  by_cases h:p=q
  ·rw[if_pos h,if_pos (by omega)]
  ·rw[if_neg h,if_neg (by omega)]
theorem x2x:∀(M p:Nat)(ψ0 ψ1:Rw->Bool),p<M->(∀row b,ψ0 (rset row p b)=ψ0 row)->(∀row b,ψ1 (rset row p b)=ψ1 row)->2*cntF M (fun row=>if row p=true then ψ1 row else ψ0 row)=cntF M ψ0+cntF M ψ1
 |M+1,0,ψ0,ψ1,_,h0,h1=>by
  have e0:∀b row,ψ0 (rcons b row)=ψ0 (rcons false row):=fun b row=>by rw[<- h0 (rcons b row) false,x2v]
  have e1:∀b row,ψ1 (rcons b row)=ψ1 (rcons true row):=fun b row=>by rw[<- h1 (rcons b row) true,x2v]
  show 2*(cntF M (fun row=>if(false:Bool)=true then ψ1 (rcons false row)else ψ0 (rcons false row))+cntF M (fun row=>if(true:Bool)=true then ψ1 (rcons true row)else ψ0 (rcons true row)))=(cntF M (fun row=>ψ0 (rcons false row))+cntF M (fun row=>ψ0 (rcons true row)))+(cntF M (fun row=>ψ1 (rcons false row))+cntF M (fun row=>ψ1 (rcons true row)))
  simp only[w1l,if_false,if_true];rw[show(fun row=>ψ0 (rcons true row))=fun row=>ψ0 (rcons false row)from funext fun row=>e0 true row,show(fun row=>ψ1 (rcons false row))=fun row=>ψ1 (rcons true row)from funext fun row=>e1 false row]
  omega
 |M+1,q+1,ψ0,ψ1,hp,h0,h1=>by
  have i1:=fun b:Bool=>x2x M q (fun row=>ψ0 (rcons b row)) (fun row=>ψ1 (rcons b row)) (by omega) (fun row c=>by rw[<- x2w];exact h0 _ _) (fun row c=>by rw[<- x2w];exact h1 _ _)
  have a:=i1 false;have b:=i1 true;show 2*(cntF M (fun row=>if row q=true then ψ1 (rcons false row)else ψ0 (rcons false row))+cntF M (fun row=>if row q=true then ψ1 (rcons true row)else ψ0 (rcons true row)))=(cntF M (fun row=>ψ0 (rcons false row))+cntF M (fun row=>ψ0 (rcons true row)))+(cntF M (fun row=>ψ1 (rcons false row))+cntF M (fun row=>ψ1 (rcons true row)))
  omega
theorem q9a:∀(M:Nat)(φ:Rw->Bool),cntF M φ+cntF M (fun row=>!φ row)=2^M
 |0,φ=>by
  show(if φ _=true then 1 else 0)+(if(!φ _)=true then 1 else 0)=1;cases φ fun _=>false<;>rfl
 |M+1,φ=>by
  have a:=q9a M fun row=>φ (rcons false row)
  have b:=q9a M fun row=>φ (rcons true row)
  show(cntF M (fun row=>φ (rcons false row))+cntF M (fun row=>φ (rcons true row)))+(cntF M (fun row=>!φ (rcons false row))+cntF M (fun row=>!φ (rcons true row)))=_
  rw[w2b];omega
theorem x2y(M:Nat):cntF M (fun _=>false)=0:=by
 induction M with
 |zero=>rfl
 |succ M ih=>show cntF M (fun _=>false)+cntF M (fun _=>false)=0;rw[ih]
noncomputable def cn(ns:List Nd)(M r:Nat):Nat:=cntF M fun row=>ev ns row r
theorem cn_0(ns:List Nd)(M:Nat):cn ns M 0=0:=by
 unfold cn;rw[show(fun row=>ev ns row 0)=fun _=>false from funext fun row=>q13 (by decide)]
 exact x2y M
theorem cn_1(ns:List Nd)(M:Nat):cn ns M 1=2^M:=by
 have:=q9a M fun row=>ev ns row 1
 rw[show(fun row=>!ev ns row 1)=fun _=>false from funext fun row=>by rw[q13 (by decide)];rfl,x2y]at this
 exact this
theorem y7v(g:GOk m ns){M k:Nat}(h:ns[k]?=some x)(hp:x.1<M):2*cn ns M (k+2)=cn ns M x.2.1+cn ns M x.2.2:=by
 obtain⟨_,_,a1,a2,a3,a4⟩:=g.nd k x h;have hk:=(w0b.mp h).1;have:=x2x M x.1 (fun row=>ev ns row x.2.1) (fun row=>ev ns row x.2.2) hp (fun row b=>y0k g (by omega) a3) (fun row b=>y0k g (by omega) a4)
 unfold cn;rw[<- this];congr 1;congr 1;funext row
 rw[q2i h];cases row x.1<;>rfl
theorem y7w(g:GOk m ns){M:Nat}(hr:r<ns.length+2):cn ns M r+cn (ns.map tnd) M (oe r)=2^M:=by
 have:=q9a M fun row=>ev ns row r
 rw[<- this];unfold cn;congr 1;congr 1;funext row
 exact x1m g row (r+1) r (w1q _) hr
theorem x8c{f:Nat->Nat}{k:Nat}(h:k<L):atI (((List.range L).map f).map nJ) (k:Int)=some (.int (f k:Nat)):=q4u (by simp[h,nJ])
theorem y7x(n:Nat)(g:GOk m ns)(hl:ns.length<=16384){M k:Nat}(h:ns[k]?=some x)(hp:x.1<M)(s0 s1:S):q43 K a (run K a n) [s0,s1,.own none (((List.range (k+2)).map (cn ns M)).map nJ),.fr (ndW x)]=.nx [s0,s1,.own none (((List.range (k+3)).map (cn ns M)).map nJ),.fr (ndW x)]:=by
 obtain⟨_,_,a1,a2,_⟩:=g.nd k x h;have hk:=(w0b.mp h).1;have hn:=y7v g h hp;obtain⟨p,lo,hi⟩:=x;have a1:lo<k+2:=a1;have a2:hi<k+2:=a2;have hn:2*cn ns M (k+2)=cn ns M lo+cn ns M hi:=hn;unfold q43 ndW nW;walk_at "den";rw[x8c a1];walk_at "den";rw[x8c a2];walk_at "den";rw[if_pos (by simp only[w0c,w2y];omega)];rw[show((cn ns M lo:Int)+(cn ns M hi:Int)) / 2=(cn ns M (k+2):Int)from by omega,List.range_succ (n:=k+2),w0r,w0r];rfl
theorem for_ix{i:Nat}{b:List S->SR}(I:Nat->List S->Prop):∀(ws:List W)(k:Nat)(e:List S),I k e->(∀(j:Nat)(w:W)(e:List S),ws[j]?=some w->I (k+j) e->∃e',b (e.set i (.fr w))=.nx e'/\I (k+j+1) e')->∃e',forD i b ws e=.nx e'/\I (k+ws.length) e'
 |[],k,e,h,_=>⟨e,rfl,h⟩
 |w::ws,k,e,h,hb=>by
  obtain⟨e1,h1,h2⟩:=hb 0 w e rfl h
  obtain⟨e',h3,h4⟩:=for_ix I ws (k+1) e1 h2 fun j w' e' hw hI=>by
   have:=hb (j+1) w' e' hw (by rw[show k+(j+1)=k+1+j by omega];exact hI);rw[show k+(j+1)+1=k+1+j+1 by omega]at this;exact this
  refine⟨e',?_,by rw[w0v,show k+(ws.length+1)=k+1+ws.length by omega];exact h4⟩;rw[q6o,h1];exact h3
theorem q66(n:Nat)(g:GG m ns r)(hl:ns.length<=16384){M:Nat}(hM:M<=14)(hp:∀x∈ns,x.1<M):run K a (n+2) q1t [grW ns r,.int M]=.ok (.fr (.int (cn ns M r))):=by
 have hc:(ns.any fun x=>decide (M<=x.1))=false:=by
  rw[w1j];intro z;obtain⟨x,hx,h⟩:=w2e.mp z;have:=hp x hx;have:=of_decide_eq_true h;omega
 rw[q6t];unfold q59;walk_at "den";rw[x2u n hl,hc];walk_at "den";rw[q77 n _ (by omega) (by omega)];walk_at "den";rw[x44];walk_at "den"
 obtain⟨e',h1,z,rfl⟩:=for_ix (i:=3) (b:=q43 K a (run K a (n+1))) (fun j e=>∃z,e=[.fr (grW ns r),.fr (.int M),.own none (((List.range (j+2)).map (cn ns M)).map nJ),z]) (ns.map ndW) 0 [.fr (grW ns r),.fr (.int M),.own none [.int 0,.int (2^(M:Int).toNat)],.no] ⟨.no,by
   show _=[_,_,S.own none [nJ (cn ns M 0),nJ (cn ns M 1)],_];rw[cn_0,cn_1];show _=[_,_,S.own none [W.int ((0:Nat):Int),W.int ((2^M:Nat):Int)],_];rw[show((2^M:Nat):Int)=2^(M:Int).toNat from by simp];rfl⟩ (by
  rintro j w e hw ⟨z,rfl⟩;rw[w0h]at hw;obtain⟨x,hx,rfl⟩:=w0f.mp hw;rw[w3j];exact⟨_,y7x (n+1) g.ok hl hx (hp x (w0u hx)) _ _,_,rfl⟩)
 rw[h1];walk_at "den";rw[q8r];walk_at "den";rw[x8c (by rw[w0c];have:=g.lt;omega)];walk_at "den"
theorem y05(g:GOk m ns){M:Nat}(hp:∀x∈ns,x.1<M){k:Nat}(h:ns[k]?=some x):x.1<plc ns M x.2.1/\x.1<plc ns M x.2.2:=by
 obtain⟨_,_,a1,a2,a3,a4⟩:=g.nd k x h;have hx:=hp x (w0u h);have hk:=(w0b.mp h).1
 have key:∀r,r<k+2->x.1<plc ns m r->x.1<plc ns M r:=fun r hr h=>by
  by_cases h2:r<2
  ·rw[q4w h2];exact hx
  ·obtain⟨j,rfl⟩:∃j,r=j+2:=⟨r-2,by omega⟩;have e:ns[j]?=some ns[j]:=w0a (by omega);rw[q3m e]at h |-
   exact h
 exact⟨key _ a1 a3,key _ a2 a4⟩
noncomputable def lst(ns:List Nd)(M:Nat):Nat->Nat->Nat->List Bool
 |0,_,_=>[]
 |d+1,q,r=>if r<2\/plc ns M r≠q then false::lst ns M d (q+1) r else match ns[r-2]? with
  |some x=>if x.2.1=0 then true::lst ns M d (q+1) x.2.2 else false::lst ns M d (q+1) x.2.1
  |none=>[]
noncomputable def allR:Nat->List (List Bool)
 |0=>[[]]
 |d+1=>(allR d).map (false::·)++(allR d).map (true::·)
theorem q2f:∀d,(allR d).length=2^d
 |0=>rfl
 |d+1=>by
  show((allR d).map (false::·)++(allR d).map (true::·)).length=_;rw[w0g,w0c,w0c,q2f d,w2b];omega
theorem q73:∀d r,r∈allR d->r.length=d
 |0,r,h=>by rw[w0n.mp h];rfl
 |d+1,r,h=>by
  rcases w1r.mp h with h|h<;>
  ·obtain⟨t,ht,rfl⟩:=w1u.mp h;rw[w0v,q73 d t ht]
noncomputable def rsh(pre:Rw)(q:Nat)(l:List Bool):Rw:=fun p=>if p<q then pre p else l.getD (p-q) false
theorem x47(pre:Rw)(q:Nat)(b:Bool)(l:List Bool):rsh pre q (b::l)=rsh (rset pre q b) (q+1) l:=by
 funext p
 unfold rsh rset
 by_cases h:p<q
 ·rw[if_pos h,if_pos (by omega),if_neg (by omega)]
 ·rw[if_neg h]
  by_cases e:p=q
  ·subst e;rw[if_pos (by omega),if_pos rfl,w2n];rfl
  ·rw[if_neg (by omega),show p-q=(p-(q+1))+1 by omega];rfl
theorem x48(g:GOk m ns){M:Nat}(hp:∀x∈ns,x.1<M):∀(d q r:Nat)(pre:Rw),q+d=M->r<ns.length+2->r≠0->q<=plc ns M r->(allR d).find? (fun l=>ev ns (rsh pre q l) r)=some (lst ns M d q r)
 |0,q,r,pre,hq,hr,h0,hpl=>by
  have h2:r<2:=Classical.byContradiction fun z=>by
   obtain⟨k,rfl⟩:∃k,r=k+2:=⟨r-2,by omega⟩;have e:ns[k]?=some ns[k]:=w0a (by omega);rw[q3m e]at hpl;have:=hp _ (w0u e);omega
  have:r=1:=by omega
  subst this;show([[]]:List (List Bool)).find? _=some [];rw[w2v];rw[q13 (by decide)];rfl
 |d+1,q,r,pre,hq,hr,h0,hpl=>by
  have none0:∀(b:Bool),((allR d).map (b::·)).find? (fun l=>ev ns (rsh pre q l) 0)=none:=fun b=>by
   rw[w4o];intro l _;rw[q13 (by decide)];decide
  have step:∀(b:Bool)(r':Nat),r'<ns.length+2->r'≠0->q+1<=plc ns M r'->((allR d).map (b::·)).find? (fun l=>ev ns (rsh pre q l) r')=some (b::lst ns M d (q+1) r'):=fun b r' hr' h0' hp'=>by
   have ih:=x48 g hp d (q+1) r' (rset pre q b) (by omega) hr' h0' hp';rw[w3a];show((allR d).find? fun l=>ev ns (rsh pre q (b::l)) r').map _=_
   rw[show(fun l=>ev ns (rsh pre q (b::l)) r')=fun l=>ev ns (rsh (rset pre q b) (q+1) l) r' from funext fun l=>by rw[x47],ih]
   rfl
  show((allR d).map (false::·)++(allR d).map (true::·)).find? _=_;rw[w2x];unfold lst
  by_cases hc:r<2\/plc ns M r≠q
  ·rw[if_pos hc,step false r hr h0 (by
    rcases hc with hc|hc
    ·rw[q4w hc];omega
    ·omega)]
   rfl
  ·rw[if_neg hc];obtain⟨k,rfl⟩:∃k,r=k+2:=⟨r-2,by omega⟩;have e:ns[k]?=some ns[k]:=w0a (by omega);obtain⟨_,ne,a1,a2,_⟩:=g.nd k _ e;obtain⟨p1,p2⟩:=y05 g hp e;have hpq:ns[k].1=q:=by rw[q3m e]at hc;omega
   rw[w2g,e];show _=some (if ns[k].2.1=0 then true::lst ns M d (q+1) ns[k].2.2 else false::lst ns M d (q+1) ns[k].2.1)
   have br:∀(b:Bool),((allR d).map (b::·)).find? (fun l=>ev ns (rsh pre q l) (k+2))=((allR d).map (b::·)).find? (fun l=>ev ns (rsh pre q l) (if b=true then ns[k].2.2 else ns[k].2.1)):=fun b=>by
    rw[w3a,w3a];congr 2;funext l
    show ev ns (rsh pre q (b::l)) (k+2)=ev ns (rsh pre q (b::l)) _;rw[q2i e,hpq,show rsh pre q (b::l) q=b from by unfold rsh;rw[if_neg (by omega),w2n];rfl]
   rw[br false,br true];simp only[w1l,if_false,if_true]
   by_cases hz:ns[k].2.1=0
   ·rw[if_pos hz,hz,none0 false,step true ns[k].2.2 (by omega) (by omega) (by omega)];rfl
   ·rw[if_neg hz,step false ns[k].2.1 (by omega) hz (by omega)];rfl
theorem x49(φ:Rw->Bool):∀(d q:Nat)(pre:Rw),((allR d).filter fun l=>φ (rsh pre q l)).length=cntF d fun row=>φ fun p=>if p<q then pre p else row (p-q)
 |0,q,pre=>by
  show(([[]]:List (List Bool)).filter _).length=if _ then 1 else 0;rw[w1z];have:rsh pre q []=fun p=>if p<q then pre p else false:=rfl
  rw[this];split<;>rfl
 |d+1,q,pre=>by
  show(((allR d).map (false::·)++(allR d).map (true::·)).filter _).length=_+_;rw[w4p,w0g]
  have key:∀b,(((allR d).map (b::·)).filter fun l=>φ (rsh pre q l)).length=cntF d fun row=>φ fun p=>if p<q then pre p else rcons b row (p-q):=fun b=>by
   rw[List.filter_map,w0c];rw[show((fun l=>φ (rsh pre q l)) ∘ (b::·))=fun l=>φ (rsh (rset pre q b) (q+1) l)from funext fun l=>by show φ (rsh pre q (b::l))=_;rw[x47],x49 φ d (q+1) (rset pre q b)]
   congr 1;funext row
   congr 1;funext p
   unfold rset
   by_cases h:p<q
   ·rw[if_pos (by omega),if_neg (by omega),if_pos h]
   ·rw[if_neg h]
    by_cases e:p=q
    ·subst e;rw[if_pos (by omega),if_pos rfl,w2n];rfl
    ·rw[if_neg (by omega),show p-q=(p-(q+1))+1 by omega];rfl
  rw[key,key]
theorem x6x(n:Nat)(s0 s1 s3 s4:S)(r:Nat):q3z K a (run K a (n+1)) [s0,s1,.fr (.int r),s3,s4]=.ok (!decide (r<2)) [s0,s1,.fr (.int r),s3,s4]:=by
 unfold q3z;walk_at "den";rw[q5x n];walk_at "den"
theorem y7y(n:Nat){R k:Nat}(h:ns[k]?=some x)(s1 z:S)(pre suf:List Bool)(b0:Bool)(hp:pre.length=x.1)(hl:pre.length<100):∃z',q30 K a (run K a (n+1)) [.fr (grW ns R),s1,.fr (.int (k+2:Nat)),.own none ((pre++b0::suf).map .bl),z]=.nx [.fr (grW ns R),s1,.fr (.int ((if x.2.1=0 then x.2.2 else x.2.1:Nat):Int)),.own none ((pre++decide (x.2.1=0)::suf).map .bl),z']:=by
 obtain⟨p,lo,hi⟩:=x;refine⟨.fr (ndW (p,lo,hi)),?_⟩;have hp:pre.length=p:=hp;unfold q30;walk_at "den";rw[q6a n h];simp only[ndW,nW];walk_at "den"
 have hin:ixN ((pre++b0::suf).map W.bl).length (p:Int)=some p:=by
  rw[w0c,w0g,w0v];unfold ixN;simp;omega
 rw[hin];show(SR.nx ([S.fr (grW ns R),s1,S.fr (W.int (k+2:Nat)),S.own none (((pre++b0::suf).map W.bl).set p (W.bl (decide ((lo:Int)=0)))),S.fr (W.tup [W.int p,W.int lo,W.int hi])])).seq _=_
 rw[show((pre++b0::suf).map W.bl).set p (W.bl (decide ((lo:Int)=0)))=(pre++decide (lo=0)::suf).map W.bl from by
  rw[w0r,w0i,w4b _ _ (by rw[w0c];omega),w0c,hp,w2n,w0r,w0i,w4q,show decide ((lo:Int)=0)=decide (lo=0)from decide_eq_decide.mpr (by omega)]]
 walk_at "den"
 by_cases hz:lo=0
 ·rw[if_pos (by omega),if_pos hz]
 ·rw[if_neg (by omega),if_neg hz]
theorem x5a(n:Nat){m:Nat}{ns:List Nd}(g:GOk m ns){M R:Nat}(hM:M<=14)(hp:∀x∈ns,x.1<M):∀(d q r F:Nat)(pre:List Bool)(z:S),q+d=M->pre.length=q->r<ns.length+2->r≠0->q<=plc ns M r->d<F->∃z',whileD (q3z K a (run K a (n+1))) (q30 K a (run K a (n+1))) F [.fr (grW ns R),.fr (.int M),.fr (.int r),.own none ((pre++List.replicate d false).map .bl),z]=.nx [.fr (grW ns R),.fr (.int M),.fr (.int (1:Nat)),.own none ((pre++lst ns M d q r).map .bl),z']
 |0,q,r,F,pre,z,hq,hl,hr,h0,hpl,hF=>by
  obtain⟨F,rfl⟩:∃f,F=f+1:=⟨F-1,by omega⟩
  have h2:r<2:=Classical.byContradiction fun z=>by
   obtain⟨k,rfl⟩:∃k,r=k+2:=⟨r-2,by omega⟩;have e:ns[k]?=some ns[k]:=w0a (by omega);rw[q3m e]at hpl;have:=hp _ (w0u e);omega
  have:r=1:=by omega
  subst this;exact⟨z,wend (by rw[x6x];rfl)⟩
 |d+1,q,r,F,pre,z,hq,hl,hr,h0,hpl,hF=>by
  by_cases hc:r<2\/plc ns M r≠q
  ·obtain⟨z',h⟩:=x5a n g (R:=R) hM hp d (q+1) r F (pre++[false]) z (by omega) (by simp[hl]) hr h0 (by
    rcases hc with hc|hc
    ·rw[q4w hc];omega
    ·omega) (by omega)
   refine⟨z',?_⟩;rw[lst,if_pos hc,w0y];rw[w1h,w1h]at h;exact h
  ·obtain⟨k,rfl⟩:∃k,r=k+2:=⟨r-2,by omega⟩;obtain⟨F,rfl⟩:∃f,F=f+1:=⟨F-1,by omega⟩;have e:ns[k]?=some ns[k]:=w0a (by omega);obtain⟨_,ne,a1,a2,_⟩:=g.nd k _ e;obtain⟨p1,p2⟩:=y05 g hp e;have hpq:ns[k].1=q:=by rw[q3m e]at hc;omega
   obtain⟨z1,h1⟩:=y7y (K:=K) (a:=a) n (R:=R) e (.fr (.int M)) z pre (List.replicate d false) false (by omega) (by omega);obtain⟨z',h⟩:=x5a n g (R:=R) hM hp d (q+1) (if ns[k].2.1=0 then ns[k].2.2 else ns[k].2.1) F (pre++[decide (ns[k].2.1=0)]) z1 (by omega) (by simp[hl]) (by split<;>omega) (by split<;>omega) (by split<;>omega) (by omega);refine⟨z',?_⟩;rw[w0y,wstep (by rw[x6x,decide_eq_false (by omega)];rfl) h1];rw[w1h,w1h]at h;refine Eq.trans h ?_;rw[lst,if_neg hc,w2g,e];show _=SR.nx [_,_,_,S.own none ((pre++if ns[k].2.1=0 then _ else _).map W.bl),_]
   by_cases hz:ns[k].2.1=0
   ·rw[if_pos hz,if_pos hz,decide_eq_true hz];rfl
   ·rw[if_neg hz,if_neg hz,decide_eq_false hz];rfl
theorem y06(m:Nat)(h:m<=100):repL (.lst [.bl false]) (.int (m:Int))=some ((List.replicate m false).map W.bl):=by
 show(if okI (m:Int)=true/\[W.bl false].length*(m:Int).toNat<=16777216 then some (List.replicate (m:Int).toNat [W.bl false]).flatten else none)=_;rw[if_pos ⟨q7a (by omega) (by omega),by simp;omega⟩,w2o];congr 1
 induction m with
 |zero=>rfl
 |succ m ih=>rw[w0y,w1w,ih (by omega),w0y,w0i];rfl
theorem y07(n:Nat)(g:GG m ns r)(hl:ns.length<=16384){M:Nat}(hM:M<=14)(hp:∀x∈ns,x.1<M):run K a (n+3) q20 [grW ns r,.int M]=.ok (.fr (if r=0 then .non else .tup ((lst ns M M 0 r).map .bl))):=by
 have hc:(ns.any fun x=>decide (M<=x.1))=false:=by
  rw[w1j];intro z;obtain⟨x,hx,h⟩:=w2e.mp z;have:=hp x hx;have:=of_decide_eq_true h;omega
 rw[q5l];unfold q44;walk_at "den";rw[x2u (n+1) hl,hc];walk_at "den";rw[q8r];walk_at "den"
 by_cases h0:r=0
 ·rw[if_pos (by omega),if_pos h0]
 ·rw[if_neg (by omega),if_neg h0,y06 M (by omega)];walk_at "den";obtain⟨z',h⟩:=x5a (K:=K) (a:=a) (n+1) g.ok (R:=r) hM hp M 0 r 1000000 [] .no (by omega) rfl g.lt h0 (w1i _) (by omega);rw[w2m,w2m]at h;rw[h];walk_at "den"
noncomputable def rowN(M k:Nat):List Bool:=(List.range M).map fun j=>decide (k / 2^(M-1-j)%2=1)
theorem x2z(M k:Nat):rowN (M+1) k=decide (k / 2^M%2=1)::rowN M k:=by
 unfold rowN;rw[w2u,w0i,w1f];congr 1;apply w1x;intro j hj;show decide (k / 2^(M+1-1-(j+1))%2=1)=_;rw[show M+1-1-(j+1)=M-1-j by omega]
theorem y3u(M k:Nat):rowN M (2^M+k)=rowN M k:=by
 unfold rowN;apply w1x;intro j hj;have hj:=w1d.mp hj;congr 2
 have:2^M=2^(M-1-j)*(2*2^j):=by
  rw[<- Nat.pow_succ',<- Nat.pow_add];congr 1;omega
 rw[this,Nat.mul_add_div (w2z (by decide)),Nat.add_mod,Nat.mul_mod_right];simp
theorem x5b:∀M,(List.range (2^M)).map (rowN M)=allR M
 |0=>rfl
 |M+1=>by
  rw[w2b,Nat.mul_two,List.range_add,w0r,w1f];show _=(allR M).map (false::·)++(allR M).map (true::·);rw[<- x5b M,w1f,w1f];congr 1
  ·apply w1x;intro k hk;have hk:=w1d.mp hk;rw[x2z,Nat.div_eq_of_lt hk];rfl
  ·apply w1x;intro k hk;have hk:=w1d.mp hk;show rowN (M+1) (2^M+k)=true::rowN M k;rw[x2z,y3u,Nat.add_div_left _ (w2z (by decide)),Nat.div_eq_of_lt hk];rfl
theorem q74(M k:Nat):(rowN M k).length=M:=by unfold rowN;simp
theorem x8d(n:Nat){k:Nat}(hm:m<=14):run K a (n+2) q3n [.int (k:Int),.int (m:Int)]=.ok (.fr (.tup ((rowN m k).map .bl))):=by
 rw[q5a];unfold q4j;walk_at "den";rw[if_pos (q7a (by omega) (by omega))];walk_at "den"
 obtain⟨e',h2,z,rfl⟩:=q7r (b:=q48 K a (run K a (n+1))) (i:=3) (lo:=0) (hi:=(m:Int)) m (by omega) (fun j e=>∃z,e=[.fr (.int k),.fr (.int m),.own none (((rowN m k).take j).map .bl),z]) [.fr (.int k),.fr (.int m),.own none [],.no] ⟨_,rfl⟩ (by
  rintro j e hj ⟨z,rfl⟩;unfold q48;walk_at "den";rw[x2t n _ (by omega) (by omega)];walk_at "den"
  have h5:(2:Int)^((m:Int)-1-(0+(j:Int))).toNat=(((2:Nat)^(m-1-j):Nat):Int):=by
   rw[show((m:Int)-1-(0+(j:Int))).toNat=m-1-j by omega];simp
  have hp:(0:Int)<2^((m:Int)-1-(0+(j:Int))).toNat/\(2:Int)^((m:Int)-1-(0+(j:Int))).toNat<1073741824:=by
   have h1:(2:Nat)^(m-1-j)<=2^14:=w1k (by decide) (by omega);have h2:0<(2:Nat)^(m-1-j):=w2z (by decide);have h4:(2:Nat)^14=16384:=by decide
   rw[h5];omega
  rw[if_pos hp,h5];walk_at "den";rw[if_pos (by rw[w0c,w1y,q74];omega)];refine⟨_,rfl,.fr (.int (0+(j:Int))),?_⟩
  have hg:(rowN m k)[j]?=some (decide (k / 2^(m-1-j)%2=1)):=by
   unfold rowN;simp[hj]
  rw[List.take_add_one,hg,w0r,show decide ((k:Int) / ((2^(m-1-j):Nat):Int)%2=1)=decide (k / 2^(m-1-j)%2=1)from decide_eq_decide.mpr (by rw[<- Int.natCast_ediv];omega)];rfl)
 rw[h2];walk_at "den";rw[w2w (by rw[q74];exact w0e _)]
theorem x5c(pre:Rw)(l:List Bool):rsh pre 0 l=fun p=>l.getD p false:=by
 funext p
 unfold rsh;rw[if_neg (by omega),Nat.sub_zero]
theorem x6y(ns:List Nd)(M r:Nat):cn ns M r=((allR M).filter fun l=>ev ns (fun p=>l.getD p false) r).length:=by
 have:=x49 (fun row=>ev ns row r) M 0 (fun _=>false)
 rw[show(fun l=>ev ns (rsh (fun _=>false) 0 l) r)=fun l=>ev ns (fun p=>l.getD p false) r from funext fun l=>by rw[x5c]]at this
 rw[this];rfl
theorem x8e(g:GOk m ns){M:Nat}(hp:∀x∈ns,x.1<M)(hr:r<ns.length+2)(h0:r≠0):(allR M).find? (fun l=>ev ns (fun p=>l.getD p false) r)=some (lst ns M M 0 r):=by
 have:=x48 g hp M 0 r (fun _=>false) (by omega) hr h0 (w1i _)
 rw[show(fun l=>ev ns (rsh (fun _=>false) 0 l) r)=fun l=>ev ns (fun p=>l.getD p false) r from funext fun l=>by rw[x5c]]at this
 exact this
theorem x5d:∀l:List Bool,eqWs (l.map W.bl) (l.map W.bl)=some true
 |[]=>rfl
 |x::l=>by
  show(match some (x==x),eqWs (l.map W.bl) (l.map W.bl)with|some a,some b=>some (a&&b)|_,_=>none)=_;rw[x5d l,beq_self_eq_true];rfl
theorem x5e:∀l:List Bool,depWs (l.map W.bl)=0
 |[]=>rfl
 |x::l=>by
  show max 0 (depWs (l.map W.bl))=0;rw[x5e l];rfl
theorem z1y(l:List Bool):eq2 (.tup (l.map W.bl)) (.tup (l.map W.bl))=some (.bl true):=by
 show(if depWs (l.map W.bl)+1<=150 then(eqWs (l.map W.bl) (l.map W.bl)).map W.bl else none)=_;rw[x5e,if_pos (by decide),x5d];rfl
noncomputable def tkW(t:Nat×List Bool):W:=.tup [.int t.1,.tup (t.2.map .bl)]
noncomputable def kxT(t:Nat×List Bool):Kx:=.tup [.int t.1,.tup (t.2.map .bl)]
theorem y4h:∀bs:List Bool,kxWs (bs.map .bl)=some (bs.map .bl)
 |[]=>rfl
 |b::bs=>by
  show(match kxW (.bl b),kxWs (bs.map .bl)with|some k,some ks=>some (k::ks)|_,_=>none)=_;rw[y4h bs];rfl
theorem x6z:∀bs:List Bool,ConfM (bs.map .bl) .bl
 |[]=>trivial
 |_::bs=>⟨trivial,x6z bs⟩
theorem y08:∀bs:List Bool,Kx.depths (bs.map .bl)=0
 |[]=>rfl
 |b::bs=>by show max 0 (Kx.depths (bs.map .bl))=0;rw[y08 bs];rfl
theorem x07(t:Nat×List Bool):keyT (tkW t)=some (kxT t):=by
 show(match kxW (.int t.1),(match(kxWs (t.2.map .bl)).map Kx.tup,some []with|some k,some ks=>some (k::ks)|_,_=>none)with|some k,some ks=>some (k::ks)|_,_=>none).map Kx.tup=_;rw[y4h];rfl
theorem y7z(t:Nat×List Bool):fits (kxT t) (.tup [.int,.many .bl]):=⟨⟨trivial,x6z t.2,trivial⟩,by show max 0 (max (Kx.depths (t.2.map .bl)+1) 0)+1<=7;rw[y08];decide⟩
theorem x08:∀{x y:List Bool},x.map Kx.bl=y.map Kx.bl->x=y
 |[],[],_=>rfl
 |a::x,b::y,h=>by
  simp only[w0i,List.cons.injEq,Kx.bl.injEq]at h;rw[h.1,x08 h.2]
theorem x09:∀{x y:List Bool},x.map W.bl=y.map W.bl->x=y
 |[],[],_=>rfl
 |a::x,b::y,h=>by
  simp only[w0i,List.cons.injEq,W.bl.injEq]at h;rw[h.1,x09 h.2]
theorem y70{t u:Nat×List Bool}(h:kxT t=kxT u):t=u:=by
 unfold kxT at h;simp only[Kx.tup.injEq,List.cons.injEq,Kx.int.injEq,and_true]at h;exact Prod.ext (by have:=h.1;omega) (x08 h.2)
theorem x60{t u:Nat×List Bool}(h:tkW t=tkW u):t=u:=by
 unfold tkW at h;simp only[W.tup.injEq,List.cons.injEq,W.int.injEq,and_true]at h;exact Prod.ext (by have:=h.1;omega) (x09 h.2)
theorem z1z{Vd:Nat×List Bool->Prop}:PutOk tkW Vd:=by
 intro dd g t n hv hg hn t' hv';have h0:=hg t hv;have h1:=hg t' hv';cases dd with
 |k kv=>exact nomatch h0
 |t sh kv=>
  have ft:∀(t:Nat×List Bool) o,(DD.t sh kv).look (tkW t)=some o->fits (kxT t) sh/\lkG kv (kxT t)=o:=fun t o h=>by
   have h:(match keyT (tkW t)with|some x=>@ite _ (fits x sh) (Classical.propDecidable _) (some (lkG kv x)) none|none=>none)=some o:=h;rw[x07]at h
   by_cases z:fits (kxT t) sh
   ·simp only[if_pos z]at h;cases h;exact⟨z,rfl⟩
   ·simp only[if_neg z]at h;cases h
  obtain⟨f0,e0⟩:=ft t _ h0;obtain⟨f1,e1⟩:=ft t' _ h1;rw[x0r (x07 t),q6q (x07 t') f1,q7s,e1]
  by_cases z:t'=t
  ·subst z;rw[hn,if_pos rfl,if_pos rfl]
  ·rw[if_neg z];cases g t' with
   |some v=>rfl
   |none=>
    show some (@ite _ _ (Classical.propDecidable _) _ _)=_;rw[if_neg];intro y;exact z (y70 y).symm
theorem y3v{Vd:Nat×List Bool->Prop}{top:Nat×List Bool->Nat}{P:List Nd->Nat->Nat×List Bool->Prop}(t:Nat×List Bool):SI tkW Vd top m P ⟨[],[],dd0 (tkW t)⟩ [] fun _=>none:=by
 refine⟨rfl,.nil,fun k x h=>by simp at h,fun x _=>rfl,rfl,fun t' _=>?_,fun t' r _ h=>nomatch h⟩
 show(DD.t (.tup [.int,.many .bl]) []).look (tkW t')=some none;exact q6q (kv:=[]) (x07 t') (y7z t')
noncomputable def one(bs:List Bool):Bool:=bs.all fun b=>b==bs.headD false
theorem y71(n:Nat)(bs:List Bool)(h:0<bs.length)(hl:bs.length<=100000):run K a (n+1) q21 [.tup (bs.map .bl)]=.ok (.fr (.bl (one bs))):=by
 rw[q4o];unfold q31;walk_at "den";rw[if_pos (by rw[w0c];omega)];simp only[frz1,pj1,w0o,w1g]
 obtain⟨b0,r0,rfl⟩:∃x r,bs=x::r:=by
  cases bs with
  |nil=>simp at h
  |cons x r=>exact⟨x,r,rfl⟩
 rw[D.x32 (g:=fun w=>match w with|.bl b=>W.bl (b==b0)|w=>w)]
 ·walk_at "den"
  have e:((b0::r0).map W.bl).map (fun w=>match w with|.bl b=>W.bl (b==b0)|w=>w)=((b0::r0).map fun b=>b==b0).map W.bl:=by
   rw[w1f,w1f];rfl
  have e2:=z3l (bs:=(b0::r0).map fun b=>b==b0)
  simp only[w0i]at e e2;rw[e,e2];walk_at "den";unfold one;simp only[List.headD_cons,w2p,w4r,id];rfl
 ·intro w hw;obtain⟨b,_,rfl⟩:=w1u.mp hw;unfold q6s;rw[w0i];walk_at "den";exact⟨_,rfl⟩
noncomputable def ansT(t:Nat×List Bool):W:=if one t.2=true then .bl (t.2.headD false)else .tup [.int t.1,tkW (t.1+1,t.2.take (t.2.length / 2)),tkW (t.1+1,t.2.drop (t.2.length / 2))]
theorem y4i{bs:List Bool}(h:bs.length=1):one bs=true:=by
 match bs,h with
 |[b],_=>unfold one;simp
theorem z11{c:List Bool}{k:Nat}(h:k<c.length):slW (.tup (c.map W.bl)) none (some (k:Int))=some (.tup ((c.take k).map W.bl)):=by
 show(if ¬(HT.sIx (c.map W.bl).length 0 none=0/\HT.sIx (c.map W.bl).length (c.map W.bl).length (some (k:Int))=(c.map W.bl).length)then some (W.tup (cutW (c.map W.bl) none (some (k:Int))))else none)=_;rw[HT.sIx_nat,if_pos (by rw[w0c];omega),z1x (by rw[w0c];omega),w4n]
theorem z12{c:List Bool}{k:Nat}(h0:0<k)(h:k<=c.length):slW (.tup (c.map W.bl)) (some (k:Int)) none=some (.tup ((c.drop k).map W.bl)):=by
 show(if ¬(HT.sIx (c.map W.bl).length 0 (some (k:Int))=0/\HT.sIx (c.map W.bl).length (c.map W.bl).length none=(c.map W.bl).length)then some (W.tup (cutW (c.map W.bl) (some (k:Int)) none))else none)=_;rw[HT.sIx_nat,if_pos (by rw[w0c];omega),y3t (by rw[w0c];omega),List.map_drop]
theorem y09(n:Nat)(p:Nat)(bs:List Bool)(h:0<bs.length)(h2:one bs=true\/2<=bs.length)(hl:bs.length<=100000)(hp:p<=100):run K a (n+2) q0r [tkW (p,bs)]=.ok (.fr (ansT (p,bs))):=by
 rw[q3v];unfold q3i tkW;walk_at "den";rw[y71 n bs h hl];walk_at "den";unfold ansT
 by_cases ho:one bs=true
 ·rw[if_pos ho,if_pos ho]
  obtain⟨b0,r0,rfl⟩:∃x r,bs=x::r:=by
   cases bs with
   |nil=>simp at h
   |cons x r=>exact⟨x,r,rfl⟩
  rw[w0i];walk_at "den";rfl
 ·have h2:2<=bs.length:=h2.resolve_left ho;have hc:((((bs.map W.bl).length:Nat):Int) / 2)=((bs.length / 2:Nat):Int):=by rw[w0c];omega
  rw[if_neg ho,if_neg ho,hc];walk_at "den";rw[z11 (by omega)];walk_at "den";rw[z12 (by omega) (by omega)];walk_at "den";rfl
theorem x5f:∀bs:List Bool,noFns (bs.map W.bl)=true
 |[]=>rfl
 |b::bs=>by
  show(noFn (W.bl b)&&noFns (bs.map W.bl))=true;rw[x5f bs];rfl
theorem y72(t:Nat×List Bool):noFn (tkW t)=true:=by
 show(noFn (.int t.1)&&(noFns (t.2.map W.bl)&&true))=true;rw[x5f];rfl
def vdT(m:Nat)(t:Nat×List Bool):Prop:=∃k,t.1+k=m/\t.2.length=2^k
theorem q75(n:Nat)(hm:m<=13){t:Nat×List Bool}(hv:vdT m t):askF (run K a (n+2)) q0r [] (tkW t)=some (ansT t):=by
 obtain⟨p,bs⟩:=t;obtain⟨k,h1,h2⟩:=hv;have h1:p+k=m:=h1;have h2:bs.length=2^k:=h2;have hk:2^k<=2^13:=w1k (by decide) (by omega);have h13:2^13=8192:=by decide
 have h0:0<2^k:=w2z (by decide)
 have e:=y09 (K:=K) (a:=a) n p bs (by omega) (by
  cases k with
  |zero=>exact .inl (y4i h2)
  |succ k=>right;rw[h2,w2b];have:0<2^k:=w2z (by decide);omega) (by omega) (by omega)
 unfold askF;rw[y72,e]
noncomputable def tv:Nat->Nat->List Bool->Rw->Bool
 |0,_,ts,_=>ts.headD false
 |k+1,p,ts,row=>if row p=true then tv k (p+1) (ts.drop (2^k)) row else tv k (p+1) (ts.take (2^k)) row
theorem x5g{c:Bool}:∀(k p:Nat)(ts:List Bool),ts.length=2^k->(∀b∈ts,b=c)->tv k p ts row=c
 |0,p,ts,h,hc=>by
  match ts,h with
  |[b],_=>exact hc b (by simp)
 |k+1,p,ts,h,hc=>by
  have e:2^(k+1)=2^k+2^k:=by rw[w2b];omega
  unfold tv;split
  ·exact x5g k (p+1) _ (by rw[w2r];omega) fun b hb=>hc b (List.mem_of_mem_drop hb)
  ·exact x5g k (p+1) _ (by rw[w1y];omega) fun b hb=>hc b (List.mem_of_mem_take hb)
def TP(m:Nat)(ns:List Nd)(r:Nat)(t:Nat×List Bool):Prop:=∀row,ev ns row r=tv (m-t.1) t.1 t.2 row
theorem y73{bs:List Bool}(h:one bs=true):∀b∈bs,b=bs.headD false:=fun b hb=>by
 have:=w1c.mp h b hb
 simpa using this
theorem x1z{t t0 t1:Nat×List Bool}(hv:vdT m t)(h:ansT t=.tup [.int (p:Nat),tkW t0,tkW t1]):∃k,p=t.1/\t.1+(k+1)=m/\t.2.length=2^(k+1)/\t0=(t.1+1,t.2.take (2^k))/\t1=(t.1+1,t.2.drop (2^k)):=by
 obtain⟨k,h1,h2⟩:=hv;unfold ansT at h;split at h
 ·cases h
 ·rename_i ho;cases k with
  |zero=>exact absurd (y4i h2) ho
  |succ k=>
   have e:t.2.length / 2=2^k:=by rw[h2,w2b];omega
   rw[e]at h;simp only[W.tup.injEq,List.cons.injEq,W.int.injEq,and_true]at h;exact⟨k,by omega,h1,h2,(x60 h.2.1).symm,(x60 h.2.2).symm⟩
theorem y74(n:Nat)(hm:m<=13):AskOk tkW (vdT m) (fun t=>t.1) m (askF (run K a (n+2)) q0r []):=by
 intro t hv;rw[q75 n hm hv]
 by_cases ho:one t.2=true
 ·refine .inl ⟨t.2.headD false,?_⟩;unfold ansT;rw[if_pos ho]
 ·have e:ansT t=.tup [.int t.1,tkW (t.1+1,t.2.take (t.2.length / 2)),tkW (t.1+1,t.2.drop (t.2.length / 2))]:=if_neg ho;obtain⟨k,_,h1,h2,h3,h4⟩:=x1z hv e;rw[h3,h4]at e;refine .inr ⟨t.1,_,_,congrArg some e,by omega,w0e _,⟨k,?_,?_⟩,⟨k,?_,?_⟩,w1q _,w1q _⟩
  ·show t.1+1+k=m;omega
  ·show(t.2.take (2^k)).length=_;rw[w1y,h2,w2b];omega
  ·show t.1+1+k=m;omega
  ·show(t.2.drop (2^k)).length=_;rw[w2r,h2,w2b];omega
theorem x61{k:Nat}{t:Nat×List Bool}(h1:t.1+(k+1)=m):tv (m-t.1) t.1 t.2 row=if row t.1=true then tv (m-(t.1+1)) (t.1+1) (t.2.drop (2^k)) row else tv (m-(t.1+1)) (t.1+1) (t.2.take (2^k)) row:=by
 rw[show m-t.1=k+1 by omega,show m-(t.1+1)=k by omega];rfl
theorem y3w(n:Nat)(hm:m<=13):PropOk tkW (vdT m) m (TP m) (askF (run K a (n+2)) q0r []):=by
 refine⟨fun ns ext r t g hr h row=>?_,fun ns t c hv h row=>?_,fun ns t q t0 t1 r hv h h0 h1 row=>?_,fun ns t q t0 t1 lo hi k hv h hx h0 h1 row=>?_⟩
 ·rw[y0l g hr];exact h row
 ·rw[q75 n hm hv]at h;have h:=Option.some.inj h;unfold ansT at h;split at h
  ·rename_i ho;cases h;obtain⟨k,h1,h2⟩:=hv;rw[x5g (m-t.1) t.1 t.2 (by rw[h2];congr 1;omega) (y73 ho)];cases t.2.headD false<;>exact q13 (by decide)
  ·cases h
 ·rw[q75 n hm hv]at h;obtain⟨k,rfl,e1,e2,rfl,rfl⟩:=x1z hv (Option.some.inj h);rw[x61 e1];split
  ·exact h1 row
  ·exact h0 row
 ·rw[q75 n hm hv]at h;obtain⟨j,rfl,e1,e2,rfl,rfl⟩:=x1z hv (Option.some.inj h);rw[q2i hx,x61 e1];show ev ns row (if row t.1=true then hi else lo)=_;split
  ·exact h1 row
  ·exact h0 row
theorem x62(hm:m<=13)(l:Lm):∀(d n:Nat),NfSpec tkW (vdT m) (fun t=>t.1) m (TP m) d (recN (run K a (n+d+3)) q04 (.fn q0r l []))
 |d,n=>by
  have e:recN (run K a (n+d+3)) q04 (.fn q0r l [])=nfS (askF (run K a (n+d+2)) q0r []) (recN (run K a (n+d+2)) q04 (.fn q0r l [])):=by
   funext t st
   exact q95 (fun _=>rfl) _ _ _ t st
  rw[e];refine x6m (fun t ⟨k,h,_⟩=>by omega) z1z (y74 (n+d) hm) (y3w (n+d) hm) fun d' hd=>?_
  subst hd;exact x62 hm l d' n
theorem z13{M:W->W->NSt->Option (Int×NSt)}{tw t:W}{v:Int}{st:NSt}(h3:M tw t ⟨[],[],dd0 t⟩=some (v,st))(h4:flatWs st.nodes=true):lgT M tw [t]=.ok (.x (.new (.tup [.lst st.nodes,.int v]))):=by
 unfold lgT;simp only[h3,if_pos h4]
theorem x63(n:Nat)(hm:m<=10){bs:List Bool}(hb:bs.length=2^m):∃ns r,GG m ns r/\(∀row,ev ns row r=tv m 0 bs row)/\run K a (n+21) q0u [.lst (bs.map .bl)]=.ok (.x (.new (grW ns r))):=by
 have hp:2^(m+1)<=16384:=w1k (by decide) (show m+1<=14 by omega);obtain⟨r,st',ns',ext,f',eq,s,ap,_,po,_,pr,_,sn,_⟩:=x62 (K:=K) (a:=a) (show m<=13 by omega) q1e m (n+(16-m)) (0,bs) _ [] _ ⟨m,w3j m,hb⟩ (by omega) (y3v (0,bs)) (by simp;omega) (by show 0+_<=_;omega);rw[show n+(16-m)+m+3=n+19 by omega]at eq;refine⟨ns',r,⟨s.ok,po,by simpa using sn⟩,pr,?_⟩
 have e2:run K a (n+20) x0v [tkW (0,bs)]=.ok (.x (.new (grW ns' r))):=by
  rw[y7m,z13 eq (by rw[s.nodes];exact q72 _),s.nodes];rfl
 rw[q2m];unfold q2e;walk_at "den";rw[q78 (n+18),w0c,hb,z1w hm];simp only[placesR];walk_at "den";rw[show W.tup [W.int 0,W.tup (bs.map W.bl)]=tkW (0,bs)from rfl,e2];walk_at "den"
theorem x10:∀(k p:Nat)(φ:List Bool->Bool),tv k p ((allR k).map φ) row=φ ((List.range k).map fun j=>row (p+j))
 |0,p,φ=>rfl
 |k+1,p,φ=>by
  have e1:(allR (k+1)).map φ=(allR k).map (fun l=>φ (false::l))++(allR k).map (fun l=>φ (true::l)):=by
   show((allR k).map (false::·)++(allR k).map (true::·)).map φ=_;rw[w0r,w1f,w1f];rfl
  have hl:((allR k).map (fun l=>φ (false::l))).length=2^k:=by rw[w0c,q2f]
  have e2:(List.range (k+1)).map (fun j=>row (p+j))=row p::(List.range k).map fun j=>row (p+1+j):=by
   rw[w2u,w0i,w1f];congr 1;apply w1x;intro j _;show row (p+(j+1))=_;rw[show p+(j+1)=p+1+j by omega]
  rw[e1,e2];unfold tv;cases hr:row p with
  |false=>
   rw[if_neg (by decide),List.take_append_of_le_length (by omega),w2w (by omega)];exact x10 k (p+1) fun l=>φ (false::l)
  |true=>
   rw[if_pos rfl,<- hl,List.drop_left];exact x10 k (p+1) fun l=>φ (true::l)
theorem x5h:∀ns ms:List Nd,eqWs (ns.map ndW) (ms.map ndW)=some (decide (ns=ms))
 |[],[]=>rfl
 |[],_::_=>rfl
 |_::_,[]=>rfl
 |x::ns,y::ms=>by
  show(match eqW (ndW x) (ndW y),eqWs (ns.map ndW) (ms.map ndW)with|some a,some b=>some (a&&b)|_,_=>none)=_;rw[x8a,x5h ns ms];show some (decide (x=y)&&decide (ns=ms))=_;congr 1;apply w0x.mpr;simp
theorem z14(ns ms:List Nd)(r s:Nat):eq2 (grW ns r) (grW ms s)=some (.bl (decide (ns=ms/\r=s))):=by
 have h:=q89 ns;show(if max (depWs (ns.map ndW)+1) (max 0 0)+1<=150 then(match eqWs (ns.map ndW) (ms.map ndW),(match some ((r:Int)==(s:Int)),some true with|some a,some b=>some (a&&b)|_,_=>none)with|some a,some b=>some (a&&b)|_,_=>none).map W.bl else none)=_;rw[if_pos (by omega),x5h];show some (W.bl (decide (ns=ms)&&((r:Int)==(s:Int)&&true)))=_;congr 2;apply w0x.mpr;simp;intro _;omega
theorem z15(ns:List Nd)(r:Nat):ne2 (grW ns r) (grW ns r)=some (.bl false):=by
 have h:=q89 ns;show(if max (depWs (ns.map ndW)+1) (max 0 0)+1<=150 then(match eqWs (ns.map ndW) (ns.map ndW),(match some ((r:Int)==(r:Int)),some true with|some a,some b=>some (a&&b)|_,_=>none)with|some a,some b=>some (a&&b)|_,_=>none).map (fun b=>W.bl (!b))else none)=_
 rw[if_pos (by omega),x6u,beq_self_eq_true];rfl
theorem z16(l:List Bool):ne2 (.lst (l.map W.bl)) (.lst (l.map W.bl))=some (.bl false):=by
 show(if depWs (l.map W.bl)+1<=150 then(eqWs (l.map W.bl) (l.map W.bl)).map (fun b=>W.bl (!b))else none)=_
 rw[x5e,if_pos (by decide),x5d];rfl
noncomputable def t29e(K:PySem.W.Frag)(a:Adr)(r:Nat->List W->FR):List S->SR:=
 (dSeq (dSet 10 (dCall (r q4m) (dCons (dC (.str "odd")) (dCons (dVar 9) (dCons (dVar 6) dNil)))))
  (dSeq (dIfS (dOr (dNot (dTru (dCall (r q1b) (dCons (dVar 10) dNil)))) (dTest (dOp ne2 (dCall (r q1t) (dCons (dCall (r q5g) (dCons (dVar 6) dNil)) (dCons (dVar 4) dNil))) (dMeth "list" countW (dVar 2) (dCons (dC (.bl false)) dNil)))))
  (dRet (dC (.bl false)))
  dNx)
  (dRet (dAndV (dOp eq2 (dCall (r q1t) (dCons (dVar 10) (dCons (dVar 4) dNil))) (dC (.int 1))) (dOp eq2 (dCall (r q20) (dCons (dVar 10) (dCons (dVar 4) dNil))) (dOp repT (dTup (dCons (dC (.bl true)) dNil)) (dVar 4)))))))
noncomputable def t29d(K:PySem.W.Frag)(a:Adr)(r:Nat->List W->FR):List S->SR:=
 (dSeq (dPut 5 (dNotV (dOp ixW (dVar 2) (dOp subW (dFn len1 (dCons (dVar 2) dNil)) (dC (.int 1))))) (dOp subW (dFn len1 (dCons (dVar 2) dNil)) (dC (.int 1))))
  (dSeq (dSetNw 9 (dLendN (dCallN (r q0u) (dCons (dVar 5) dNil))))
  (dSeq (dIfS (dOr (dTest (dOp eq2 (dVar 9) (dVar 6))) (dOr (dTest (dOp ne2 (dCall (r q0u) (dCons (dVar 2) dNil)) (dVar 6))) (dTest (dOp ne2 (dCall (r q1t) (dCons (dVar 6) (dCons (dVar 4) dNil))) (dMeth "list" countW (dVar 2) (dCons (dC (.bl true)) dNil))))))
  (dRet (dC (.bl false)))
  dNx)
  (t29e K a r))))
noncomputable def t29c(K:PySem.W.Frag)(a:Adr)(r:Nat->List W->FR):List S->SR:=
 (dSeq (dFor 8 (dVar 7)
  (q7g K a r))
  (t29d K a r))
noncomputable def t29b(K:PySem.W.Frag)(a:Adr)(r:Nat->List W->FR):List S->SR:=
 (dSeq (dSetO 5 (dList (dCons (dVar 2) dNil)))
  (dSeq (dSetNw 6 (dLendN (dCallN (r q0u) (dCons (dVar 5) dNil))))
  (dSeq (dIfS (dOr (dNot (dTru (dCall (r q1b) (dCons (dVar 6) dNil)))) (dBorrowT (dTest (dOp ne2 (dVar 5) (dVar 2)))))
  (dRet (dC (.bl false)))
  dNx)
  (dSeq (dSet 7 (dFz (dListR (dCons (dFn len1 (dCons (dVar 2) dNil)) dNil))))
  (dSeq (dIfS (dTest (dOp gtW (dFn len1 (dCons (dVar 2) dNil)) (dC (.int 64))))
  (dSet 7 (dFz (dCompR rng1 [1,2] (dCons (dC (.int 20)) dNil) dYes (q84 K a r))))
  dNx)
  (t29c K a r))))))
noncomputable def t29a(K:PySem.W.Frag)(a:Adr)(r:Nat->List W->FR):List S->SR:=
 (dSeq (dIfS (dTest (dOp ninW (dFn len1 (dCons (dVar 2) dNil)) (dFz (dLst (dCons (dC (.int 1)) (dCons (dC (.int 2)) (dCons (dC (.int 4)) (dCons (dC (.int 8)) (dCons (dC (.int 16)) (dCons (dC (.int 32)) (dCons (dC (.int 64)) (dCons (dC (.int 128)) (dCons (dC (.int 256)) (dCons (dC (.int 512)) (dCons (dC (.int 1024)) dNil)))))))))))))))
  (dRet (dCall (r q12) (dCons (dVar 2) dNil)))
  dNx)
  (dSeq (dSet 4 (dMeth "list" indexI (dFz (dLst (dCons (dC (.int 1)) (dCons (dC (.int 2)) (dCons (dC (.int 4)) (dCons (dC (.int 8)) (dCons (dC (.int 16)) (dCons (dC (.int 32)) (dCons (dC (.int 64)) (dCons (dC (.int 128)) (dCons (dC (.int 256)) (dCons (dC (.int 512)) (dCons (dC (.int 1024)) dNil))))))))))))) (dCons (dFn len1 (dCons (dVar 2) dNil)) dNil)))
  (t29b K a r)))
theorem y3x(K:PySem.W.Frag)(a:Adr)(r:Nat->List W->FR):x3j K a r =
 (dSeq (dSet 1 (dCall (r q1n) (dCons (dVar 0) (dCons (dC (.int 0)) dNil))))
  (dSeq (dSet 2 (dFz (dComp [] (dSl (dVar 0) (dPart (dC (.int 2))) (dPart (dC (.int 42)))) dYes (q85 K a r))))
  (dSeq (dIfS (dTest (dOp gtW (dOp modW (dVar 1) (dC (.int 3))) (dC (.int 0))))
  (dSeq (dSet 3 (dCall (r q15) (dCons (dOp modW (dOp fdivW (dVar 1) (dC (.int 3))) (dC (.int 6))) dNil)))
  (dSeq (dIfS (dTest (dOp eq2 (dOp modW (dOp fdivW (dVar 1) (dC (.int 18))) (dC (.int 8))) (dC (.int 1))))
  (dSet 3 (dOp ixW (dFz (dLst (dCons (dC (.int 64)) (dCons (dC (.int 128)) (dCons (dC (.int 256)) (dCons (dC (.int 512)) (dCons (dC (.int 1024)) (dCons (dC (.int 1023)) (dCons (dC (.int 1025)) (dCons (dOp modW (dOp fdivW (dVar 1) (dC (.int 144))) (dC (.int 1101))) dNil)))))))))) (dCall (r q1u) (dCons (dVar 1) (dCons (dC (.int 1)) (dCons (dC (.int 8)) dNil))))))
  dNx)
  (dSet 2 (dFz (dCompR rng1 [0] (dCons (dVar 3) dNil) dYes (q6f K a r))))))
  dNx)
  (t29a K a r)))):=rfl
theorem q76:∀(m:Nat)(bs:List Bool),bs.length=2^m->∃φ:List Bool->Bool,bs=(allR m).map φ
 |0,bs,h=>by
  match bs,h with
  |[b],_=>exact⟨fun _=>b,rfl⟩
 |m+1,bs,h=>by
  have e:2^(m+1)=2^m+2^m:=by rw[w2b];omega
  obtain⟨φ1,h1⟩:=q76 m (bs.take (2^m)) (by rw[w1y];omega);obtain⟨φ2,h2⟩:=q76 m (bs.drop (2^m)) (by rw[w2r];omega);refine⟨fun l=>if l.headD false=true then φ2 l.tail else φ1 l.tail,?_⟩
  show bs=((allR m).map (false::·)++(allR m).map (true::·)).map _;rw[w0r,w1f,w1f,show((fun l:List Bool=>if l.headD false=true then φ2 l.tail else φ1 l.tail) ∘ fun x=>false::x)=φ1 from rfl,show((fun l:List Bool=>if l.headD false=true then φ2 l.tail else φ1 l.tail) ∘ fun x=>true::x)=φ2 from rfl,<- h1,<- h2,List.take_append_drop]
theorem q63:∀m,∃A,allR m=A++[List.replicate m true]
 |0=>⟨[],rfl⟩
 |m+1=>by
  obtain⟨A,h⟩:=q63 m;refine⟨(allR m).map (false::·)++A.map (true::·),?_⟩;show(allR m).map (false::·)++(allR m).map (true::·)=_;rw[w1h];congr 1;rw[h,w0r];rfl
theorem x1a{l:List Bool}(h:l.length=m):(List.range m).map (fun j=>l.getD j false)=l:=by
 apply List.ext_getElem
 ·simp[h]
 ·intro i h1 h2;simp[List.getD,w0a h2]
theorem q7i{l:List Bool}(h:l.length=m):tv m 0 ((allR m).map φ) (rwF l)=φ l:=by
 rw[x10];congr 1;rw[<- x1a h];apply w1x;intro j _;rw[w3j,x1a h];rfl
theorem y75{k:Nat}(h:k<2^m):((allR m).map φ)[k]?=some (φ (rowN m k)):=by
 rw[<- x5b,w1f,w0h,List.getElem?_range h];rfl
theorem y1a(s:∀row,ev ns row r=tv m 0 ((allR m).map φ) row):cn ns m r=((allR m).filter φ).length:=by
 rw[x6y];congr 1;apply List.filter_congr;intro l hl;rw[s];exact q7i (q73 m l hl)
theorem x64:∀bs:List Bool,blsW (bs.map W.bl)=some bs
 |[]=>rfl
 |b::bs=>by
  show(blsW (bs.map W.bl)).map (b::·)=_;rw[x64 bs];rfl
theorem x65(bs:List Bool)(x:Bool):countW (.lst (bs.map W.bl)) [.bl x]=some (.int (bs.countP fun y=>y==x)):=by
 show(match blsW (bs.map W.bl)with|some ys=>some (W.int (ys.countP fun y=>y==x))|none=>none)=_
 rw[x64]
theorem x5i(m:Nat)(φ:List Bool->Bool):((allR m).map φ).countP (fun y=>y==true)=((allR m).filter φ).length:=by
 rw[List.countP_map,List.countP_eq_length_filter];congr 1;apply List.filter_congr;intro l _;simp
theorem y1b(bs:List Bool):bs.countP (fun y=>y==true)+bs.countP (fun y=>y==false)=bs.length:=by
 induction bs with
 |nil=>rfl
 |cons b bs ih=>
  rw[List.countP_cons,List.countP_cons,w0v];cases b
  ·rw[if_neg (by decide),if_pos (by decide)];omega
  ·rw[if_pos (by decide),if_neg (by decide)];omega
theorem y1c{φ':List Bool->Bool}(h:((allR m).map φ).set (2^m-1) (!φ (List.replicate m true))=(allR m).map φ'):(∀A,allR m=A++[List.replicate m true]->∀l∈A,φ' l=φ l)/\φ' (List.replicate m true)=!φ (List.replicate m true):=by
 obtain⟨A,hA⟩:=q63 m;have hl:=q2f m;rw[hA,w0g,w2l]at hl;rw[hA,w0r,w0r,show 2^m-1=(A.map φ).length from by rw[w0c];omega,w4b _ _ (w0e _),w2n]at h;have h2:=List.append_inj h (by rw[w0c,w0c]);refine⟨fun B hB l hl=>?_,?_⟩
 ·have:A=B:=(List.append_inj' (hA.symm.trans hB) rfl).1;subst this;exact((List.map_inj_left.mp h2.1) l hl).symm
 ·have:=h2.2;simp only[w0i,w2f,w4q,List.cons.injEq,and_true]at this;exact this.symm
theorem x66(m:Nat):(List.replicate m true).length=m:=w2k
theorem x8f{ψ φ':List Bool->Bool}(hψ:∀l∈allR m,ψ l=(φ' l != φ l))(h:(∀A,allR m=A++[List.replicate m true]->∀l∈A,φ' l=φ l)/\φ' (List.replicate m true)=!φ (List.replicate m true)):(allR m).filter ψ=[List.replicate m true]/\(allR m).find? ψ=some (List.replicate m true):=by
 obtain⟨A,hA⟩:=q63 m
 have h1:∀l∈A,ψ l=false:=fun l hl=>by
  rw[hψ l (by rw[hA];simp[hl]),h.1 A hA l hl,bne_self_eq_false]
 have h2:ψ (List.replicate m true)=true:=by
  rw[hψ _ (by rw[hA];simp),h.2];cases φ (List.replicate m true)<;>rfl
 rw[hA];constructor
 ·rw[w4p,List.filter_eq_nil_iff.mpr fun l hl=>by rw[h1 l hl];decide]
  simp[h2]
 ·rw[w2x,w4o.mpr fun l hl=>by rw[h1 l hl];decide]
  simp[h2]
theorem q7j(g:GG m ns r):∀x∈ns,x.1<m:=fun x hx=>by
 obtain⟨k,hk⟩:=w4d hx;exact(g.ok.nd k x hk).1
theorem q5y(hm:m<=13)(g:GG m ns r):ns.length<=16384:=by
 have hp:2^(m+1)<=16384:=w1k (by decide) (show m+1<=14 by omega);have:=g.sz;omega
theorem y76(M:Exs K mg a)(hm:m<=10){φ':List Bool->Bool}{ns':List Nd}{r':Nat}(g:GG m ns r)(g':GG m ns' r')(s:∀row,ev ns row r=tv m 0 ((allR m).map φ) row)(s':∀row,ev ns' row r'=tv m 0 ((allR m).map φ') row)
  (h:(∀A,allR m=A++[List.replicate m true]->∀l∈A,φ' l=φ l)/\φ' (List.replicate m true)=!φ (List.replicate m true))(w0 w1:W)(z3 z5 z7 z8:S):
  (t29e K a (run K a 150) [.fr w0,.fr w1,.fr (.lst (((allR m).map φ).map .bl)),z3,.fr (.int m),z5,.x (.new (grW ns r)),z7,z8,.x (.new (grW ns' r')),.no]).fn=.ok (.fr (.bl true)):=by
 obtain⟨gs,q,G,S,e⟩:=x78 (K:=K) (a:=a) 129 .d (show m<=13 by omega) g' g
 have hψ:∀l∈allR m,ev gs (fun p=>l.getD p false) q=(φ' l != φ l):=fun l hl=>by
  rw[S,s,s'];show(tv m 0 ((allR m).map φ') (rwF l) != tv m 0 ((allR m).map φ) (rwF l))=_;rw[q7i (q73 m l hl),q7i (q73 m l hl)]
 obtain⟨f1,f2⟩:=x8f hψ h;have c1:cn gs m q=1:=by rw[x6y,f1];rfl
 have q0:q≠0:=fun z=>by rw[z,cn_0]at c1;cases c1
 have f3:=x8e G.ok (q7j G) G.lt q0;rw[f2]at f3;have f4:=(Option.some.inj f3).symm;have ct:=y7w g.ok (M:=m) g.lt;have cp:=y1a s;have c2:=x5i m φ;have c3:=y1b ((allR m).map φ);rw[w0c,q2f]at c3;have ce:(((allR m).map φ).countP fun y=>y==false)=cn (ns.map tnd) m (oe r):=by omega
 have e:run K a 150 q4m [.str "odd", grW ns' r',grW ns r]=.ok (.x (.new (grW gs q))):=e;unfold t29e;walk_at "den";rw[e];walk_at "den";rw[x2r M 147 G (q5y (by omega) G)];walk_at "den";rw[x77 147 r (by have:=q5y (show m<=13 by omega) g;omega)];walk_at "den";rw[q66 148 g.turn (q5y (by omega) g.turn) (by omega) (q7j g.turn)];walk_at "den";rw[x65,ce];walk_at "den";rw[q66 148 G (q5y (by omega) G) (by omega) (q7j G),c1];walk_at "den";rw[y07 147 G (q5y (by omega) G) (by omega) (q7j G),if_neg q0,f4];walk_at "den";rw[y6p (by omega) (by omega),w2o];walk_at "den";rw[z1y];walk_at "den"
theorem z17{k:Nat}(h:k<n):ixN n (k:Int)=some k:=by
 unfold ixN;rw[if_pos (by omega)]
 first
  |rw[if_pos (by omega),w2o]
  |simp[h]
theorem y3y:((allR m).map φ)[2^m-1]?=some (φ (List.replicate m true)):=by
 obtain⟨A,hA⟩:=q63 m;have hl:=q2f m;rw[hA,w0g,w2l]at hl;rw[hA,w0r,w1a (by rw[w0c];omega),w0c,show 2^m-1-A.length=0 by omega];rfl
theorem y77(M:Exs K mg a)(hm:m<=10)(g:GG m ns r)(s:∀row,ev ns row r=tv m 0 ((allR m).map φ) row)(e:run K a 150 q0u [.lst (((allR m).map φ).map .bl)]=.ok (.x (.new (grW ns r))))(w0 w1:W)(z3 z7 z8:S):
  (t29d K a (run K a 150) [.fr w0,.fr w1,.fr (.lst (((allR m).map φ).map .bl)),z3,.fr (.int m),.own none (((allR m).map φ).map .bl),.x (.new (grW ns r)),z7,z8,.no,.no]).fn=.ok (.fr (.bl true)):=by
 have h2:0<2^m:=w2z (by decide);have h10:(2:Nat)^m<=2^10:=w1k (by decide) hm;have h1024:(2:Nat)^10=1024:=by decide
 have hlen:((((((allR m).map φ).map W.bl).length:Nat):Int)-1)=((2^m-1:Nat):Int):=by rw[w0c,w0c,q2f];omega
 have hget:atI (((allR m).map φ).map W.bl) ((2^m-1:Nat):Int)=some (.bl (φ (List.replicate m true))):=q4u (by rw[w0h,y3y];rfl);have hset:∃φ':List Bool->Bool,((allR m).map φ).set (2^m-1) (!φ (List.replicate m true))=(allR m).map φ':=q76 m _ (by rw[List.length_set,w0c,q2f]);obtain⟨φ',hφ⟩:=hset;have tl:=y1c hφ;obtain⟨ns',r',g',s',e'⟩:=x63 (K:=K) (a:=a) 129 hm (bs:=(allR m).map φ') (by rw[w0c,q2f]);unfold t29d;walk_at "den";rw[hlen,hget];walk_at "den";rw[hlen];walk_at "den";rw[show ixN (((allR m).map φ).map W.bl).length ((2^m-1:Nat):Int)=some (2^m-1)from z17 (by rw[w0c,w0c,q2f];omega)];walk_at "den";have hss:(((allR m).map φ).map W.bl).set (2^m-1) (W.bl (!φ (List.replicate m true)))=((allR m).map φ').map W.bl:=by rw[<- hφ,List.map_set]
 rw[hss];walk_at "den";rw[e'];walk_at "den"
 have hne:¬(ns'=ns/\r'=r):=by
  rintro⟨rfl,rfl⟩;have z:=(s' (rwF (List.replicate m true))).symm.trans (s (rwF (List.replicate m true)));rw[q7i (x66 m),q7i (x66 m),tl.2]at z;cases q:φ (List.replicate m true)<;>rw[q]at z<;>cases z
 rw[z14,decide_eq_false hne];walk_at "den";rw[e];walk_at "den";rw[z15];walk_at "den";rw[q66 148 g (q5y (by omega) g) (by omega) (q7j g),y1a s];walk_at "den";rw[x65,x5i];walk_at "den";exact y76 M hm g g' s s' tl _ _ _ _ _ _
theorem y1d{k:Nat}(hm:m<=10)(hk:k<2^m)(g:GG m ns r)(s:∀row,ev ns row r=tv m 0 ((allR m).map φ) row)(w0 w1:W)(z3 z5 z7 z9 z10:S):
  q7g K a (run K a 150) [.fr w0,.fr w1,.fr (.lst (((allR m).map φ).map .bl)),z3,.fr (.int m),z5,.x (.new (grW ns r)),z7,.fr (nJ k),z9,z10]=.nx [.fr w0,.fr w1,.fr (.lst (((allR m).map φ).map .bl)),z3,.fr (.int m),z5,.x (.new (grW ns r)),z7,.fr (nJ k),z9,z10]:=by
 unfold q7g nJ;walk_at "den";rw[x8d 148 (by omega)];walk_at "den";rw[x5u 149 g (q5y (by omega) g) (by rw[q74];exact w0e _),s,q7i (q74 m k)];walk_at "den";rw[show atI (((allR m).map φ).map W.bl) (k:Int)=some (.bl (φ (rowN m k)))from q4u (by rw[w0h,y75 hk];rfl)];walk_at "den"
theorem x5j(M:Exs K mg a)(hm:m<=10)(g:GG m ns r)(s:∀row,ev ns row r=tv m 0 ((allR m).map φ) row)(e:run K a 150 q0u [.lst (((allR m).map φ).map .bl)]=.ok (.x (.new (grW ns r))))(ks:List Nat)(hk:∀k∈ks,k<2^m)(w0 w1:W)(z3:S):
  (t29c K a (run K a 150) [.fr w0,.fr w1,.fr (.lst (((allR m).map φ).map .bl)),z3,.fr (.int m),.own none (((allR m).map φ).map .bl),.x (.new (grW ns r)),.fr (.lst (ks.map nJ)),.no,.no,.no]).fn=.ok (.fr (.bl true)):=by
 unfold t29c;walk_at "den"
 obtain⟨e',h1,z8,rfl⟩:=q86 (i:=8) (b:=q7g K a (run K a 150)) (fun _ e=>∃z8,e=[S.fr w0,S.fr w1,S.fr (.lst (((allR m).map φ).map .bl)),z3,S.fr (.int m),S.own none (((allR m).map φ).map .bl),S.x (.new (grW ns r)),S.fr (.lst (ks.map nJ)),z8,S.no,S.no]) (ks.map nJ) 0 [S.fr w0,S.fr w1,S.fr (.lst (((allR m).map φ).map .bl)),z3,S.fr (.int m),S.own none (((allR m).map φ).map .bl),S.x (.new (grW ns r)),S.fr (.lst (ks.map nJ)),S.no,S.no,S.no] ⟨_,rfl⟩ (by
  rintro j w e hw ⟨z8,rfl⟩;obtain⟨k,hk',rfl⟩:=w1u.mp hw;exact⟨_,y1d hm (hk k hk') g s w0 w1 z3 _ _ _ _,_,rfl⟩)
 rw[h1];walk_at "den";exact y77 M hm g s e _ _ _ _ _
theorem emix(n:Nat){c:Int}{P k:Nat}(hP:0<P)(hw:ws.length=P):∃e2,q84 K a (run K a (n+1)) [.fr (nJ k),.fr (.int c),.fr (.lst ws)]=.ok (nJ (mixed c k P).toNat) e2:=by
 refine⟨[.fr (nJ k),.fr (.int c),.fr (.lst ws)],?_⟩;have b:=q98 (c:=c) (k:=(k:Int)) (m:=(P:Int)) (by omega);unfold q84 nJ;walk_at "den";rw[hw,q8q n _ _ (by omega)];walk_at "den";rw[show(((mixed c k P).toNat:Nat):Int)=mixed c k P by omega]
theorem y3z(M:Exs K mg a)(hm:m<=10)(φ:List Bool->Bool)(w0:W)(c:Int)(z3:S):
  (t29b K a (run K a 150) [.fr w0,.fr (.int c),.fr (.lst (((allR m).map φ).map .bl)),z3,.fr (.int m),.no,.no,.no,.no,.no,.no]).fn=.ok (.fr (.bl true)):=by
 have h2:0<2^m:=w2z (by decide);have h10:(2:Nat)^m<=2^10:=w1k (by decide) hm;have h1024:(2:Nat)^10=1024:=by decide
 have hlen:(((allR m).map φ).map W.bl).length=2^m:=by rw[w0c,w0c,q2f]
 obtain⟨ns,r,g,s,e⟩:=x63 (K:=K) (a:=a) 129 hm (bs:=(allR m).map φ) (by rw[w0c,q2f]);unfold t29b;walk_at "den";rw[e];walk_at "den";rw[x2r M 147 g (q5y (by omega) g)];walk_at "den";rw[z16];walk_at "den"
 rw[hlen,show listR1 [W.int ((2^m:Nat):Int)]=some ((List.range (2^m)).map nJ)from by
  show(if((2^m:Nat):Int).toNat<=16777216/\-(2^62)<=((2^m:Nat):Int)then some ((List.range ((2^m:Nat):Int).toNat).map fun(k:Nat)=>W.int (k:Int))else none)=_
  rw[if_pos ⟨by omega,by omega⟩,w2o];rfl]
 walk_at "den";rw[hlen]
 by_cases h64:64<((2^m:Nat):Int)
 ·rw[if_pos h64,if_pos (by decide)];walk_at "den";simp only[frz1,pj1,w0o,w1g];rw[if_pos (by rw[q8n];decide),show rangeW 0 20=(List.range 20).map nJ from q6v 20,q4y (g:=fun(k:Nat)=>nJ (mixed c (k:Int) ((2^m:Nat):Int)).toNat) (List.range 20) fun k _=>emix (P:=2^m) 149 h2 hlen]
  walk_at "den";rw[show(List.range 20).map (fun(k:Nat)=>nJ (mixed c (k:Int) ((2^m:Nat):Int)).toNat)=((List.range 20).map fun(k:Nat)=>(mixed c (k:Int) ((2^m:Nat):Int)).toNat).map nJ from by rw[w1f];rfl]
  refine x5j M hm g s e _ (fun k hk=>?_) _ _ _
  obtain⟨j,_,rfl⟩:=w1u.mp hk;have b:=q98 (c:=c) (k:=(j:Int)) (m:=((2^m:Nat):Int)) (by omega);omega
 ·rw[if_neg h64];walk_at "den";exact x5j M hm g s e _ (fun k hk=>w1d.mp hk) _ _ _
theorem x5v(M:Exs K mg a){bs:List Bool}(h:lg bs.length=none):run K a 150 q12 [.lst (bs.map .bl)]=.ok (.fr (.bl true)):=by
 have e:run K a 149 q0u [.lst (bs.map .bl)]=.ex (.ref a.NoTable):=by
  rw[q2m (n:=148)];unfold q2e;walk_at "den";rw[q78 146,w0c,h];simp only[placesR];walk_at "den"
 rw[q4s (n:=149)];unfold q35;walk_at "den";rw[e];walk_at "den";rw[z0j M.x_NoTable_CircuitError];walk_at "den";rw[x3d M 148];walk_at "den"
theorem x5k(M:Exs K mg a)(bs:List Bool)(hl:bs.length<=100000)(w0:W)(c:Int)(z3:S):(t29a K a (run K a 150) [.fr w0,.fr (.int c),.fr (.lst (bs.map .bl)),z3,.no,.no,.no,.no,.no,.no,.no]).fn=.ok (.fr (.bl true)):=by
 unfold t29a;walk_at "den";have nin:=fun n=>y03 n
 simp only[sizesW]at nin;rw[w0c,nin];cases q:lg bs.length with
 |none=>
  simp only[Option.isSome_none];walk_at "den";rw[x5v M q];walk_at "den"
 |some m=>
  simp only[w4k];walk_at "den"
  have ei:indexI (.lst [.int 1,.int 2,.int 4,.int 8,.int 16,.int 32,.int 64,.int 128,.int 256,.int 512,.int 1024]) [.int ((bs.map W.bl).length:Int)]=some (.int m):=by
   rw[w0c];show(match idxI (bs.length:Int) [1,2,4,8,16,32,64,128,256,512,1024]with|some j=>some (W.int j)|none=>none)=_;rw[y04 q]
  rw[ei];walk_at "den";obtain⟨h1,h2⟩:=x6w q;obtain⟨φ,rfl⟩:=q76 m bs h2;exact y3z M h1 φ _ _ _
theorem z18(n:Nat)(c:Int):∃e2,q85 K a (run K a n) [.fr (.int c)]=.ok (.bl (decide (c%2=1))) e2:=by
 refine⟨[.fr (.int c)],?_⟩;unfold q85;walk_at "den"
theorem z19(n:Nat)(ns:List Int)(k:Nat):∃e2,q6f K a (run K a (n+1)) [.fr (nJ k),.fr (.lst (ns.map .int))]=.ok (.bl (decide (mixed (ns.getD 1 0+(k:Int) / 7) k 2=1))) e2:=by
 refine⟨[.fr (nJ k),.fr (.lst (ns.map .int))],?_⟩;unfold q6f nJ;walk_at "den";rw[x4x n ns (by decide)];walk_at "den";rw[q8q n _ _ (by decide)];walk_at "den"
theorem cut42(ns:List Int):∃ms:List Int,cutW (ns.map .int) (some 2) (some 42)=ms.map .int/\ms.length<=40:=by
 unfold cutW;rw[<- List.map_drop,<- w4n];refine⟨_,rfl,?_⟩;rw[show(2:Int)=((2:Nat):Int)from rfl,show(42:Int)=((42:Nat):Int)from rfl,HT.sIx_nat,HT.sIx_nat,w1y];omega
theorem y30(M:Exs K mg a)(ns:List Int)(z:Nat)(hz:z<=1100)(w2:W)(c:Int):((dSet 2 (dFz (dCompR rng1 [0] (dCons (dVar 3) dNil) dYes (q6f K a (run K a 150)))) [S.fr (W.lst (ns.map W.int)),S.fr (W.int c),S.fr w2,S.fr (W.int z),S.no,S.no,S.no,S.no,S.no,S.no,S.no]).seq (t29a K a (run K a 150))).fn=.ok (.fr (.bl true)):=by
 walk_at "den";rw[if_pos (okL (by omega))];walk_at "den";simp only[frz1,pj1,w0o,w1g];rw[if_pos (by rw[q8n];omega),q6v,q4y (g:=fun(k:Nat)=>W.bl (decide (mixed (ns.getD 1 0+(k:Int) / 7) k 2=1))) (List.range z) fun k _=>z19 149 ns k]
 walk_at "den";rw[show(List.range z).map (fun(k:Nat)=>W.bl (decide (mixed (ns.getD 1 0+(k:Int) / 7) k 2=1)))=((List.range z).map fun(k:Nat)=>decide (mixed (ns.getD 1 0+(k:Int) / 7) k 2=1)).map W.bl from by rw[w1f];rfl]
 exact x5k M _ (by rw[w0c,w2y];omega) _ _ _
theorem y78(c:Int):∃z:Nat,z<=1100/\atI [W.int 64,W.int 128,W.int 256,W.int 512,W.int 1024,W.int 1023,W.int 1025,W.int (c / 144%1101)] (mixed c 1 8)=some (.int z):=by
 have b:=q98 (c:=c) (k:=1) (m:=8) (by decide);generalize mixed c 1 8=x at b;have h:x=0\/x=1\/x=2\/x=3\/x=4\/x=5\/x=6\/x=7:=by omega
 rcases h with rfl|rfl|rfl|rfl|rfl|rfl|rfl|rfl
 ·exact⟨64,by decide,rfl⟩
 ·exact⟨128,by decide,rfl⟩
 ·exact⟨256,by decide,rfl⟩
 ·exact⟨512,by decide,rfl⟩
 ·exact⟨1024,by decide,rfl⟩
 ·exact⟨1023,by decide,rfl⟩
 ·exact⟨1025,by decide,rfl⟩
 ·refine⟨(c / 144%1101).toNat,by omega,?_⟩;rw[show(((c / 144%1101).toNat:Nat):Int)=c / 144%1101 by omega];rfl
theorem y31(M:Exs K mg a)(ns:List Int)(hl:ns.length<=63):run K a 151 q82 [.lst (ns.map .int)]=.ok (.fr (.bl true)):=by
 obtain⟨ms,e1,e2⟩:=cut42 ns;rw[q7h,y3x];walk_at "den";rw[x4x 149 ns (by decide)];walk_at "den";rw[e1];walk_at "den";rw[if_pos (by rw[w0c];omega),q4y (g:=fun c=>W.bl (decide (c%2=1))) ms fun c _=>z18 150 c]
 walk_at "den";obtain⟨c,h0⟩:∃c,ns.getD 0 0=c:=⟨_,rfl⟩;simp only[h0]
 by_cases h3:0<c%3
 ·rw[if_pos h3,x2t 149 _ (by omega) (by omega)];have t:∀(z:Nat)(w2:W),z<=1100->((dSet 2 (dFz (dCompR rng1 [0] (dCons (dVar 3) dNil) dYes (q6f K a (run K a 150)))) [S.fr (W.lst (ns.map W.int)),S.fr (W.int c),S.fr w2,S.fr (W.int z),S.no,S.no,S.no,S.no,S.no,S.no,S.no]).seq (t29a K a (run K a 150))).fn=.ok (.fr (.bl true)):=fun z w2 hz=>y30 M ns z hz w2 c
  have hpw:(2:Nat)^(c / 3%6).toNat<=2^5:=w1k (by decide) (by omega);have hp5:(2:Nat)^5=32:=by decide
  rw[show(2:Int)^(c / 3%6).toNat=((2^(c / 3%6).toNat:Nat):Int)from by simp];generalize (2:Nat)^(c / 3%6).toNat=P at hpw;walk_at "den"
  by_cases h8:c / 18%8=1
  ·rw[if_pos h8,q8q 149 _ _ (by decide)];walk_at "den";obtain⟨z,hz,ez⟩:=y78 c;rw[ez];have:=t z (.lst (ms.map fun c=>W.bl (decide (c%2=1)))) hz
   revert this;walk_at "den";exact id
  ·rw[if_neg h8];have:=t P (.lst (ms.map fun c=>W.bl (decide (c%2=1)))) (by omega)
   revert this;walk_at "den";exact id
 ·rw[if_neg h3];walk_at "den";rw[show ms.map (fun c=>W.bl (decide (c%2=1)))=(ms.map fun c=>decide (c%2=1)).map W.bl from by rw[w1f];rfl]
  exact x5k M _ (by rw[w0c];omega) _ _ _
theorem walk{l:PySem.W.OpenLaw}{q:Program}{loose:List Str}{XP:(Str->Option Value)->Heap->Prop}{YP:World->Heap->Prop}{d:DefRec}{K:Params->PySem.W.Frag}{tabs:List (Addr×Str)}(hn:l.most=some 63)(hdf:d.params.defaults=[])
  (hY:∀(w:World)(h:Heap),YP w h->(K w.params).In h)(hT:∀(w:World)(h:Heap),YP w h->∀P∈tabs.map (·.1),h.get? P=some (tabObj #[]))
  (hG:∀w:World,((D.dropT (K w.params)).lookup mainGlobals).isSome=true)(hNM:∀w:World,noMark (K w.params)=true)(hd:tabs.all (fun p=>tabs.lookup p.1==some p.2)=true)
  (hK:∀w:World,tabs.all (fun p=>((D.dropT (K w.params)).lookup p.1).isNone)=true)(hc:∀w:World,∀p∈tabs,∃c,codeHdIn (K w.params) c p.1=true)
  (F:∀(w:World)(mg:Str->Option Value)(fa:Addr)(h:Heap),(D.markT (D.dropT (K w.params)) tabs).In h->h.Ns mainGlobals mg->mg d.name=some (.ref fa) ->
   ∃fd:FuncData,(∀(s:Shared)(u:Value),BindsTo s fd ⟨[u],[]⟩ [("_law_script", u)])/\∀base:Heap,(D.markT (D.dropT (K w.params)) tabs).In base->base.Ns mainGlobals mg->BMain base mg->FnOk l.prog w (D.markT (D.dropT (K w.params)) tabs) mg base (CX1 l.prog w) 151 fa fd ["_law_script"] (spLaw (D.markT (D.dropT (K w.params)) tabs))):
  PySem.W.WalkO q loose XP YP l.row.toRowW d [] (fun f vs=>PySem.call f vs):=
 L2.y3a (K:=fun p=>D.markT (D.dropT (K p)) tabs) (tabs:=tabs) (n:=63) (k:=151) (x:="_law_script") (CX:=fun w=>CX1 l.prog w) (sp:=fun w=>spLaw (D.markT (D.dropT (K w.params)) tabs)) hn (by decide) hdf ⟨rfl,by decide,by decide,rfl⟩ (fun w h Y=>D.in_m (hG w) (D.y27 (hY w h Y))) F (fun _ _ a ns hl hS=>⟨a,ns,rfl,hS,hl,fun _=>rfl⟩) (fun _ _ _ _ _ z=>y9e z)
  (fun w=>D.x70 (D.x5r (hNM w)) hd) (fun w h Y=>D.y62 (hY w h Y) (hT w h Y) (hc w)) (fun w=>D.tabs_none (hG w) (hK w))
end Q
open PySem PySem.W PyProof.Rows
set_option maxRecDepth 100000 in
set_option maxHeartbeats 0 in
theorem PySem.Challenge.cw_circuits_k29_tables_refused_holds : PySem.Challenge.rw_circuits_k29_tables_refused.Holds := by
 w_on; o_law; k_head; (case hw => w_witness2)
 k_fill
 refine Q.walk (l := PySem.Challenge.rw_circuits_k29_tables_refused) (tabs := [(217, ("joined" ++ ".<locals>.") ++ "<lambda>")]) rfl rfl (fun w h Y => PySem.W.km_in_of Y) (fun w h Y => PySem.W.km_tabs_of Y) (fun w => by kernel_rfl) (fun w => by kernel_rfl) (by decide +kernel) (fun w => by kernel_rfl) (fun w => List.forall_mem_cons.mpr ⟨⟨221, by kernel_rfl⟩, fun _ h => nomatch h⟩) ?F
 case F =>
  intro w mg fa h KX G hmg;refine' Q.mk KX G hmg ?a0 ?l0 ?c0 ?k0 ?a1 ?l1 ?c1 ?k1 ?a2 ?l2 ?c2 ?k2 ?a3 ?l3 ?c3 ?k3 ?a4 ?l4 ?c4 ?k4 ?a5 ?l5 ?c5 ?k5 ?a6 ?l6 ?c6 ?k6 ?a7 ?l7 ?c7 ?k7 ?a8 ?l8 ?c8 ?k8 ?a9 ?l9 ?c9 ?k9 ?a10 ?l10 ?c10 ?k10 ?a11 ?l11 ?c11 ?k11 ?a12 ?l12 ?c12 ?k12 ?a13 ?l13 ?c13 ?k13 ?a14 ?l14 ?c14 ?k14 ?a15 ?l15 ?c15 ?k15 ?a16 ?l16 ?c16 ?k16 ?a17 ?l17 ?c17 ?k17 ?a18 ?l18 ?c18 ?k18 ?a19 ?l19 ?c19 ?k19 ?a20 ?l20 ?c20 ?k20 ?a21 ?l21 ?c21 ?k21 ?a22 ?l22 ?c22 ?k22 ?a23 ?l23 ?c23 ?k23 ?a24 ?l24 ?c24 ?k24 ?a25 ?l25 ?c25 ?k25 ?a26 ?l26 ?c26 ?k26 ?a27 ?l27 ?c27 ?k27 ?a28 ?l28 ?c28 ?k28 ?a29 ?l29 ?c29 ?k29 ?a30 ?l30 ?c30 ?k30 ?a31 ?l31 ?c31 ?k31 ?a32 ?l32 ?c32 ?k32 ?a33 ?l33 ?c33 ?k33 ?v12 ?h12 ?m12 ?n_CircuitError ?n_NoPlace ?n_NoName ?n_BadText ?n_NoRow ?n_NoTable ?n_UnlikeSizes ?n_TooGreat ?n_NoMachine ?n_BadSheet ?n_MOST_PLACES ?z_ValueError ?z_all ?z_any ?z_bool ?z_int ?z_isinstance ?z_len ?z_list ?z_max ?z_min ?z_range ?z_tuple ?g_MOST_PLACES ?e_NoPlace ?e_NoTable ?c_NoPlace ?x_NoPlace_CircuitError ?k_NoPlace_NoPlace ?k_NoPlace_NoName ?k_NoPlace_BadText ?k_NoPlace_NoRow ?k_NoPlace_NoTable ?k_NoPlace_UnlikeSizes ?k_NoPlace_TooGreat ?k_NoPlace_NoMachine ?k_NoPlace_BadSheet ?k_NoPlace_ValueError ?c_NoTable ?x_NoTable_CircuitError ?k_NoTable_NoPlace ?k_NoTable_NoName ?k_NoTable_BadText ?k_NoTable_NoRow ?k_NoTable_NoTable ?k_NoTable_UnlikeSizes ?k_NoTable_TooGreat ?k_NoTable_NoMachine ?k_NoTable_BadSheet ?k_NoTable_ValueError ?t_NoneType_int ?t_bool_int ?t_int_int ?t_str_int ?t_tuple_int ?t_list_int ?t_NoneType_bool ?t_bool_bool ?t_int_bool ?t_str_bool ?t_tuple_bool ?t_list_bool ?t_NoneType_tuple ?t_bool_tuple ?t_int_tuple ?t_str_tuple ?t_tuple_tuple ?t_list_tuple ?t_NoneType_list ?t_bool_list ?t_int_list ?t_str_list ?t_tuple_list ?t_list_list ?nt 150 ?hL
  (case a0 => exact D.ns_m (D.q0g (by k_is) (by kernel_rfl)))
  (case l0 => exact D.q0v (D.q0j (by k_is) (by kernel_rfl)))
  (case c0 => exact D.q0y (D.q0l (by k_is) (by kernel_rfl)))
  (case k0 => exact D.q0z (by kernel_rfl))
  (case a1 => exact D.ns_m (D.q0g (by k_is) (by kernel_rfl)))
  (case l1 => exact D.q0v (D.q0j (by k_is) (by kernel_rfl)))
  (case c1 => exact D.q0y (D.q0l (by k_is) (by kernel_rfl)))
  (case k1 => exact D.q0z (by kernel_rfl))
  (case a2 => exact D.ns_m (D.q0g (by k_is) (by kernel_rfl)))
  (case l2 => exact D.q0v (D.q0j (by k_is) (by kernel_rfl)))
  (case c2 => exact D.q0y (D.q0l (by k_is) (by kernel_rfl)))
  (case k2 => exact D.q0z (by kernel_rfl))
  (case a3 => exact D.ns_m (D.q0g (by k_is) (by kernel_rfl)))
  (case l3 => exact D.q0v (D.q0j (by k_is) (by kernel_rfl)))
  (case c3 => exact D.q0y (D.q0l (by k_is) (by kernel_rfl)))
  (case k3 => exact D.q0z (by kernel_rfl))
  (case a4 => exact D.ns_m (D.q0g (by k_is) (by kernel_rfl)))
  (case l4 => exact D.q0v (D.q0j (by k_is) (by kernel_rfl)))
  (case c4 => exact D.q0y (D.q0l (by k_is) (by kernel_rfl)))
  (case k4 => exact D.q0z (by kernel_rfl))
  (case a5 => exact D.ns_m (D.q0g (by k_is) (by kernel_rfl)))
  (case l5 => exact D.q0v (D.q0j (by k_is) (by kernel_rfl)))
  (case c5 => exact D.q0y (D.q0l (by k_is) (by kernel_rfl)))
  (case k5 => exact D.q0z (by kernel_rfl))
  (case a6 => exact D.ns_m (D.q0g (by k_is) (by kernel_rfl)))
  (case l6 => exact D.q0v (D.q0j (by k_is) (by kernel_rfl)))
  (case c6 => exact D.q0y (D.q0l (by k_is) (by kernel_rfl)))
  (case k6 => exact D.q0z (by kernel_rfl))
  (case a7 => exact D.ns_m (D.q0g (by k_is) (by kernel_rfl)))
  (case l7 => exact D.q0v (D.q0j (by k_is) (by kernel_rfl)))
  (case c7 => exact D.q0y (D.q0l (by k_is) (by kernel_rfl)))
  (case k7 => exact D.q0z (by kernel_rfl))
  (case a8 => exact D.ns_m (D.q0g (by k_is) (by kernel_rfl)))
  (case l8 => exact D.q0v (D.q0j (by k_is) (by kernel_rfl)))
  (case c8 => exact D.q0y (D.q0l (by k_is) (by kernel_rfl)))
  (case k8 => exact D.q0z (by kernel_rfl))
  (case a9 => exact D.ns_m (D.q0g (by k_is) (by kernel_rfl)))
  (case l9 => exact D.q0v (D.q0j (by k_is) (by kernel_rfl)))
  (case c9 => exact D.q0y (D.q0l (by k_is) (by kernel_rfl)))
  (case k9 => exact D.q0z (by kernel_rfl))
  (case a10 => exact D.ns_m (D.q0g (by k_is) (by kernel_rfl)))
  (case l10 => exact D.q0v (D.q0j (by k_is) (by kernel_rfl)))
  (case c10 => exact D.q0y (D.q0l (by k_is) (by kernel_rfl)))
  (case k10 => exact D.q0z (by kernel_rfl))
  (case a11 => exact D.ns_m (D.q0g (by k_is) (by kernel_rfl)))
  (case l11 => exact D.q0v (D.q0j (by k_is) (by kernel_rfl)))
  (case c11 => exact D.q0y (D.q0l (by k_is) (by kernel_rfl)))
  (case k11 => exact D.q0z (by kernel_rfl))
  (case a12 => exact D.ns_m (D.q0g (by k_is) (by kernel_rfl)))
  (case l12 => exact D.q0v (D.q0j (by k_is) (by kernel_rfl)))
  (case c12 => exact D.q0y (D.q0l (by k_is) (by kernel_rfl)))
  (case k12 => exact D.q0z (by kernel_rfl))
  (case a13 => exact D.ns_m (D.q0g (by k_is) (by kernel_rfl)))
  (case l13 => exact D.q0v (D.q0j (by k_is) (by kernel_rfl)))
  (case c13 => exact D.q0y (D.q0l (by k_is) (by kernel_rfl)))
  (case k13 => exact D.q0z (by kernel_rfl))
  (case a14 => exact D.ns_m (D.q0g (by k_is) (by kernel_rfl)))
  (case l14 => exact D.q0v (D.q0j (by k_is) (by kernel_rfl)))
  (case c14 => exact D.q0y (D.q0l (by k_is) (by kernel_rfl)))
  (case k14 => exact D.q0z (by kernel_rfl))
  (case a15 => exact D.ns_m (D.q0g (by k_is) (by kernel_rfl)))
  (case l15 => exact D.q0v (D.q0j (by k_is) (by kernel_rfl)))
  (case c15 => exact D.q0y (D.q0l (by k_is) (by kernel_rfl)))
  (case k15 => exact D.q0z (by kernel_rfl))
  (case a16 => exact D.ns_m (D.q0g (by k_is) (by kernel_rfl)))
  (case l16 => exact D.q0v (D.q0j (by k_is) (by kernel_rfl)))
  (case c16 => exact D.q0y (D.q0l (by k_is) (by kernel_rfl)))
  (case k16 => exact D.q0z (by kernel_rfl))
  (case a17 => exact D.ns_m (D.q0g (by k_is) (by kernel_rfl)))
  (case l17 => exact D.q0v (D.q0j (by k_is) (by kernel_rfl)))
  (case c17 => exact D.q0y (D.q0l (by k_is) (by kernel_rfl)))
  (case k17 => exact D.q0z (by kernel_rfl))
  (case a18 => exact D.ns_m (D.q0g (by k_is) (by kernel_rfl)))
  (case l18 => exact D.q0v (D.q0j (by k_is) (by kernel_rfl)))
  (case c18 => exact D.q0y (D.q0l (by k_is) (by kernel_rfl)))
  (case k18 => exact D.q0z (by kernel_rfl))
  (case a19 => exact D.ns_m (D.q0g (by k_is) (by kernel_rfl)))
  (case l19 => exact D.q0v (D.q0j (by k_is) (by kernel_rfl)))
  (case c19 => exact D.q0y (D.q0l (by k_is) (by kernel_rfl)))
  (case k19 => exact D.q0z (by kernel_rfl))
  (case a20 => exact D.ns_m (D.q0g (by k_is) (by kernel_rfl)))
  (case l20 => exact D.q0v (D.q0j (by k_is) (by kernel_rfl)))
  (case c20 => exact D.q0y (D.q0l (by k_is) (by kernel_rfl)))
  (case k20 => exact D.q0z (by kernel_rfl))
  (case a21 => exact D.ns_m (D.q0g (by k_is) (by kernel_rfl)))
  (case l21 => exact D.q0v (D.q0j (by k_is) (by kernel_rfl)))
  (case c21 => exact D.q0y (D.q0l (by k_is) (by kernel_rfl)))
  (case k21 => exact D.q0z (by kernel_rfl))
  (case a22 => exact D.ns_m (D.q0g (by k_is) (by kernel_rfl)))
  (case l22 => exact D.q0v (D.q0j (by k_is) (by kernel_rfl)))
  (case c22 => exact D.q0y (D.q0l (by k_is) (by kernel_rfl)))
  (case k22 => exact D.q0z (by kernel_rfl))
  (case a23 => exact D.ns_m (D.q0g (by k_is) (by kernel_rfl)))
  (case l23 => exact D.q0v (D.q0j (by k_is) (by kernel_rfl)))
  (case c23 => exact D.q0y (D.q0l (by k_is) (by kernel_rfl)))
  (case k23 => exact D.q0z (by kernel_rfl))
  (case a24 => exact D.ns_m (D.q0g (by k_is) (by kernel_rfl)))
  (case l24 => exact D.q0v (D.q0j (by k_is) (by kernel_rfl)))
  (case c24 => exact D.q0y (D.q0l (by k_is) (by kernel_rfl)))
  (case k24 => exact D.q0z (by kernel_rfl))
  (case a25 => exact D.ns_m (D.q0g (by k_is) (by kernel_rfl)))
  (case l25 => exact D.q0v (D.q0j (by k_is) (by kernel_rfl)))
  (case c25 => exact D.q0y (D.q0l (by k_is) (by kernel_rfl)))
  (case k25 => exact D.q0z (by kernel_rfl))
  (case a26 => exact D.ns_m (D.q0g (by k_is) (by kernel_rfl)))
  (case l26 => exact D.q0v (D.q0j (by k_is) (by kernel_rfl)))
  (case c26 => exact D.q0y (D.q0l (by k_is) (by kernel_rfl)))
  (case k26 => exact D.q0z (by kernel_rfl))
  (case a27 => exact D.ns_m (D.q0g (by k_is) (by kernel_rfl)))
  (case l27 => exact D.q0v (D.q0j (by k_is) (by kernel_rfl)))
  (case c27 => exact D.q0y (D.q0l (by k_is) (by kernel_rfl)))
  (case k27 => exact D.q0z (by kernel_rfl))
  (case a28 => exact D.ns_m (D.q0g (by k_is) (by kernel_rfl)))
  (case l28 => exact D.q0v (D.q0j (by k_is) (by kernel_rfl)))
  (case c28 => exact D.q0y (D.q0l (by k_is) (by kernel_rfl)))
  (case k28 => exact D.q0z (by kernel_rfl))
  (case a29 => exact D.ns_m (D.q0g (by k_is) (by kernel_rfl)))
  (case l29 => exact D.q0v (D.q0j (by k_is) (by kernel_rfl)))
  (case c29 => exact D.q0y (D.q0l (by k_is) (by kernel_rfl)))
  (case k29 => exact D.q0z (by kernel_rfl))
  (case a30 => exact D.ns_m (D.q0g (by k_is) (by kernel_rfl)))
  (case l30 => exact D.q0v (D.q0j (by k_is) (by kernel_rfl)))
  (case c30 => exact D.q0y (D.q0l (by k_is) (by kernel_rfl)))
  (case k30 => exact D.q0z (by kernel_rfl))
  (case a31 => exact D.ns_m (D.q0g (by k_is) (by kernel_rfl)))
  (case l31 => exact D.q0v (D.q0j (by k_is) (by kernel_rfl)))
  (case c31 => exact D.q0y (D.q0l (by k_is) (by kernel_rfl)))
  (case k31 => exact D.q0z (by kernel_rfl))
  (case a32 => exact D.ns_m (D.q0g (by k_is) (by kernel_rfl)))
  (case l32 => exact D.q0v (D.q0j (by k_is) (by kernel_rfl)))
  (case c32 => exact D.q0y (D.q0l (by k_is) (by kernel_rfl)))
  (case k32 => exact D.q0z (by kernel_rfl))
  (case a33 => exact D.ns_m (D.q0g (by k_is) (by kernel_rfl)))
  (case l33 => exact D.q0v (D.q0j (by k_is) (by kernel_rfl)))
  (case c33 => exact D.q0y (D.q0l (by k_is) (by kernel_rfl)))
  (case k33 => exact D.q0z (by kernel_rfl))
  (case v12 => exact rfl)
  (case h12 => exact (show codeHdIn _ _ 217 = true by kernel_rfl))
  (case m12 => exact w0k _ (by simp))
  (case n_CircuitError => exact D.ns_m (D.q0g (by k_is) (by kernel_rfl)))
  (case n_NoPlace => exact D.ns_m (D.q0g (by k_is) (by kernel_rfl)))
  (case n_NoName => exact D.ns_m (D.q0g (by k_is) (by kernel_rfl)))
  (case n_BadText => exact D.ns_m (D.q0g (by k_is) (by kernel_rfl)))
  (case n_NoRow => exact D.ns_m (D.q0g (by k_is) (by kernel_rfl)))
  (case n_NoTable => exact D.ns_m (D.q0g (by k_is) (by kernel_rfl)))
  (case n_UnlikeSizes => exact D.ns_m (D.q0g (by k_is) (by kernel_rfl)))
  (case n_TooGreat => exact D.ns_m (D.q0g (by k_is) (by kernel_rfl)))
  (case n_NoMachine => exact D.ns_m (D.q0g (by k_is) (by kernel_rfl)))
  (case n_BadSheet => exact D.ns_m (D.q0g (by k_is) (by kernel_rfl)))
  (case n_MOST_PLACES => exact D.ns_m (D.q0g (by k_is) (by kernel_rfl)))
  (case z_ValueError => exact D.ns_m (D.q0g (by k_is) (by kernel_rfl)))
  (case z_all => exact D.ns_m (D.q0g (by k_is) (by kernel_rfl)))
  (case z_any => exact D.ns_m (D.q0g (by k_is) (by kernel_rfl)))
  (case z_bool => exact D.ns_m (D.q0g (by k_is) (by kernel_rfl)))
  (case z_int => exact D.ns_m (D.q0g (by k_is) (by kernel_rfl)))
  (case z_isinstance => exact D.ns_m (D.q0g (by k_is) (by kernel_rfl)))
  (case z_len => exact D.ns_m (D.q0g (by k_is) (by kernel_rfl)))
  (case z_list => exact D.ns_m (D.q0g (by k_is) (by kernel_rfl)))
  (case z_max => exact D.ns_m (D.q0g (by k_is) (by kernel_rfl)))
  (case z_min => exact D.ns_m (D.q0g (by k_is) (by kernel_rfl)))
  (case z_range => exact D.ns_m (D.q0g (by k_is) (by kernel_rfl)))
  (case z_tuple => exact D.ns_m (D.q0g (by k_is) (by kernel_rfl)))
  (case g_MOST_PLACES => kernel_rfl)
  (case e_NoPlace => kernel_rfl)
  (case e_NoTable => kernel_rfl)
  (case c_NoPlace => kernel_rfl)
  (case x_NoPlace_CircuitError => kernel_rfl)
  (case k_NoPlace_NoPlace => kernel_rfl)
  (case k_NoPlace_NoName => kernel_rfl)
  (case k_NoPlace_BadText => kernel_rfl)
  (case k_NoPlace_NoRow => kernel_rfl)
  (case k_NoPlace_NoTable => kernel_rfl)
  (case k_NoPlace_UnlikeSizes => kernel_rfl)
  (case k_NoPlace_TooGreat => kernel_rfl)
  (case k_NoPlace_NoMachine => kernel_rfl)
  (case k_NoPlace_BadSheet => kernel_rfl)
  (case k_NoPlace_ValueError => kernel_rfl)
  (case c_NoTable => kernel_rfl)
  (case x_NoTable_CircuitError => kernel_rfl)
  (case k_NoTable_NoPlace => kernel_rfl)
  (case k_NoTable_NoName => kernel_rfl)
  (case k_NoTable_BadText => kernel_rfl)
  (case k_NoTable_NoRow => kernel_rfl)
  (case k_NoTable_NoTable => kernel_rfl)
  (case k_NoTable_UnlikeSizes => kernel_rfl)
  (case k_NoTable_TooGreat => kernel_rfl)
  (case k_NoTable_NoMachine => kernel_rfl)
  (case k_NoTable_BadSheet => kernel_rfl)
  (case k_NoTable_ValueError => kernel_rfl)
  (case t_NoneType_int => kernel_rfl)
  (case t_bool_int => kernel_rfl)
  (case t_int_int => kernel_rfl)
  (case t_str_int => kernel_rfl)
  (case t_tuple_int => kernel_rfl)
  (case t_list_int => kernel_rfl)
  (case t_NoneType_bool => kernel_rfl)
  (case t_bool_bool => kernel_rfl)
  (case t_int_bool => kernel_rfl)
  (case t_str_bool => kernel_rfl)
  (case t_tuple_bool => kernel_rfl)
  (case t_list_bool => kernel_rfl)
  (case t_NoneType_tuple => kernel_rfl)
  (case t_bool_tuple => kernel_rfl)
  (case t_int_tuple => kernel_rfl)
  (case t_str_tuple => kernel_rfl)
  (case t_tuple_tuple => kernel_rfl)
  (case t_list_tuple => kernel_rfl)
  (case t_NoneType_list => kernel_rfl)
  (case t_bool_list => kernel_rfl)
  (case t_int_list => kernel_rfl)
  (case t_str_list => kernel_rfl)
  (case t_tuple_list => kernel_rfl)
  (case t_list_list => kernel_rfl)
  (case nt => exact D.no_m (by kernel_rfl) D.y28)
  (case hL => exact fun a M ns hl => Q.y31 M ns hl)
