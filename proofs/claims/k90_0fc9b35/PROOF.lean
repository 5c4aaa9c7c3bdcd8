import PyProof.Rows.All
import Wide.All
import OpenK.AllK
import Wide.FinOn
import Lean
import PyProof.EqAt
import PyProof.EqKinds
import PyProof.TupleCall
import PySem.Challenge.RW_tellroads_k90_again_and_shared
set_option Elab.async false
set_option linter.all false
set_option maxRecDepth 100000
set_option maxHeartbeats 4000000
section
open PySem PySem.Spec PyProof.Rows PySem.W
abbrev aAa:=@List.not_mem_nil
abbrev aAb:=@wpAny_bind
abbrev aAc:=@List.mem_singleton
abbrev aAd:=@List.getElem?_eq_getElem
abbrev aAe:=@Heap.get?_push_of_some
abbrev aAf:=@List.length_map
abbrev aAg:=@List.mem_cons
abbrev aAh:=@Nat.le_refl
abbrev aAi:=@Option.some.inj
abbrev aAj:=@List.mem_append_left
abbrev aAk:=@List.length_append
abbrev aAl:=@Heap.lt_size
abbrev aAm:=@wpAny_pure
abbrev aAn:=@List.getElem?_eq_some_iff
abbrev aAo:=@Heap.get?_push_size
abbrev aAp:=@List.mem_cons_self
abbrev aAq:=@List.mem_cons_of_mem
abbrev aAr:=@List.map_cons
abbrev aAs:=@sizeLine_eq
abbrev aAt:=@Heap.get?_update_other
abbrev aAu:=@List.mem_append_right
abbrev aAv:=@PySem.W.mg_of
abbrev aAw:=@List.size_toArray
abbrev aAx:=@List.mem_append
abbrev aAy:=@List.map_append
abbrev aAz:=@if_neg
abbrev aAA:=@PySem.F.plainAttrs_list
abbrev aAB:=@Nat.ne_of_lt
abbrev aAC:=@Nat.lt_of_lt_of_le
abbrev aAD:=@decide_eq_true
abbrev aAE:=@if_pos
abbrev aAF:=@List.take_add_one
abbrev aAG:=@wpAny_loadPart'
abbrev aAH:=@List.getElem?_map
abbrev aAI:=@of_decide_eq_true
abbrev aAJ:=@Nat.zero_le
abbrev aAK:=@Bool.false_ne_true
abbrev aAL:=@List.length_cons
abbrev aAM:=@List.length_take
abbrev aAN:=@PyProof.Rows.boot_list
abbrev aAO:=@List.getElem_mem
abbrev aAP:=@PySem.F.slot_list_append
abbrev aAQ:=@PySem.F.type_list_append
abbrev aAR:=@Bool.and_eq_true
abbrev aAS:=@List.getElem_of_mem
abbrev aAT:=@List.length_singleton
abbrev aAU:=@Nat.lt_irrefl
abbrev aAV:=@Paired.length
abbrev aAW:=@List.take_length
abbrev aAX:=@List.length_filter_le
abbrev aAY:=@Bool.false_eq_true
abbrev aAZ:=@List.pairwise_iff_getElem
abbrev aA0:=@List.pairwise_map
abbrev aA1:=@decide_eq_false
abbrev aA2:=@congrArg
abbrev aA3:=@List.map_map
abbrev aA4:=@Around.under_plainId
abbrev aA5:=@wpAny_holding
abbrev aA6:=@List.mem_map
abbrev aA7:=@beq_eq_false_iff_ne
abbrev aA8:=@codeAny_builtin
abbrev aA9:=@wpAny_mono
abbrev aBa:=@or_false
abbrev aBb:=@List.nodup_cons
abbrev aBc:=@PassesOwn.never
abbrev aBd:=@List.lookup_cons
abbrev aBe:=@Array.length_toList
abbrev aBf:=@Heap.get?_update_self
abbrev aBg:=@Ne.symm
abbrev aBh:=@Nat.le_trans
abbrev aBi:=@wpAny_Call_Name_kw
abbrev aBj:=@List.pairwise_cons
abbrev aBk:=@List.nodup_nil
abbrev aBl:=@List.append_nil
abbrev aBm:=@List.take_of_length_le
abbrev aBn:=@Int.toNat_natCast
abbrev aBo:=@Heap.size_push
abbrev aBp:=@List.mem_filter
abbrev aBq:=@PySem.W.mg_none_of
abbrev aBr:=@List.mem_of_getElem?
abbrev aBs:=@F.plain_max_loop
abbrev aBt:=@List.any_cons
abbrev aBu:=@Nat.ne_of_gt
abbrev aBv:=@wpAny_truthy_bool
abbrev aBw:=@List.append_assoc
abbrev aBx:=@PySem.boot_len
abbrev aBy:=@wpAny_call_entry
abbrev aBz:=@beq_self_eq_true
abbrev aBA:=@List.filter_append
abbrev aBB:=@wpAny_field
abbrev aBC:=@wpAny_callSpecial?_slot
abbrev aBD:=@PySem.F.plainAttrs_dict
abbrev aBE:=@List.length_eq_zero_iff
abbrev aBF:=@List.nodup_append
abbrev aBG:=@List.filter_cons_of_neg
abbrev aBH:=@List.filter_cons_of_pos
abbrev aBI:=@List.find?_cons
abbrev aBJ:=@if_false
abbrev aBK:=@List.map_congr_left
abbrev aBL:=@wpAny_richCompare_same_room
abbrev aBM:=@wpAny_newList
abbrev aBN:=@Nat.lt_succ_self
abbrev aBO:=@List.filter_cons
abbrev aBP:=@Calls.spliced_cons
abbrev aBQ:=@PySem.W.callWith_K
abbrev aBR:=@wpAny_passesOwn
abbrev aBS:=@Nat.lt_succ_of_lt
abbrev aBT:=@Sum.inr.inj
abbrev aBU:=@codeAny_mono
abbrev aBV:=@List.map_nil
abbrev aBW:=@Calls.evalArgs_plain
abbrev aBX:=@Bool.and_eq_true_iff
abbrev aBY:=@PySem.F.slot_dict_values
abbrev aBZ:=@List.mem_map_of_mem
abbrev aB0:=@PySem.mem_of_lookup
abbrev aB1:=@wpAny_seqItems
abbrev aB2:=@wpAny_setField
abbrev aB3:=@List.length_drop
abbrev aB4:=@List.any_eq_true
abbrev aB5:=@SeqAt.eqv_refl
abbrev aB6:=@List.pairwise_singleton
abbrev aB7:=@List.Nodup.length_le_of_subset
abbrev aB8:=@beq_iff_eq
abbrev aB9:=@Calls.callWith_builtin
abbrev aCa:=@tupleKind_room_in1
abbrev aCb:=@call_meetsIn
abbrev aCc:=@List.drop_of_length_le
abbrev aCd:=@wpAny_updateSeq
abbrev aCe:=@PySem.W.methodCall_KW
abbrev aCf:=@PyProof.Rows.callWith_type1
abbrev aCg:=@Calls.spliced_nil
abbrev aCh:=@Array.getElem?_eq_some_iff
abbrev aCi:=@List.getElem?_set_ne
abbrev aCj:=@List.getElem?_append_right
abbrev aCk:=@wpAny_isInstance
abbrev aCl:=@List.getElem?_append_left
abbrev aCm:=@Calls.call_function_entry
abbrev aCn:=@wpAny_attempt
abbrev aCo:=@listUpdate_at
abbrev aCp:=@PySem.F.type_dict_values
abbrev aCq:=@PySem.F.slot_list_extend
abbrev aCr:=@PySem.F.type_list_extend
abbrev aCs:=@PyProof.Rows.boot_sorted
abbrev aCt:=@wpAny_execs_nil
abbrev aCu:=@List.of_mem_zip
abbrev aCv:=@get?_update_seq
abbrev aCw:=@Int.emod_nonneg
abbrev aCx:=@Obj.data_mapFields
abbrev aCy:=@Int.emod_lt_of_pos
abbrev aCz:=@wpAny_newObj_type
abbrev aCA:=@Nat.lt_of_succ_lt
abbrev aCB:=@isSubtype_stop
abbrev aCC:=@Nat.le_of_lt
abbrev aCD:=@List.getElem?_set_self
abbrev aCE:=@PySem.W.cellsFrom_some
abbrev aCF:=@wpAny_tryCatch
abbrev aCG:=@Obj.isFreed_of_fields
abbrev aCH:=@Array.getElem?_toList
abbrev aCI:=@PySem.F.slot_dict_get
abbrev aCJ:=@PyProof.Rows.boot_max
abbrev aCK:=@F.entry_max_loop
abbrev aCL:=@wpAny_standAt
abbrev aCM:=@List.all_cons
abbrev aCN:=@wpAny_letGo
abbrev aCO:=@List.mem_of_mem_take
abbrev aCP:=@wpAny_ite_false
abbrev aCQ:=@Bool.eq_iff_iff
abbrev aCR:=@entry_list_sort
abbrev aCS:=@List.foldl_cons
abbrev aCT:=@List.range_succ
abbrev aCU:=@List.filterMap_cons
abbrev aCV:=@PySem.W.plainGet_of
abbrev aCW:=@Heap.SameBut.update
abbrev aCX:=@Nat.lt_trans
abbrev aCY:=@wpAny_rule
abbrev aCZ:=@List.mem_filterMap
abbrev aC0:=@slot_list_sort
abbrev aC1:=@Sum.inl.inj
abbrev aC2:=@List.reverse_cons
abbrev aC3:=@Option.isSome_map
abbrev aC4:=@bne_self_eq_false
abbrev aC5:=@Bool.not_eq_true'
abbrev aC6:=@Int.le_refl
abbrev aC7:=@List.foldl_append
abbrev aC8:=@decide_eq_true_eq
abbrev aC9:=@List.length_range
abbrev aDa:=@List.getElem_take
abbrev aDb:=@List.not_lt
abbrev aDc:=@PassesOwn.leaving
abbrev aDd:=@wpAny_execs_cons
abbrev aDe:=@decide_eq_decide
abbrev aDf:=@wpAny_call
abbrev aDg:=@call_meets
abbrev aDh:=@plain_sorted
abbrev aDi:=@entry_sorted
abbrev aDj:=@List.length_nil
abbrev aDk:=@Option.map_some
abbrev aDl:=@wpAny_runValue
abbrev aDm:=@intItems_at
abbrev aDn:=@seqEpoch_at
abbrev aDo:=@kind_sorted
abbrev aDp:=@args_list_sort
abbrev aDq:=@List.take_zero
abbrev aDr:=@List.Perm.refl
abbrev aDs:=@if_true
abbrev aDt:=@Bool.true_and
abbrev aDu:=@wpAny_load
end
namespace L2
open PySem PySem.Spec PyProof.Rows PySem.W
def HeldO(hd:Option Value)(G:Addr→Obj→Prop):Prop:=hd=none∨∃a o vs,hd=some (Value.ref a)∧o.data=.fields vs∧vs[2]?=some Value.none∧G a o
theorem HeldO.imp{hd:Option Value}{G G':Addr→Obj→Prop}(h:HeldO hd G)(k:∀a o vs,hd=some (Value.ref a)→o.data=.fields vs→G a o→G' a o):HeldO hd G':=by
 rcases h with h | ⟨a,o,vs,e,d,z,g⟩
 · exact .inl h
 · exact .inr ⟨a,o,vs,e,d,z,k a o vs e d g⟩
abbrev HeldAt(hd:Option Value)(h:Heap):Prop:=HeldO hd fun a o=>h.get? a=some o
theorem HeldAt.keep{hd:Option Value}{h h':Heap}(x:HeldAt hd h)(k:∀b o,h.get? b=some o→h'.get? b=some o):HeldAt hd h':=x.imp fun a o _ _ _ g=>k a o g
theorem HeldAt.ne{hd:Option Value}{h:Heap}{it:Addr}{o1:Obj}{us:Array Value}(x:HeldAt hd h)(g:h.get? it=some o1)(d:o1.data=.fields us)(n:us[2]?≠some Value.none):∀a,hd=some (.ref a)→a≠it:=by
 rintro a e rfl
 rcases x with x | ⟨b,o,vs,e',d',z,g'⟩
 · rw[e] at x;cases x
 · rw[e] at e';cases e'
   rw[g] at g';cases g'
   rw[d] at d';cases d'
   exact n z
theorem HeldAt.old{hd:Option Value}{h:Heap}(x:HeldAt hd h):∀a,hd=some (.ref a)→a≠h.objs.size:=by
 rintro a e rfl
 rcases x with x | ⟨b,o,vs,e',_,_,g⟩
 · rw[e] at x;cases x
 · rw[e] at e';cases e'
   exact aAU _ (aAl g)
theorem QD:entryFor table "proto.unchain" = some Builtin.«proto.unchain»:=entryFor_of_fast (by kernel_rfl)
section
variable{prog:Program}{w:World}{A:Around}{E:Value→Shared→Prop}{s:Shared}
theorem RI{a e:Addr}{o:Obj}{vs:Array Value}{Q:Value→Shared→Prop}(g:s.heap.get? a=some o)(d:o.data=.fields vs)(z:vs[2]?=some Value.none)(q:Q .none s) :
 wpAny (model prog w) A (runValue (.builtin "proto.unchain" ⟨[.ref e,.ref a,.ref a,.bool false],[]⟩)) Q E s:=by
 refine aDl (aA8 QD ?_)
 show wpAny _ _ (field (.ref a) 2 >>= _) _ _ s
 refine aAb (aBB g d z ?_)
 exact aAm q
theorem Ko{α:Type}{Q:α→Shared→Prop}(hh:HeldAt A.handled s.heap)(q:∀h' e,(∀b o,s.heap.get? b=some o→h'.get? b=some o)→(∃o,h'.get? e=some o∧o.cls=.type "StopIteration")→E (.ref e) { s with heap:=h' }) :
 wpAny (model prog w) A ((do raiseNew (←newExc (.type "StopIteration") []):Sem α)) Q E s:=by
 refine aAb ?_
 simp only[newExc,newTuple]
 refine aAb (aCz ?_ (by size_fits))
 refine aAb (m:=firstArgMember _ _) (wpAny_of_eq (a:=Value.none) (by first | rfl | (simp only[firstArgMember];rfl)) ?_)
 refine aCz ?_ (by size_fits)
 have k2:∀b o,s.heap.get? b=some o→((s.heap.push { cls:=.type "tuple",data:=.seq ([]:List Value).toArray }).push { cls:=.type "StopIteration",data:=.fields (#[.ref s.heap.objs.size,.none,.none,.none,.bool false,.none] ++ ownMembersOf (.type "StopIteration") []) }).get? b=some o:=fun b o e=>aAe _ (aAe _ e)
 simp only[raiseNew]
 refine aAb (wpAny_handled ?_)
 rcases hh with hh | ⟨a,o,vs,hh,d,z,g⟩
 · rw[hh]
   refine aAb (aAm (wpAny_throw (q _ _ k2 ⟨_,aAo _ rfl,rfl⟩)))
 · rw[hh]
   dsimp only
   have ne:a≠(s.heap.push { cls:=.type "tuple",data:=.seq ([]:List Value).toArray }).objs.size:=fun x=>by
    have:=aAl g
    rw[x,aBo] at this;exact aAU _ (aCA this)
   rw[aAE (by simpa using ne)]
   refine aAb (aA5 (RI (k2 _ _ g) d z ?_))
   have mine:=aAo (s.heap.push { cls:=.type "tuple",data:=.seq ([]:List Value).toArray }) (o:={ cls:=.type "StopIteration",data:=.fields (#[.ref s.heap.objs.size,.none,.none,.none,.bool false,.none] ++ ownMembersOf (.type "StopIteration") []) }) rfl
   simp only[updateField]
   refine aAb (aAb (aDu mine ?_))
   dsimp only
   rw[aAE (by simp;omega)]
   refine wpAny_update mine (wpAny_throw (q _ _ (fun b o e=>?_) ⟨_,aBf _ mine (aCG (aCx rfl _)),Obj.cls_mapFields ..⟩))
   have nb:(s.heap.push { cls:=.type "tuple",data:=.seq ([]:List Value).toArray }).objs.size≠b:=fun x=>by
    have:=aAl e
    rw[←x,aBo] at this;exact aAU _ (aCA this)
   exact (aAt _ _ nb).trans (k2 b o e)
theorem Rp{it l:Addr}{i:Nat}{items:Array Value}{Q:Option Value→Shared→Prop}(hh:HeldAt A.handled s.heap)(x:s.heap.IsListIter it l i)(y:s.heap.IsList l items)(n:items[i]?=none)
 (q:∀h',Heap.ExtBut it s.heap h'→Q none { s with heap:=h' }):wpAny (model prog w) A (pyNext (.ref it)) Q E s:=by
 obtain⟨o1,g1,c1,d1⟩:=id x
 obtain⟨o2,g2,_,n2,d2⟩:=y
 have hI:=hh.ne g1 d1 (by simp)
 unfold pyNext
 refine aAb (aCn (aBC (name:=Str.ofString "__next__") x.typeIs slot_listiter_next (aBy slot_listiter_next x.typeIs entry_listiter_next ?_ (args_listiter_next _))))
 show wpAny _ _ (field (.ref it) 0 >>= _) _ _ s
 refine aAb (aBB g1 d1 (x:=.ref l) rfl ?_)
 refine aCP (by rfl) ?_
 show wpAny _ _ (field (.ref it) 1 >>= _) _ _ s
 refine aAb (aBB g1 d1 (x:=.int i 0) rfl ?_)
 show wpAny _ _ (seqItems? (.ref l) >>= _) _ _ s
 refine aAb (aB1 g2 d2 ?_)
 simp only[aBn,n]
 refine aAb (aCY (aAb (aB2 g1 d1 (by simp) ?_)))
 refine Ko (s:={ s with heap:=s.heap.update it _ }) (hh.imp fun a o _ e _ g=>(aAt _ _ (aBg (hI a e))).trans g) fun h' e k ⟨o,ge,ce⟩=>?_
 refine aAb (aCk (T:="StopIteration") (b:=true) ⟨o,ge,ce⟩ aCB ?_)
 exact aAm (q h' fun b o hb z=>k b o ((aAt _ _ (aBg hb)).trans z))
theorem Pb{it l:Addr}{i:Nat}{items:Array Value}{Q:Option Value→Shared→Prop}(hh:HeldAt A.handled s.heap)(x:s.heap.IsTupleIter it l i)(y:s.heap.IsTuple l items)(n:items[i]?=none)
 (q:∀h',Heap.ExtBut it s.heap h'→Q none { s with heap:=h' }):wpAny (model prog w) A (pyNext (.ref it)) Q E s:=by
 obtain⟨o1,g1,c1,d1⟩:=id x
 obtain⟨o2,g2,_,n2,d2⟩:=y
 have hI:=hh.ne g1 d1 (by simp)
 unfold pyNext
 refine aAb (aCn (aBC (name:=Str.ofString "__next__") x.typeIs PySem.F.slot_tuple_iterator_next (aBy PySem.F.slot_tuple_iterator_next x.typeIs PySem.F.entry_tuple_iterator_next ?_ (PySem.F.args_tuple_iterator_next_1 _))))
 show wpAny _ _ (field (.ref it) 0 >>= _) _ _ s
 refine aAb (aBB g1 d1 (x:=.ref l) rfl ?_)
 refine aCP (by rfl) ?_
 show wpAny _ _ (field (.ref it) 1 >>= _) _ _ s
 refine aAb (aBB g1 d1 (x:=.int i 0) rfl ?_)
 show wpAny _ _ (seqItems? (.ref l) >>= _) _ _ s
 refine aAb (aB1 g2 d2 ?_)
 simp only[aBn,n]
 refine aAb (aCY (aAb (aB2 g1 d1 (by simp) ?_)))
 refine Ko (s:={ s with heap:=s.heap.update it _ }) (hh.imp fun a o _ e _ g=>(aAt _ _ (aBg (hI a e))).trans g) fun h' e k ⟨o,ge,ce⟩=>?_
 refine aAb (aCk (T:="StopIteration") (b:=true) ⟨o,ge,ce⟩ aCB ?_)
 exact aAm (q h' fun b o hb z=>k b o ((aAt _ _ (aBg hb)).trans z))
theorem UK{it:Addr}{v left step:Int}{Q:Option Value→Shared→Prop}(hh:HeldAt A.handled s.heap)(x:IsRangeIter s.heap it v left step)(n:left≤0)
 (q:∀h',Heap.ExtBut it s.heap h'→Q none { s with heap:=h' }):wpAny (model prog w) A (pyNext (.ref it)) Q E s:=by
 have tI:s.TypeIs (.ref it) "range_iterator":=⟨_,x,rfl⟩
 unfold pyNext
 refine aAb (aCn (aBC (name:=Str.ofString "__next__") tI PySem.F.slot_range_iterator_next (aBy PySem.F.slot_range_iterator_next tI PySem.F.entry_range_iterator_next ?_ (PySem.F.args_range_iterator_next_1 _))))
 show wpAny _ _ (field (.ref it) 0 >>= _) _ _ s
 refine aAb (aBB x rfl (x:=rawInt v) rfl ?_)
 show wpAny _ _ (field (.ref it) 1 >>= _) _ _ s
 refine aAb (aBB x rfl (x:=rawInt left) rfl ?_)
 show wpAny _ _ (field (.ref it) 2 >>= _) _ _ s
 refine aAb (aBB x rfl (x:=rawInt step) rfl ?_)
 refine wpAny_ite_true (aAD n) ?_
 refine aAb (aCY (aAb ?_))
 refine Ko (s:=s) hh fun h' e k ⟨o,ge,ce⟩=>?_
 refine aAb (aCk (T:="StopIteration") (b:=true) ⟨o,ge,ce⟩ aCB ?_)
 exact aAm (q h' fun b o _ z=>k b o z)
theorem UL{it:Addr}(a c:Int)(n:Nat){i:Nat}{Q:Option Value→Shared→Prop}(hi:i < n)(x:IsRangeIter s.heap it (a + (i:Nat) * c) ((n:Int) - (i:Nat)) c)
 (q:∀v h' tk,(∃t,v=.int (a + i * c) t)→IsRangeIter h' it (a + ((i + 1:Nat):Nat) * c) ((n:Int) - ((i + 1:Nat):Nat)) c→(∀b o,b∉[it]→s.heap.get? b=some o→h'.get? b=some o)→Q (some v) { s with heap:=h',toks:=tk }):wpAny (model prog w) A (pyNext (.ref it)) Q E s:=by
 refine wpAny_pyNext_range_item x (by omega) fun h' y k=>q _ h' _ ⟨_,rfl⟩ ?_ fun b o hb e=>k.extBut b o (fun z=>hb (aAc.mpr z)) e
 have e1:a + ((i + 1:Nat):Int) * c=a + (i:Int) * c + c:=by push_cast;rw[Int.add_mul,Int.one_mul,Int.add_assoc]
 have e2:(n:Int) - ((i + 1:Nat):Int)=(n:Int) - (i:Int) - 1:=by push_cast;omega
 rw[e1,e2];exact y
section
variable{K:Type} [DecidableEq K]{knd:KeyKind prog w K}
theorem Rs{it d:Addr}{i ep:Nat}{kvs:List (K×Value)}{Q:Option Value→Shared→Prop}(hh:HeldAt A.handled s.heap)(x:s.heap.IsKeyIter it d i kvs.length ep)(y:s.heap.DictAt knd d kvs ep)(n:kvs[i]?=none)
 (q:∀h',Heap.ExtBut it s.heap h'→Q none { s with heap:=h' }):wpAny (model prog w) A (pyNext (.ref it)) Q E s:=by
 obtain⟨o1,g1,c1,d1⟩:=id x
 obtain⟨o2,es,g2,c2,d2,k2,p2,n2⟩:=id y
 have hI:=hh.ne g1 d1 (by simp)
 have le:es.size=kvs.length:=by rw[←p2.length];simp
 have ge:es.size≤i:=by rw[le];simpa using n
 unfold pyNext
 refine aAb (aCn (aBC (name:=Str.ofString "__next__") x.typeIs PySem.F.slot_dict_keyiterator_next (aBy PySem.F.slot_dict_keyiterator_next x.typeIs PySem.F.entry_dict_keyiterator_next ?_ (PySem.F.args_dict_keyiterator_next_1 _))))
 refine aAb (aAm (aAb (aAb ?_)))
 refine aAb (wpAny_typeNameOfWhole_keyiter x.typeIs (aAm ?_))
 refine aAb (wpAny_fieldsOf g1 d1 ?_)
 simp only[show Builtin.Dict_items.ownsTuple "dict_keyiterator" = false by decide,aAY,aBJ]
 refine aCP (by rfl) ?_
 refine aAb (aAm (aAb (wpAny_dictEntries g2 d2 ?_)))
 rw[aAz (by rw[le];simp)]
 refine aAb (aAm (aAb (wpAny_dictEpoch g2 d2 ?_)))
 rw[aAz (by simp)]
 refine aAm ?_
 simp only[show ¬((i:Int) < 0) from by omega,aBJ,aBn,Array.getElem?_eq_none ge]
 refine aAb (aAb (wpAny_typeNameOfWhole_keyiter x.typeIs (aAm ?_)))
 show wpAny _ _ (setField (.ref it) 0 .none >>= _) _ _ s
 refine aAb (aB2 g1 d1 (by simp) ?_)
 refine Ko (s:={ s with heap:=s.heap.update it _ }) (hh.imp fun a o _ e _ g=>(aAt _ _ (aBg (hI a e))).trans g) fun h' e k ⟨o,ge,ce⟩=>?_
 refine aAb (aCk (T:="StopIteration") (b:=true) ⟨o,ge,ce⟩ aCB ?_)
 exact aAm (q h' fun b o hb z=>k b o ((aAt _ _ (aBg hb)).trans z))
theorem Q3{it d:Addr}{i ep:Nat}{kvs:List (K×Value)}{Q:Option Value→Shared→Prop}(hh:HeldAt A.handled s.heap)(x:s.heap.IsValIter it d i kvs.length ep)(y:s.heap.DictAt knd d kvs ep)(n:kvs[i]?=none)
 (q:∀h',Heap.ExtBut it s.heap h'→Q none { s with heap:=h' }):wpAny (model prog w) A (pyNext (.ref it)) Q E s:=by
 obtain⟨o1,g1,c1,d1⟩:=id x
 obtain⟨o2,es,g2,c2,d2,k2,p2,n2⟩:=id y
 have hI:=hh.ne g1 d1 (by simp)
 have le:es.size=kvs.length:=by rw[←p2.length];simp
 have ge:es.size≤i:=by rw[le];simpa using n
 unfold pyNext
 refine aAb (aCn (aBC (name:=Str.ofString "__next__") x.typeIs PySem.F.slot_dict_valueiterator_next (aBy PySem.F.slot_dict_valueiterator_next x.typeIs PySem.F.entry_dict_valueiterator_next ?_ (PySem.F.args_dict_valueiterator_next_1 _))))
 refine aAb (aAm (aAb (aAb ?_)))
 refine aAb (wpAny_typeNameOfWhole_valiter x.typeIs (aAm ?_))
 refine aAb (wpAny_fieldsOf g1 d1 ?_)
 simp only[show Builtin.Dict_items.ownsTuple "dict_valueiterator" = false by decide,aAY,aBJ]
 refine aCP (by rfl) ?_
 refine aAb (aAm (aAb (wpAny_dictEntries g2 d2 ?_)))
 rw[aAz (by rw[le];simp)]
 refine aAb (aAm (aAb (wpAny_dictEpoch g2 d2 ?_)))
 rw[aAz (by simp)]
 refine aAm ?_
 simp only[show ¬((i:Int) < 0) from by omega,aBJ,aBn,Array.getElem?_eq_none ge]
 refine aAb (aAb (wpAny_typeNameOfWhole_valiter x.typeIs (aAm ?_)))
 show wpAny _ _ (setField (.ref it) 0 .none >>= _) _ _ s
 refine aAb (aB2 g1 d1 (by simp) ?_)
 refine Ko (s:={ s with heap:=s.heap.update it _ }) (hh.imp fun a o _ e _ g=>(aAt _ _ (aBg (hI a e))).trans g) fun h' e k ⟨o,ge,ce⟩=>?_
 refine aAb (aCk (T:="StopIteration") (b:=true) ⟨o,ge,ce⟩ aCB ?_)
 exact aAm (q h' fun b o hb z=>k b o ((aAt _ _ (aBg hb)).trans z))
end
theorem SQ{env:Env}{es:List Expr}{k}{pos:Pos}{t:Addr}{items:Array Value}{Q:Unit→Shared→Prop}(hh:HeldAt A.handled s.heap)(ht:IsTup s.heap t items)(hn:(assignEach es env).length=items.size)(hs:(assignEach es env).findIdx? (·.1)=none)
 (q:∀h',Heap.ExtBut s.heap.objs.size s.heap h'→wpAny (model prog w) A (assignInOrder ((assignEach es env).map (·.2)) items.toList) Q E { s with heap:=h' }) :
 wpAny (model prog w) A (assign (.Tuple es k pos) env (.ref t)) Q E s:=by
 have nt:t≠s.heap.objs.size:=by obtain⟨o,z,_⟩:=ht;exact aAB (aAl z)
 rw[assign_Tuple]
 refine aAb (aCL ?_)
 unfold unpack
 rw[hn,hs]
 refine aAb (aA5 ?_)
 unfold unpackItems notIterableAtAll
 refine aAb (aAb (wpAny_specialOf ht.typeIs slot_tuple_iter.lookup (aAm ?_)))
 simp only[aAY,aBJ]
 refine aAb (aA5 (iter_tuple ht ?_))
 refine aAb (aA5 (draw_tuple nt items.size 0 _ _ ⟨_,aAo _ rfl,rfl,rfl⟩ (ht.push _) (by omega) fun h1 i1 s1=>?_))
 rw[show List.take items.size (List.drop 0 items.toList)=items.toList by rw[List.drop_zero];exact aBm (by simp),aAz (by simp)]
 have k1:∀b o,b≠s.heap.objs.size→s.heap.get? b=some o→h1.get? b=some o:=fun b o hb e=>s1.extBut b o hb (aAe _ e)
 refine aAb (aA5 (Pb (s:={ s with heap:=h1 }) (hh.imp fun a o _ _ _ g=>k1 a o (aAB (aAl g)) g) i1 ((ht.push _).extBut s1.extBut nt) (by simp) fun h2 k2=>?_))
 simp only[Option.isSome_none,aAY,aBJ]
 exact aAm (q h2 fun b o hb e=>k2 b o hb (k1 b o hb e))
end
def HeldL(hd:Option Value)(ho:List (Addr×Obj)):Prop:=(hd=none∧ho=[])∨∃a o vs,hd=some (Value.ref a)∧o.data=.fields vs∧vs[2]?=some Value.none∧ho=[(a,o)]
abbrev Std(ho:List (Addr×Obj))(h:Heap):Prop:=∀p∈ho,h.get? p.1=some p.2
theorem HeldAt.list{hd:Option Value}{h:Heap}(x:HeldAt hd h):∃ho,HeldL hd ho∧Std ho h:=by
 rcases x with x | ⟨a,o,vs,e,d,z,g⟩
 · exact ⟨[],.inl ⟨x,rfl⟩,fun p hp=>absurd hp aAa⟩
 · exact ⟨[(a,o)],.inr ⟨a,o,vs,e,d,z,rfl⟩,fun p hp=>by rw[aAc.mp hp];exact g⟩
theorem HeldL.at{hd:Option Value}{h:Heap}{ho:List (Addr×Obj)}(x:HeldL hd ho)(y:Std ho h):HeldAt hd h:=by
 rcases x with ⟨x,_⟩ | ⟨a,o,vs,e,d,z,rfl⟩
 · exact .inl x
 · exact .inr ⟨a,o,vs,e,d,z,y (a,o) (aAc.mpr rfl)⟩
theorem HeldL.ne{hd:Option Value}{h:Heap}{ho:List (Addr×Obj)}{it:Addr}{o1:Obj}{us:Array Value}(x:HeldL hd ho)(y:Std ho h)(g:h.get? it=some o1)(d:o1.data=.fields us)(n:us[2]?≠some Value.none):∀p∈ho,p.1≠it:=by
 rcases x with ⟨_,rfl⟩ | ⟨a,o,vs,e,d',z,rfl⟩
 · exact fun p hp=>absurd hp aAa
 · intro p hp
   rw[aAc.mp hp]
   exact (HeldL.at (.inr ⟨a,o,vs,e,d',z,rfl⟩) y:HeldAt hd h).ne g d n a e
section
variable{prog:Program}{w:World}{A:Around}{I:Addr}{fp:List Addr}{n:Nat}{P:Nat→Value→Prop}{St:Nat→Heap→Prop}{ho:List (Addr×Obj)}
theorem MU(hl:HeldL A.handled ho)(sub:I∈fp)(frame:∀i h h',St i h→(∀b∈fp,∀o,h.get? b=some o→h'.get? b=some o)→St i h')
 (rec:∀i h,St i h→∃o us,h.get? I=some o∧o.data=.fields us∧us[2]?≠some Value.none)
 (item:∀i (s:Shared) (Q:Option Value→Shared→Prop) (E:Value→Shared→Prop),i < n→St i s.heap→(∀v h' tk,P i v→St (i + 1) h'→(∀b o,b≠I→s.heap.get? b=some o→h'.get? b=some o)→Q (some v) { s with heap:=h',toks:=tk })→wpAny (model prog w) A (pyNext (.ref I)) Q E s)
 (done:∀(s:Shared) (Q:Option Value→Shared→Prop) (E:Value→Shared→Prop),St n s.heap→HeldAt A.handled s.heap→(∀h',Heap.ExtBut I s.heap h'→Q none { s with heap:=h' })→wpAny (model prog w) A (pyNext (.ref I)) Q E s)
 (self:∀i (s:Shared) (Q:Value→Shared→Prop) (E:Value→Shared→Prop),St i s.heap→Q (.ref I) s→wpAny (model prog w) A (pyIter (.ref I)) Q E s) :
 Walks prog w A I (fp ++ ho.map (·.1)) [I] n P (fun i h=>St i h∧Std ho h) where
 sub:=fun b hb=>by rw[aAc.mp hb];exact aAj _ sub
 frame:=fun i h h' st hk=>⟨frame i h h' st.1 fun b hb=>hk b (aAj _ hb),fun p hp=>hk p.1 (aAu _ (aBZ hp)) _ (st.2 p hp)⟩
 item:=fun i s Q E hi st hQ=>by
  obtain⟨o,us,g,d,z⟩:=rec i _ st.1
  have ne:=hl.ne st.2 g d z
  exact item i s Q E hi st.1 fun v h' tk hv st' k=>hQ v h' tk hv ⟨st',fun p hp=>k p.1 _ (ne p hp) (st.2 p hp)⟩ fun b o hb e=>k b o (fun x=>hb (aAc.mpr x)) e
 done:=fun s Q E st hQ=>done s Q E st.1 (hl.at st.2) fun h' k=>hQ h' s.toks fun b o hb e=>k b o (fun x=>hb (aAc.mpr x)) e
 self:=fun i s Q E st hQ=>self i s Q E st.1 hQ
theorem Us{ax:Addr}(hl:HeldL A.handled ho)(hne:ax≠I)(items:Array Value):Walks prog w A I ([I,ax] ++ ho.map (·.1)) [I] items.size (fun i v=>items[i]?=some v) (fun i h=>(h.IsListIter I ax i∧h.IsList ax items)∧Std ho h):=
 MU hl (by simp) (fun _ _ _ st hk=>⟨st.1.at fun o e=>hk I (by simp) o e,st.2.at fun o e=>hk ax (by simp) o e⟩) (fun i h st=>let ⟨o,g,_,d⟩:=st.1;⟨o,_,g,d,by simp⟩)
  (fun i s Q E hi st hQ=>wpAny_pyNext_list_item st.1 st.2 (x:=items[i]) (by simp[hi]) fun h' y k=>hQ _ h' s.toks (by simp[hi]) ⟨y,st.2.extBut k.extBut hne⟩ k.extBut)
  (fun s Q E st hh q=>Rp hh st.1 st.2 (by simp) q) fun _ _ _ _ st hQ=>wpAny_pyIter_listiter st.1 hQ
theorem SK{ax:Addr}(hl:HeldL A.handled ho)(hne:ax≠I)(items:Array Value):Walks prog w A I ([I,ax] ++ ho.map (·.1)) [I] items.size (fun i v=>items[i]?=some v) (fun i h=>(h.IsTupleIter I ax i∧h.IsTuple ax items)∧Std ho h):=
 MU hl (by simp) (fun _ _ _ st hk=>⟨st.1.at fun o e=>hk I (by simp) o e,st.2.at fun o e=>hk ax (by simp) o e⟩) (fun i h st=>let ⟨o,g,_,d⟩:=st.1;⟨o,_,g,d,by simp⟩)
  (fun i s Q E hi st hQ=>wpAny_pyNext_tuple_item st.1 st.2 (x:=items[i]) (by simp[hi]) fun h' y k=>hQ _ h' s.toks (by simp[hi]) ⟨y,st.2.extBut k.extBut hne⟩ k.extBut)
  (fun s Q E st hh q=>Pb hh st.1 st.2 (by simp) q) fun _ _ _ _ st hQ=>wpAny_pyIter_tupleiter st.1 hQ
end
section
variable{prog:Program}{w:World}{A:Around}{I:Addr}{ho:List (Addr×Obj)}{K:Type} [DecidableEq K]{knd:KeyKind prog w K}
theorem Ut{d:Addr}(hl:HeldL A.handled ho)(hne:d≠I)(kvs:List (K×Value))(ep:Nat):Walks prog w A I ([I,d] ++ ho.map (·.1)) [I] kvs.length (fun i v=>∃k x,kvs[i]?=some (k,x)∧knd.is k v=true) (fun i h=>(h.IsKeyIter I d i kvs.length ep∧h.DictAt knd d kvs ep)∧Std ho h):=
 MU hl (by simp) (fun _ _ _ st hk=>⟨st.1.at fun o e=>hk I (by simp) o e,st.2.at' fun o e=>hk d (by simp) o e⟩) (fun i h st=>let ⟨o,g,_,dd⟩:=st.1;⟨o,_,g,dd,by simp⟩)
  (fun i s Q E hi st hQ=>by
   obtain⟨⟨k,x⟩,hx⟩:∃p,kvs[i]?=some p:=⟨kvs[i],by simp[hi]⟩
   exact wpAny_pyNext_dict_item st.1 st.2 hx fun key h' hkey y z=>hQ key h' s.toks ⟨k,x,hx,hkey⟩ ⟨y,st.2.extBut z.extBut hne⟩ z.extBut)
  (fun s Q E st hh q=>Rs hh st.1 st.2 (by simp) q) fun _ _ _ _ st hQ=>wpAny_pyIter_keyiter st.1 hQ
theorem Ur{d:Addr}(hl:HeldL A.handled ho)(hne:d≠I)(kvs:List (K×Value))(ep:Nat):Walks prog w A I ([I,d] ++ ho.map (·.1)) [I] kvs.length (fun i v=>∃k,kvs[i]?=some (k,v)) (fun i h=>(h.IsValIter I d i kvs.length ep∧h.DictAt knd d kvs ep)∧Std ho h):=
 MU hl (by simp) (fun _ _ _ st hk=>⟨st.1.at fun o e=>hk I (by simp) o e,st.2.at' fun o e=>hk d (by simp) o e⟩) (fun i h st=>let ⟨o,g,_,dd⟩:=st.1;⟨o,_,g,dd,by simp⟩)
  (fun i s Q E hi st hQ=>by
   obtain⟨⟨k,x⟩,hx⟩:∃p,kvs[i]?=some p:=⟨kvs[i],by simp[hi]⟩
   exact wpAny_pyNext_values_item st.1 st.2 hx fun h' y z=>hQ x h' s.toks ⟨k,hx⟩ ⟨y,st.2.extBut z.extBut hne⟩ z.extBut)
  (fun s Q E st hh q=>Q3 hh st.1 st.2 (by simp) q) fun _ _ _ _ st hQ=>wpAny_pyIter_valiter st.1 hQ
end
section
variable{prog:Program}{w:World}{A:Around}{E:Value→Shared→Prop}{s:Shared}{r:Addr}{n:Nat}{P:Nat→Value→Prop}{St:Nat→Heap→Prop}{fp:List Addr}{oI:Obj}{T:String}
theorem Ou{R:Result→Shared→Prop}(tT:s.TypeIs (.ref r) T)(nl:(Value.type T == Value.type "list")=false)(nt:(Value.type T == Value.type "tuple")=false)
 (hint:∀(E:Value→Shared→Prop) (Q:Bool→Shared→Prop),Q false { s with heap:=s.heap.push oI }→wpAny (model prog w) A.in1 (Builtin.List.listLengthHint (.ref r)) Q E { s with heap:=s.heap.push oI })
 (hit:∀(E:Value→Shared→Prop) (Q:Value→Shared→Prop),Q (.ref s.heap.objs.size) { s with heap:=s.heap.push oI }→wpAny (model prog w) A.in1 (pyIter (.ref r)) Q E s)
 (W:Walks prog w A.in1 s.heap.objs.size fp [s.heap.objs.size] n P St)(st:St 0 (s.heap.push oI))(S:Addr)(sr:S≠r)(sf:S∉fp)(res:Value)(c0:Nat)(hS:s.heap.get? S=some { cls:=.type "list",data:=.seq #[] c0 })
 (q:∀h' tk acc c,(∀b o,b≠S→s.heap.get? b=some o→h'.get? b=some o)→h'.get? S=some { cls:=.type "list",dict:=none,data:=.seq acc c,slots:=#[] }→ItemsOf P acc n→R (.ok (.ret res)) { s with heap:=h',toks:=tk })(hn:n≤sizeLine) :
 wpAny (model prog w) A.in1 (Builtin.List.listExtendWith (.ref S) (.ref r) res)
  (fun fin s'=>match fin with | .done f=>R (.ok f) s' | .again c'=>c'.quiet=true∧codeAny (model prog w) A c' R s') (fun e s'=>R (.error e) s') s:=by
 have go:∀(h:Heap) (c1 tk:Nat),St 0 h→(∀b o,b≠S→s.heap.get? b=some o→h.get? b=some o)→h.get? S=some { cls:=.type "list",data:=.seq #[] c1 }→
  codeAny (model prog w) A (.builtin "list.extend.loop" ⟨[.ref S,.ref s.heap.objs.size,res],[]⟩) R { s with heap:=h,toks:=tk }:=fun h c1 tk z k g=>by
  refine codeAny_extend_loopS W.toS hn S sf res n 0 _ #[] c1 rfl (aAJ _) z g (ItemsOf.nil _) fun s2 acc c mv g2 it=>?_
  rw[Moved.eq_with mv]
  refine q s2.heap s2.toks acc c (fun b o hb e=>mv.heap b o (fun m=>?_) (k b o hb e)) g2 it
  rcases aAg.mp m with x | x
  · exact hb x
  · have:=aAl e
    rw[aAc.mp x] at this
    exact aAU _ this
 unfold Builtin.List.listExtendWith
 refine aAb (wpAny_typeOf (T:=T) tT ?_)
 simp only[show Builtin.List.listSameRef (.ref S) (.ref r)=false by simp[Builtin.List.listSameRef,sr],nl,nt,Bool.or_false,aAY,aBJ]
 refine aAb (hit _ _ ?_)
 have g1:=aAe oI hS
 refine aAb (aA5 (hint _ _ ?_))
 refine wpAny_ite_split (fun _=>?_) (fun _=>aAm ⟨plainId_quiet PySem.F.plain_extend_loop _,go _ c0 _ st (fun b o _ e=>aAe _ e) g1⟩)
 refine aAb (aCY (aAb ?_))
 show wpAny _ _ (updateSeq S (·.push .none) >>= fun _=>updateSeq S (·.pop)) _ _ _
 refine aAb (aCd g1 rfl ?_)
 have g2:=aBf (Obj.mapSeq (·.push Value.none)) g1 rfl
 refine aCd (hz:=by seq_fits) g2 rfl ?_
 have g3:=aBf (Obj.mapSeq (·.pop)) g2 rfl
 have ot:∀b o,b≠S→(s.heap.push oI).get? b=some o→(((s.heap.push oI).update S (Obj.mapSeq (·.push Value.none))).update S (Obj.mapSeq (·.pop))).get? b=some o:=fun b o hb e=>(aAt _ _ (aBg hb)).trans ((aAt _ _ (aBg hb)).trans e)
 exact aAm ⟨plainId_quiet PySem.F.plain_extend_loop _,go _ _ _ (W.frame 0 _ _ st fun b hb o e=>ot b o (fun x=>sf (x ▸ hb)) e) (fun b o hb e=>ot b o hb (aAe _ e)) g3⟩
end
section
variable{prog:Program}{w:World}{A:Around}{E:Value→Shared→Prop}{s:Shared}{K:Type} [DecidableEq K]{knd:KeyKind prog w K}{d r:Addr}{kvs:List (K×Value)}{ep:Nat}
theorem Xe{ho:List (Addr×Obj)}{h:Heap}(y:Std ho h):∀b∈ho.map (·.1),b < h.objs.size:=fun b hb=>by
 obtain⟨p,hp,rfl⟩:=aA6.mp hb
 exact aAl (y p hp)
theorem ZT{R:Result→Shared→Prop}(lo:(d == sysModules)=false)(hh:HeldAt A.handled s.heap)(hd:s.heap.DictAt knd d kvs ep)(S:Addr)(sd:S≠d)(sh:∀a,A.handled=some (.ref a)→a≠S)(res:Value)(c0:Nat)(hS:s.heap.get? S=some { cls:=.type "list",data:=.seq #[] c0 })
 (q:∀h' tk acc c,(∀b o,b≠S→s.heap.get? b=some o→h'.get? b=some o)→h'.get? S=some { cls:=.type "list",dict:=none,data:=.seq acc c,slots:=#[] }→ItemsOf (fun i v=>∃k x,kvs[i]?=some (k,x)∧knd.is k v=true) acc kvs.length→R (.ok (.ret res)) { s with heap:=h',toks:=tk })(hn:kvs.length≤sizeLine) :
 wpAny (model prog w) A.in1 (Builtin.List.listExtendWith (.ref S) (.ref d) res)
  (fun fin s'=>match fin with | .done f=>R (.ok f) s' | .again c'=>c'.quiet=true∧codeAny (model prog w) A c' R s') (fun e s'=>R (.error e) s') s:=by
 obtain⟨ho,hl,hs⟩:=hh.list
 have ls:=aAl hS
 refine Ou (T:="dict") hd.dictOf.typeIs (by decide) (by decide) (fun _ _ z=>W.kdl_hint_dict (hd.push _).dictOf.typeIs z) (fun _ _ z=>wpAny_pyIter_dict lo hd z) (Ut (A:=A.in1) hl (aAB hd.lt_size) kvs ep) ⟨⟨⟨_,aAo _ rfl,rfl,rfl⟩,hd.push _⟩,fun p hp=>aAe _ (hs p hp)⟩ S sd (fun m=>?_) res c0 hS q hn
 rcases aAx.mp m with m | m
 · rcases aAg.mp m with m | m
   · rw[m] at ls;exact aAU _ ls
   · exact sd (aAc.mp m)
 · rcases hl with ⟨_,rfl⟩ | ⟨a,o,vs,e,_,_,rfl⟩
   · exact absurd m aAa
   · exact sh a e (aAc.mp m).symm
theorem Vy{R:Result→Shared→Prop}(hh:HeldAt A.handled s.heap)(hv:s.heap.IsValuesView r d)(hd:s.heap.DictAt knd d kvs ep)(S:Addr)(sr:S≠r)(sd:S≠d)(sh:∀a,A.handled=some (.ref a)→a≠S)(res:Value)(c0:Nat)(hS:s.heap.get? S=some { cls:=.type "list",data:=.seq #[] c0 })
 (q:∀h' tk acc c,(∀b o,b≠S→s.heap.get? b=some o→h'.get? b=some o)→h'.get? S=some { cls:=.type "list",dict:=none,data:=.seq acc c,slots:=#[] }→ItemsOf (fun i v=>∃k,kvs[i]?=some (k,v)) acc kvs.length→R (.ok (.ret res)) { s with heap:=h',toks:=tk })(hn:kvs.length≤sizeLine) :
 wpAny (model prog w) A.in1 (Builtin.List.listExtendWith (.ref S) (.ref r) res)
  (fun fin s'=>match fin with | .done f=>R (.ok f) s' | .again c'=>c'.quiet=true∧codeAny (model prog w) A c' R s') (fun e s'=>R (.error e) s') s:=by
 obtain⟨ho,hl,hs⟩:=hh.list
 have ls:=aAl hS
 have hv':∀o,(s.heap.push o).IsValuesView r d:=fun o=>let ⟨u,e,x⟩:=hv;⟨u,aAe _ e,x⟩
 refine Ou (T:="dict_values") hv.typeIs (by decide) (by decide) (fun _ _ z=>W.kdl_hint_values (hv' _).typeIs z) (fun _ _ z=>wpAny_pyIter_values hv hd z) (Ur (A:=A.in1) hl (aAB hd.lt_size) kvs ep) ⟨⟨⟨_,aAo _ rfl,rfl,rfl⟩,hd.push _⟩,fun p hp=>aAe _ (hs p hp)⟩ S sr (fun m=>?_) res c0 hS q hn
 rcases aAx.mp m with m | m
 · rcases aAg.mp m with m | m
   · rw[m] at ls;exact aAU _ ls
   · exact sd (aAc.mp m)
 · rcases hl with ⟨_,rfl⟩ | ⟨a,o,vs,e,_,_,rfl⟩
   · exact absurd m aAa
   · exact sh a e (aAc.mp m).symm
theorem Qa{Q:Value→Shared→Prop}(hh:HeldAt A.handled s.heap)(hv:s.heap.IsValuesView r d)(hd:s.heap.DictAt knd d kvs ep)(hn:kvs.length≤sizeLine)
 (q:∀h' tk acc c,(∀b o,s.heap.get? b=some o→h'.get? b=some o)→h'.get? s.heap.objs.size=some { cls:=.type "list",dict:=none,data:=.seq acc c,slots:=#[] }→ItemsOf (fun i v=>∃k,kvs[i]?=some (k,v)) acc kvs.length→Q (.ref s.heap.objs.size) { s with heap:=h',toks:=tk }) :
 wpAny (model prog w) A (call (.type "list") [.ref r]) Q E s:=by
 refine callType_codes (Q₁:=fun ob s1=>ob=.ref s.heap.objs.size∧s1={ s with heap:=s.heap.push { cls:=.type "list",data:=.seq #[] } }) PySem.F.called_list (PySem.F.typeCall_list_1 _) PySem.F.entry_list_init (code_list_new _ ⟨rfl,rfl⟩) fun ob s1 z=>?_
 obtain⟨rfl,rfl⟩:=z
 have g0:(s.heap.push { cls:=.type "list",data:=.seq #[] }).get? s.heap.objs.size=some { cls:=.type "list",data:=.seq #[] }:=aAo _ rfl
 have ot:∀b o,s.heap.get? b=some o→((s.heap.push { cls:=.type "list",data:=.seq #[] }).update s.heap.objs.size (Obj.mapSeq (fun _=>(#[]:Array Value)))).get? b=some o:=fun b o e=>(aAt _ _ (aBg (aAB (aAl e)))).trans (aAe _ e)
 have lr:r < s.heap.objs.size:=let ⟨o,e,_⟩:=hv;aAl e
 refine ⟨⟨_,g0,rfl⟩,PySem.F.args_list_init_2 _ _,?_⟩
 show wpAny _ _ (do let old ←Builtin.List.listItems (.ref s.heap.objs.size);Builtin.List.listUpdate (.ref s.heap.objs.size) (fun _=>#[]);letGo old.toList.reverse;Builtin.List.listExtendWith (.ref s.heap.objs.size) (.ref r) .none) _ _ _
 unfold Builtin.List.listItems
 refine aAb (aAb (aB1 g0 rfl (aAm ?_)))
 show wpAny _ _ (updateSeq s.heap.objs.size (fun _=>#[]) >>= fun _=>letGo (#[]:Array Value).toList.reverse >>= fun _=>Builtin.List.listExtendWith (.ref s.heap.objs.size) (.ref r) .none) _ _ _
 refine aAb (aCd g0 rfl (aAb (aCN ?_)))
 refine Vy (A:=A.in1) (knd:=knd) (kvs:=kvs) (ep:=ep) (d:=d) (hh.imp fun a o _ _ _ g=>ot a o g) (let ⟨u,e,x⟩:=hv;⟨u,ot _ _ e,x⟩) (hd.at' fun o e=>ot _ _ e) _ (aBu lr) (aBu hd.lt_size) (fun a e=>?_) .none _ (aBf _ g0 rfl) (fun h' tk acc c k g it=>?_) hn
 · rcases hh with x | ⟨b,o,vs,e',_,_,g⟩
   · rw[show A.in1.handled=A.handled from rfl,x] at e;cases e
   · rw[show A.in1.handled=A.handled from rfl,e'] at e;cases e
     exact aAB (aAl g)
 · exact ⟨rfl,q h' tk acc c (fun b o e=>k b o (aAB (aAl e)) (ot b o e)) g it⟩
end
section
variable{prog:Program}{w:World}{A:Around}{E:Value→Shared→Prop}{s:Shared}{a b:Int}{t u:Tok}{Q:Value→Shared→Prop}
theorem Rl(hh:HeldAt A.handled s.heap){E':Value→Shared→Prop}{bt:Nat→Nat→Bool}{op:CmpOp}(C:CmpOf prog w A.in1 op (fun i v=>(intItems #[(a,t),(b,u)])[i]?=some v) bt)
 (q:∀v h' tk,(intItems #[(a,t),(b,u)])[argBest bt 1]?=some v→(∀c o,s.heap.get? c=some o→h'.get? c=some o)→Q v { s with heap:=h',toks:=tk }) :
 wpAny (model prog w) A.in1 (pyIter (.ref s.heap.objs.size)) (fun it s2=>∃I fp wr n P St bt',it=.ref I∧Walks prog w A.in1 I fp wr n P St∧St 0 s2.heap∧(∀b∈fp,b < s2.heap.objs.size)∧0 < n∧CmpOf prog w A.in1 op P bt'∧
  ∀v h' tk,P (argBest bt' (n - 1)) v→(∀b o,b∉wr→s2.heap.get? b=some o→h'.get? b=some o)→Q v { s2 with heap:=h',toks:=tk }) E'
  { s with heap:=s.heap.push { cls:=.type "tuple",data:=.seq #[.int a t,.int b u] } }:=by
 obtain⟨ho,hl,hs⟩:=hh.list
 have tp:(s.heap.push { cls:=.type "tuple",data:=.seq #[.int a t,.int b u] }).IsTuple s.heap.objs.size (intItems #[(a,t),(b,u)]):=⟨_,aAo _ rfl,rfl,0,by simp[intItems]⟩
 have z1:(s.heap.push { cls:=.type "tuple",data:=.seq #[.int a t,.int b u] }).objs.size=s.heap.objs.size + 1:=aBo ..
 refine wpAny_pyIter_tuple tp ?_
 have up:∀c o,s.heap.get? c=some o→((s.heap.push { cls:=.type "tuple",data:=.seq #[.int a t,.int b u] }).push { cls:=.type "tuple_iterator",data:=.fields #[.ref s.heap.objs.size,.int 0 0] }).get? c=some o:=fun c o e=>aAe _ (aAe _ e)
 refine ⟨_,_,_,_,_,_,bt,rfl,SK (A:=A.in1) (ax:=s.heap.objs.size) hl (by rw[z1];exact aAB (aBN _)) (intItems #[(a,t),(b,u)]),⟨⟨⟨_,aAo _ rfl,rfl,rfl⟩,tp.push _⟩,fun p hp=>up _ _ (hs p hp)⟩,fun c hc=>?_,by simp[intItems],C,fun v h' tk hP hk=>q v h' tk (by rw[show (intItems #[(a,t),(b,u)]).size - 1=1 by simp[intItems]] at hP;exact hP) fun c o e=>hk c o (fun m=>?_) (up c o e)⟩
 · show c < ((s.heap.push _).push _).objs.size
   rw[aBo,z1]
   rcases aAx.mp hc with x | x
   · rcases aAg.mp x with rfl | x
     · rw[z1];exact aBN _
     · rw[aAc.mp x];exact aBS (aBN _)
   · exact aBS (aBS (Xe hs c x))
 · have:=aAl e
   rw[aAc.mp m,z1] at this
   exact aAU _ (aCA this)
theorem Sl(hh:HeldAt A.handled s.heap)(q:∀h' tk,(∀c o,s.heap.get? c=some o→h'.get? c=some o)→Q (if b > a then .int b u else .int a t) { s with heap:=h',toks:=tk }) :
 wpAny (model prog w) A (call (.builtin "max") [.int a t,.int b u]) Q E s:=by
 refine call_max_two (Rl hh (CmpOf.ints_gt (numAt #[(a,t),(b,u)]) (fun _ _=>aDm)) fun v h' tk hP k=>?_)
 have e:v=if b > a then Value.int b u else Value.int a t:=by
  by_cases z:b > a
  · have y:argBest (fun i j=>decide (numAt #[(a,t),(b,u)] i > numAt #[(a,t),(b,u)] j)) 1=1:=by simp[argBest,numAt,z]
    rw[y] at hP;simpa [intItems,z] using hP.symm
  · have y:argBest (fun i j=>decide (numAt #[(a,t),(b,u)] i > numAt #[(a,t),(b,u)] j)) 1=0:=by simp[argBest,numAt,z]
    rw[y] at hP;simpa [intItems,z] using hP.symm
 rw[e];exact q h' tk k
theorem Sk(hh:HeldAt A.handled s.heap)(q:∀h' tk,(∀c o,s.heap.get? c=some o→h'.get? c=some o)→Q (if b < a then .int b u else .int a t) { s with heap:=h',toks:=tk }) :
 wpAny (model prog w) A (call (.builtin "min") [.int a t,.int b u]) Q E s:=by
 refine call_min_two (Rl hh (CmpOf.ints_lt (numAt #[(a,t),(b,u)]) (fun _ _=>aDm)) fun v h' tk hP k=>?_)
 have e:v=if b < a then Value.int b u else Value.int a t:=by
  by_cases z:b < a
  · have y:argBest (fun i j=>decide (numAt #[(a,t),(b,u)] i < numAt #[(a,t),(b,u)] j)) 1=1:=by simp[argBest,numAt,z]
    rw[y] at hP;simpa [intItems,z] using hP.symm
  · have y:argBest (fun i j=>decide (numAt #[(a,t),(b,u)] i < numAt #[(a,t),(b,u)] j)) 1=0:=by simp[argBest,numAt,z]
    rw[y] at hP;simpa [intItems,z] using hP.symm
 rw[e];exact q h' tk k
end
section
variable{prog:Program}{w:World}{A:Around}{E:Value→Shared→Prop}{s:Shared}{env:Env}
theorem Tl{e:Expr}{pos:Pos}{Q:Flow→Shared→Prop}(h:wpAny (model prog w) A (eval e env) (fun _ _=>False) E s):wpAny (model prog w) A (exec (.Raise (some e) none pos) env) Q E s:=by
 rw[arm_exec_Raise]
 simp only[evalOpt,Option.map]
 refine aAb (aCL ?_)
 unfold raiseStmt
 exact aAb (aAb (aA9 h (fun _ _ z=>z.elim) fun _ _ z=>z))
theorem Qt{pos:Pos}{f:Value}{first:List Value}{as:List (Bool×Sem Value)}{kw:List (Option Str×Sem Value)}{Q:Value→Shared→Prop}
 (h:wpAny (model prog w) A (evalArgs f true as kw) (fun _ _=>False) E s):wpAny (model prog w) A (callWith pos f first as kw) Q E s:=by
 unfold callWith
 exact aAb (aA5 (aA9 h (fun _ _ z=>z.elim) fun _ _ z=>z))
end
end L2
namespace L2
open PySem PySem.Spec PyProof.Rows PySem.W
def Uq(h:Heap)(e:Addr):Prop:=∃o vs,h.get? e=some o∧o.data=.fields vs∧vs[2]?=some Value.none
section
variable{M:Model}{A:Around}{E:Value→Shared→Prop}{s:Shared}{base:Heap}{env:Env}{outer:List Env}{L e:Addr}{cls a0:Value}{Q:Unit→Shared→Prop}
theorem V7{oe:Obj}{vs:Array Value}{head:Value}{had:Bool}(hfr:A.frames=some (env :: outer))(hl:s.heap.FunFrames base (env :: outer))(hf:env.frame=some L)(g:s.heap.get? e=some oe)(kb:base.StaysIn s.heap)(nb:base.get? e=none)(d:oe.data=.fields vs)(z0:vs[0]?=some a0)(z2:vs[2]?=some Value.none)
 (q:∀h',Heap.NotedW base (env :: outer) e oe.cls a0 (rawInt L) s.heap h'→Uq h' e→Q () { s with heap:=h' }) :
 wpAny M A (do let a ←frameOf env;let pl ←entryPlaceOf L had;let b ←EntryCells.newEntry head a .none (rawInt L) .none pl;setField (.ref e) 1 b) Q E s:=by
 have lt:2 < vs.size:=(aCh.mp z2).1
 have rcd:∀b o,s.heap.get? b=some o→(∀us,o.data≠.fields us)→b≠e:=fun b o x n y=>by
  rw[y,g] at x;cases x;exact n vs d
 have out:e∉(env :: outer).filterMap (·.frame):=fun m=>by
  obtain⟨_,o,x,n⟩:=hl.mem m
  exact rcd e o x n rfl
 refine aAb (wpAny_frameOf_fun hfr hl hf fun h1 sl=>?_)
 refine aAb (wpAny_entryPlaceOf fun pl hp=>?_)
 unfold EntryCells.newEntry newFields
 refine aAb (aCz ?_ (hp.sizeOk5 _ _ _ _ _))
 have t3:([head,.ref L,.none,rawInt L,.none] ++ (if pl.isEmpty then List.replicate 6 Value.none else pl)).toArray[3]?=some (rawInt L):=by first | (simp;done) | (rcases hp with rfl | ⟨_,_,_,_,_,_,_,rfl⟩ <;> simp)
 generalize ([head,.ref L,.none,rawInt L,.none] ++ (if pl.isEmpty then List.replicate 6 Value.none else pl)).toArray=ts at t3 ⊢
 have g1:h1.get? e=some oe:=(sl.2.1 e out).trans g
 have g2:=aAe (h:=h1) { cls:=.type "traceback",dict:=none,data:=.fields ts } g1
 have T1:(h1.push { cls:=.type "traceback",dict:=none,data:=.fields ts }).get? h1.objs.size=some { cls:=.type "traceback",dict:=none,data:=.fields ts }:=aAo _ rfl
 have nT:h1.objs.size≠e:=aBu (aAl g1)
 have dd:=aCx d (·.setIfInBounds 1 (Value.ref h1.objs.size))
 have g3:=aBf (Obj.mapFields (·.setIfInBounds 1 (Value.ref h1.objs.size))) g2 (aCG dd)
 have ot:∀b o,b≠e→h1.get? b=some o→((h1.push { cls:=.type "traceback",dict:=none,data:=.fields ts }).update e (Obj.mapFields (·.setIfInBounds 1 (Value.ref h1.objs.size)))).get? b=some o:=fun b o n x=>(aAt _ _ (aBg n)).trans (aAe _ x)
 have kb1:base.StaysIn h1:=fun b o x=>(sl.2.1 b fun m=>by rw[(hl.mem m).1] at x;cases x).trans (kb b o x)
 refine aB2 g2 d (by omega) (q _ ⟨fun b o x=>ot b o (fun y=>by rw[y,nb] at x;cases x) (kb1 b o x),hl.of_keeps fun b o x n=>?_,⟨_,_,h1.objs.size,_,ts,g3,⟨Obj.cls_mapFields _ _,by rw[Array.getElem?_setIfInBounds_ne (by decide)];exact z0⟩,dd,by simp[show 1 < vs.size by omega],kb1.fresh,nT,(aAt _ _ (aBg nT)).trans T1,rfl,t3⟩,fun b o x n=>?_⟩ ⟨_,_,g3,dd,by rw[Array.getElem?_setIfInBounds_ne (by decide)];exact z2⟩)
 · obtain⟨u,y⟩:=sl.2.2 b o x
   exact ⟨_,ot b _ (rcd b o x n) y,rfl⟩
 · obtain⟨u,y⟩:=sl.2.2 b o x
   exact ⟨u,ot b _ (rcd b o x n) y⟩
theorem UZ{oe:Obj}{vs:Array Value}(hfr:A.frames=some (env :: outer))(hl:s.heap.FunFrames base (env :: outer))(hf:env.frame=some L)(g:s.heap.get? e=some oe)(kb:base.StaysIn s.heap)(nb:base.get? e=none)(d:oe.data=.fields vs)(z0:vs[0]?=some a0)(z1:vs[1]?=some Value.none)(z2:vs[2]?=some Value.none)
 (q:∀h',Heap.NotedW base (env :: outer) e oe.cls a0 (rawInt L) s.heap h'→Uq h' e→Q () { s with heap:=h' }):wpAny M A (noteFrame (.ref e) env) Q E s:=by
 unfold noteFrame
 simp only[hf]
 refine aAb (aBB g d z1 ?_)
 rw[aAz (by decide)]
 exact V7 hfr hl hf g kb nb d z0 z2 q
theorem Rn(hfr:A.frames=some (env :: outer))(hl:s.heap.FunFrames base (env :: outer))(hf:env.frame=some L)(ht:s.heap.TracedW base e cls a0)(cx:Uq s.heap e)(kb:base.StaysIn s.heap)(nb:base.get? e=none)
 (q:∀h',Heap.NotedW base (env :: outer) e cls a0 (rawInt L) s.heap h'→Uq h' e→Q () { s with heap:=h' }):wpAny M A (noteFrame (.ref e) env) Q E s:=by
 obtain⟨oe,vs,T,oT,ts,g,⟨rfl,z0⟩,d,z1,bT,nT,gT,dT,t3⟩:=ht
 obtain⟨o',vs',g',d',z2⟩:=cx
 rw[g] at g';cases g'
 rw[d] at d';cases d'
 have ot:∀b,b≠T→(s.heap.update T (Obj.mapFields (·.setIfInBounds 3 Value.none))).get? b=s.heap.get? b:=fun b n=>aAt _ _ (aBg n)
 have rcd:∀b o,s.heap.get? b=some o→(∀us,o.data≠.fields us)→b≠T:=fun b o x n y=>by
  rw[y,gT] at x;cases x;exact n ts dT
 unfold noteFrame
 simp only[hf]
 refine aAb (aBB g d z1 ?_)
 rw[aAE (show (Value.ref T != Value.none)=true by simp)]
 refine aAb (aBB gT dT t3 ?_)
 rw[aAz (show ¬((Value.none == rawInt L)=true) by simp[rawInt])]
 refine aAb (aB2 gT dT (aCh.mp t3).1 ?_)
 refine V7 (s:={ s with heap:=s.heap.update T _ }) hfr (hl.of_keeps fun b o x n=>⟨o,(ot b (rcd b o x n)).trans x,rfl⟩) hf ((ot e (aBg nT)).trans g) (fun b o x=>(ot b fun y=>by rw[y,bT] at x;cases x).trans (kb b o x)) nb d z0 z2 fun h' ⟨x1,x2,x3,x4⟩ cx=>?_
 exact q h' ⟨x1,x2,x3,fun b o x n=>x4 b o ((ot b (rcd b o x n)).trans x) n⟩ cx
theorem Sr{fl:Value}{l:List Env}(kb:base.StaysIn s.heap)(hl:s.heap.FunFrames base l)(ht:s.heap.TracedAtW base e cls a0 fl)(cx:Uq s.heap e)
 (q:∀h',base.StaysIn h'→h'.FunFrames base l→h'.TracedW base e cls a0→s.heap.UpToSlots h'→Uq h' e→Q () { s with heap:=h' }):wpAny M A (setFlight (.ref e) none) Q E s:=by
 obtain⟨oe,vs,T,oT,ts,g,hc,d,z1,bT,nT,gT,dT,t3⟩:=ht
 have l3:3 < ts.size:=(aCh.mp t3).1
 have ot:∀b,b≠T→(s.heap.update T (Obj.mapFields (·.setIfInBounds 3 ((none:Option Addr).elim Value.none fun f=>rawInt f)))).get? b=s.heap.get? b:=fun b n=>aAt _ _ (aBg n)
 have rcd:∀b o,s.heap.get? b=some o→(∀us,o.data≠.fields us)→b≠T:=fun b o x n y=>by
  rw[y,gT] at x;cases x;exact n ts dT
 unfold setFlight
 refine aAb (aBB g d z1 ?_)
 rw[aAE (show (Value.ref T != Value.none)=true by simp)]
 obtain⟨o',vs',g',d',z2⟩:=cx
 refine aB2 gT dT l3 (q _ (fun b o x=>(ot b fun y=>by rw[y,bT] at x;cases x).trans (kb b o x)) (hl.of_keeps fun b o x n=>⟨o,(ot b (rcd b o x n)).trans x,rfl⟩) ?_ (fun b o x n=>⟨o.slots,(ot b (rcd b o x n)).trans x⟩) ⟨o',vs',(ot e (aBg nT)).trans g',d',z2⟩)
 exact ⟨oe,vs,T,_,_,(ot e (aBg nT)).trans g,hc,d,z1,bT,nT,aBf _ gT (aCG (aCx dT _)),aCx dT _,by simp[l3]⟩
theorem WD(hfr:A.frames=some (env :: outer))(hf:env.frame=some L)(fl:Heap.FlyingW base (env :: outer) e cls a0 s.heap)(cx:Uq s.heap e)
 (q:∀h',Heap.FlyingW base outer e cls a0 h'→s.heap.UpToSlots h'→Uq h' e→Q () { s with heap:=h' }):wpAny M A (leaving env (.ref e)) Q E s:=by
 obtain⟨f1,f2,f3,f4⟩:=fl
 unfold leaving
 refine aAb (Rn hfr f3 hf f4 cx f1 f2 fun h1 ⟨k1,k2,k3,k4⟩ cx1=>?_)
 exact Sr (s:={ s with heap:=h1 }) k1 k2 k3 cx1 fun h2 j1 j2 j3 j4 cx2=>q h2 ⟨j1,f2,j2.2.2,j3⟩ (Heap.UpToSlots.trans k4 j4) cx2
theorem TQ{h:Heap}{args:List Value}(hfr:A.frames=some (env :: outer))(hf:env.frame=some L)(kb:base.StaysIn h)(hl:h.FunFrames base (env :: outer))(hx:Heap.MadeExcOf h s.heap e cls args)
 (q:∀h' a0,Heap.FlyingW base outer e cls a0 h'→s.heap.UpToSlots h'→Uq h' e→Q () { s with heap:=h' }):wpAny M A (leaving env (.ref e)) Q E s:=by
 obtain⟨t,g,_,_⟩:=hx.there
 have nb:base.get? e=none:=by
  cases x:base.get? e with
  | none=>rfl
  | some o=>have:=kb e o x;rw[hx.new] at this;cases this
 unfold leaving
 refine aAb (UZ (vs:=#[.ref t,.none,.none,.none,.bool false,.none]) hfr (hl.of_keeps fun b o x _=>⟨o,hx.keeps b o x,rfl⟩) hf g (fun b o x=>hx.keeps b o (kb b o x)) nb rfl (a0:=.ref t) rfl rfl rfl fun h1 ⟨k1,k2,k3,k4⟩ cx1=>?_)
 exact Sr (s:={ s with heap:=h1 }) k1 k2 k3 cx1 fun h2 j1 j2 j3 j4 cx2=>q h2 _ ⟨j1,nb,j2.2.2,j3⟩ (Heap.UpToSlots.trans k4 j4) cx2
theorem Yo(hfr:A.frames=some (env :: outer))(hf:env.frame=some L)(fl:Heap.FlyingW base (env :: outer) e cls a0 s.heap)(cx:Uq s.heap e)
 (q:∀h',Heap.HeldW base (env :: outer) e cls a0 L h'→s.heap.UpToSlots h'→Uq h' e→Q () { s with heap:=h' }):wpAny M A (noteFrame (.ref e) env) Q E s:=by
 obtain⟨f1,f2,f3,f4⟩:=fl
 exact Rn hfr f3 hf f4 cx f1 f2 fun h' ⟨k1,k2,k3,k4⟩ cx1=>q h' ⟨k1,f2,k2,k3⟩ k4 cx1
theorem ab2{l:List Env}(hh:Heap.HeldW base l e cls a0 L s.heap)(cx:Uq s.heap e)(q:∀h',Heap.FlyingW base l e cls a0 h'→s.heap.UpToSlots h'→Uq h' e→Q () { s with heap:=h' }):wpAny M A (setFlight (.ref e) none) Q E s:=by
 obtain⟨f1,f2,f3,f4⟩:=hh
 exact Sr f1 f3 f4 cx fun h' k1 k2 k3 k4 cx1=>q h' ⟨k1,f2,k2,k3⟩ k4 cx1
theorem U5{l:List Env}(fl:Heap.FlyingW base l e cls a0 s.heap)(cx:Uq s.heap e)(q:∀h',Heap.FlyingW base l e cls a0 h'→s.heap.UpToSlots h'→Uq h' e→Q () { s with heap:=h' }):wpAny M A (setFlight (.ref e) none) Q E s:=by
 obtain⟨f1,f2,f3,f4⟩:=fl
 exact Sr f1 f3 f4.at cx fun h' k1 k2 k3 k4 cx1=>q h' ⟨k1,f2,k2,k3⟩ k4 cx1
end
end L2
namespace L2
open PySem PySem.Spec PyProof.Rows
abbrev HX:=Sum Int Str
def Oq:HX→Value→Bool
 | .inl k,v=>Value.isInt k v
 | .inr x,v=>Value.isStrOf x v
def acU(w:World):HX→Int
 | .inl k=>hashInt k
 | .inr x=>hashStr w x
theorem Ii:∀{k:HX} {v:Value},Oq k v=true→(∃i t,k=Sum.inl i∧v=Value.int i t)∨(∃x t,k=Sum.inr x∧v=Value.str x t)
 | .inl i,v,h=>by
   obtain⟨t,e⟩:=Value.isInt_shape (k:=i) (v:=v) h
   exact .inl ⟨i,t,rfl,e⟩
 | .inr x,v,h=>by
   obtain⟨t,e⟩:=Value.isStrOf_shape (x:=x) (v:=v) h
   exact .inr ⟨x,t,rfl,e⟩
theorem WH(i:Int)(t:Tok):Oq (.inl i) (.int i t)=true:=by simp[Oq,Value.isInt]
theorem WG(x:Str)(t:Tok):Oq (.inr x) (.str x t)=true:=by simp[Oq,Value.isStrOf]
theorem abc(a b:Int):decide ((Sum.inl a:HX)=Sum.inl b)=(a == b):=by
 by_cases e:a=b
 · subst e;simp
 · have h:¬(Sum.inl a:HX)=Sum.inl b:=fun q=>e (aC1 q)
   rw[aA1 h]
   exact (aA7.mpr e).symm
theorem aa9(a b:Str):decide ((Sum.inr a:HX)=Sum.inr b)=decide (a=b):=by
 by_cases e:a=b
 · subst e;simp
 · have h:¬(Sum.inr a:HX)=Sum.inr b:=fun q=>e (aBT q)
   rw[aA1 h,aA1 e]
theorem abb(a:Int)(b:Str):decide ((Sum.inl a:HX)=Sum.inr b)=false:=aA1 (fun q=>nomatch q)
theorem aba(a:Str)(b:Int):decide ((Sum.inr a:HX)=Sum.inl b)=false:=aA1 (fun q=>nomatch q)
def HK(prog:Program)(w:World):PySem.KeyKind prog w HX where
 is:=Oq
 hash:=acU w
 inj:=fun v a b ha hb=>by
  rcases Ii ha with ⟨i,t,rfl,rfl⟩ | ⟨x,t,rfl,rfl⟩
  · rcases Ii hb with ⟨j,u,rfl,e⟩ | ⟨y,u,rfl,e⟩
    · injection e with e1 _;rw[e1]
    · exact nomatch e
  · rcases Ii hb with ⟨j,u,rfl,e⟩ | ⟨y,u,rfl,e⟩
    · exact nomatch e
    · injection e with e1 _;rw[e1]
 byValue:=fun k v h=>by
  rcases Ii h with ⟨i,t,rfl,rfl⟩ | ⟨x,t,rfl,rfl⟩ <;> rfl
 pyHash:=fun hv h=>by
  rcases Ii hv with ⟨i,t,rfl,rfl⟩ | ⟨x,t,rfl,rfl⟩
  · exact wpAny_pyHash_int h
  · exact wpAny_pyHash_str h
 eqBool:=fun hu hv h=>by
  rcases Ii hu with ⟨i,t,rfl,rfl⟩ | ⟨x,t,rfl,rfl⟩
  · rcases Ii hv with ⟨j,u,rfl,rfl⟩ | ⟨y,u,rfl,rfl⟩
    · rw[abc] at h;exact wpAny_eqBool_int h
    · rw[abb] at h;exact SeqAt.EqAt.int_str i t y u _ _ _ _ h
  · rcases Ii hv with ⟨j,u,rfl,rfl⟩ | ⟨y,u,rfl,rfl⟩
    · rw[aba] at h;exact SeqAt.EqAt.str_int x t j u _ _ _ _ h
    · rw[aa9] at h;exact wpAny_eqBool_str h
 «strs»:=fun k x t v h=>by
  rcases Ii h with ⟨i,u,rfl,e⟩ | ⟨y,u,rfl,e⟩
  · exact nomatch e
  · injection e with e1 _
    subst e1
    cases v <;> rfl
theorem TL(prog:Program)(w:World)(i:Int)(t:Tok):(HK prog w).is (.inl i) (.int i t)=true:=WH i t
theorem TK(prog:Program)(w:World)(x:Str)(t:Tok):(HK prog w).is (.inr x) (.str x t)=true:=WG x t
end L2
namespace L2
open PySem PySem.Spec PyProof.Rows
inductive V where
 | non | bl (b:Bool) | int (i:Int) | str (x:Str) | byt (b:Array UInt8) | flt (b:UInt64) | ref (a:Addr) | ty (n:String)
 deriving DecidableEq
def RelV:V→Value→Prop
 | .non,u=>u=Value.none
 | .bl b,u=>u=Value.bool b
 | .int i,u=>∃t,u=Value.int i t
 | .str x,u=>∃t,u=Value.str x t
 | .byt b,u=>∃t,u=Value.bytes b t
 | .flt b,u=>∃t,u=Value.float b t
 | .ref a,u=>u=Value.ref a
 | .ty n,u=>u=Value.type n
abbrev Vals:List V→List Value→Prop:=Paired RelV
theorem Vals.length{xs:List V}{us:List Value}(r:Vals xs us):xs.length=us.length:=aAV r
theorem Vals.get:∀{xs:List V} {us:List Value} {i:Nat} {x:V},Vals xs us→xs[i]?=some x→∃u,us[i]?=some u∧RelV x u
 | _,_,_,_,.nil,e=>by simp at e
 | _,_,0,_,.cons r _,e=>by simp at e;subst e;exact ⟨_,rfl,r⟩
 | _,_,i + 1,x,.cons _ t,e=>by
   obtain⟨u,h1,h2⟩:=Vals.get (i:=i) (x:=x) t (by simpa using e)
   exact ⟨u,by simpa using h1,h2⟩
theorem Vals.set{x:V}{u:Value}(r:RelV x u):∀{xs:List V} {us:List Value} (i:Nat),Vals xs us→Vals (xs.set i x) (us.set i u)
 | _,_,_,.nil=>.nil
 | _,_,0,.cons _ t=>.cons r t
 | _,_,i + 1,.cons q t=>.cons q (Vals.set r i t)
theorem Vals.append:∀{xs ys:List V} {us ws:List Value},Vals xs us→Vals ys ws→Vals (xs ++ ys) (us ++ ws)
 | _,_,_,_,.nil,s=>s
 | _,_,_,_,.cons r t,s=>.cons r (Vals.append t s)
theorem Vals.take:∀{xs:List V} {us:List Value} (n:Nat),Vals xs us→Vals (xs.take n) (us.take n)
 | _,_,0,_=>.nil
 | _,_,_ + 1,.nil=>.nil
 | _,_,n + 1,.cons r t=>.cons r (Vals.take n t)
theorem Vals.drop:∀{xs:List V} {us:List Value} (n:Nat),Vals xs us→Vals (xs.drop n) (us.drop n)
 | _,_,0,r=>r
 | _,_,_ + 1,.nil=>.nil
 | _,_,n + 1,.cons _ t=>Vals.drop n t
theorem Vals.none_of:∀{xs:List V} {us:List Value} {i:Nat},Vals xs us→xs[i]?=none→us[i]?=none:=fun {xs us i} r e=>by
 have h1:=r.length
 have h2:xs.length≤i:=List.getElem?_eq_none_iff.mp e
 exact List.getElem?_eq_none_iff.mpr (by omega)
def RelO:Option V→Option Value→Prop
 | some v,some u=>RelV v u
 | none,none=>True
 | _,_=>False
def KV{κ:Type}:List (κ×V)→List (κ×Value)→Prop:=Paired fun (p:κ×V) (q:κ×Value)=>p.1=q.1∧RelV p.2 q.2
def kV:HX→V
 | .inl i=>.int i
 | .inr x=>.str x
inductive HO where
 | lst (xs:List V)
 | tup (xs:List V)
 | dK (kvs:List (HX×V)) | dT (kvs:List (List HX×V))
 | set (S:Int→Bool) (n:Nat)
 | ins (C dx:Addr) (fs:List (Str×V))
 | own (x:Addr)
 | xd (fs:List (Str×V))
 | met (f x:Addr)
 | rng (lo hi:Int)
 | frz (o:Obj) (u:HO)
 | tbl (ps:Array Value)
 | ext (φ:Heap→Prop)
abbrev Hp:=Addr→Option HO
def Hq(H:Hp)(a:Addr)(o:HO):Hp:=fun b=>if b=a then some o else H b
theorem GU{H:Hp}{a:Addr}{o:HO}:Hq H a o a=some o:=by unfold Hq;rw[aAE rfl]
theorem GY{H:Hp}{a b:Addr}{o:HO}(h:b≠a):Hq H a o b=H b:=by unfold Hq;rw[aAz h]
theorem RH{H:Hp}{a:Addr}{o u:HO}:Hq (Hq H a o) a u=Hq H a u:=by
 funext b;unfold Hq;split <;> rfl
theorem HY{H:Hp}{a b:Addr}{o u:HO}(h:H a=some o)(h':H b=some u)(d:o≠u):a≠b:=by
 intro e;subst e;rw[h] at h';exact d (aAi h')
theorem G5{H:Hp}{a b:Addr}{o:HO}(h:H a=some o)(h':H b=none):a≠b:=by
 intro e;subst e;rw[h] at h';cases h'
section
variable(P:Program)(w:World)
def ObjOk(H:Hp)(h:Heap)(a:Addr):HO→Prop
 | .lst xs=>xs.length≤sizeLine∧∃(its:List Value) (n:Nat),Vals xs its∧h.get? a=some { cls:=.type "list",data:=.seq its.toArray n }
 | .tup xs=>xs.length≤sizeLine∧∃its:List Value,Vals xs its∧IsTup h a its.toArray
 | .dK kvs=>kvs.length≤sizeLine∧(a == sysModules)=false∧∃vs,KV kvs vs∧h.DictOf (HK P w) a vs
 | .dT kvs=>kvs.length≤sizeLine∧(a == sysModules)=false∧∃xs:List (List HX×Addr×Value),
  Paired (fun (p:List HX×V) (q:List HX×Addr×Value)=>p.1=q.1∧H q.2.1=some (.tup (p.1.map kV))∧RelV p.2 q.2.2) kvs xs∧
  ∃o es ep,h.get? a=some o∧o.ExactDict∧o.data=.dict es ep∧es.toList=xs.map (entryOfKey (tupleKind (HK P w)))∧(xs.map (·.1)).Nodup
 | .set S n=>h.SetOf (intKind P w) a S n
 | .ins C dx fs=>H dx=some (.own a)∧fs.length≤1000∧dx≠a∧h.get? a=some (W.instObj C dx)∧
  ∃mA,h.Ns1 dx mA∧(∀f,RelO (fs.lookup f) (mA f))∧PySem.Within mA (fs.map (·.1))
 | .own _=>∃o,h.get? a=some o
 | .xd fs=>∃mA,h.Ns1 a mA∧∀f,RelO (fs.lookup f) (mA f)
 | .rng lo hi=>∃t u v,h.get? a=some { cls:=.type "range",data:=.fields #[.int lo t,.int hi u,.int 1 v] }
 | .frz o u=>h.get? a=some o∧ObjOk H h a u
 | .tbl ps=>h.get? a=some { cls:=.none,data:=.fields ps }
 | .met f x=>h.get? a=some (W.methodObj (.ref f) (.ref x))
 | .ext φ=>φ h∧(∃o,h.get? a=some o)∧∀h1 h2:Heap,φ h1→(∀o,h1.get? a=some o→h2.get? a=some o)→φ h2
def HOk(H:Hp)(h:Heap):Prop:=∀a o,H a=some o→ObjOk P w H h a o
end
section
variable{P:Program}{w:World}{H H':Hp}{h h':Heap}{a:Addr}{o:HO}
theorem ObjOk.lt(x:ObjOk P w H h a o):a < h.objs.size:=by
 cases o with
 | lst xs=>obtain⟨_,_,_,_,e⟩:=x;exact aAl e
 | tup xs=>obtain⟨_,_,_,p⟩:=x;exact p.lt
 | dK kvs=>obtain⟨_,_,_,_,o,_,_,e,_⟩:=x;exact aAl e
 | dT kvs=>obtain⟨_,_,_,_,o,_,_,e,_⟩:=x;exact aAl e
 | set S n=>obtain⟨o,_,_,_,e,_⟩:=x;exact aAl e
 | ins C dx fs=>obtain⟨_,_,_,e,_⟩:=x;exact aAl e
 | own y=>obtain⟨_,e⟩:=x;exact aAl e
 | xd fs=>obtain⟨_,⟨_,_,_,e,_⟩,_⟩:=x;exact aAl e
 | rng lo hi=>obtain⟨_,_,_,e⟩:=x;exact aAl e
 | frz ob u=>obtain⟨e,_⟩:=x;exact aAl e
 | tbl ps=>exact aAl (show h.get? a=some _ from x)
 | met f y=>exact aAl (show h.get? a=some _ from x)
 | ext φ=>obtain⟨_,⟨_,e⟩,_⟩:=x;exact aAl e
theorem Paired.mapP{α β:Type}{F G:α→β→Prop}:∀{l₁:List α} {l₂:List β},Paired F l₁ l₂→(∀a b,F a b→G a b)→Paired G l₁ l₂
 | _,_,.nil,_=>.nil
 | _,_,.cons r t,f=>.cons (f _ _ r) (Paired.mapP t f)
theorem ObjOk.stay(x:ObjOk P w H h a o)(k:∀b u,(b=a∨H b=some (.own a))→h.get? b=some u→h'.get? b=some u)
 (ho:∀b,H b=some (.own a)→H' b=some (.own a))(ht:∀b xs,H b=some (.tup xs)→H' b=some (.tup xs)):ObjOk P w H' h' a o:=by
 induction o with
 | lst xs=>obtain⟨z,its,n,r,e⟩:=x;exact ⟨z,its,n,r,k _ _ (.inl rfl) e⟩
 | tup xs=>obtain⟨z,its,r,ob,e,c⟩:=x;exact ⟨z,its,r,ob,k _ _ (.inl rfl) e,c⟩
 | dK kvs=>obtain⟨z,y,vs,r,ob,es,ep,e,c⟩:=x;exact ⟨z,y,vs,r,ob,es,ep,k _ _ (.inl rfl) e,c⟩
 | dT kvs=>
   obtain⟨z,y,xs,r,ob,es,ep,e,c⟩:=x
   exact ⟨z,y,xs,Paired.mapP r fun p q z=>⟨z.1,ht _ _ z.2.1,z.2.2⟩,ob,es,ep,k _ _ (.inl rfl) e,c⟩
 | set S n=>obtain⟨ob,es,ep,t,e,c⟩:=x;exact ⟨ob,es,ep,t,k _ _ (.inl rfl) e,c⟩
 | ins C dx fs=>
   obtain⟨d,z,ne,e,mA,⟨od,es,ep,e2,c⟩,r⟩:=x
   exact ⟨ho _ d,z,ne,k _ _ (.inl rfl) e,mA,⟨od,es,ep,k _ _ (.inr d) e2,c⟩,r⟩
 | own y=>obtain⟨ob,e⟩:=x;exact ⟨ob,k _ _ (.inl rfl) e⟩
 | xd fs=>obtain⟨mA,⟨od,es,ep,e,c⟩,r⟩:=x;exact ⟨mA,⟨od,es,ep,k _ _ (.inl rfl) e,c⟩,r⟩
 | rng lo hi=>obtain⟨t,u,v,e⟩:=x;exact ⟨t,u,v,k _ _ (.inl rfl) e⟩
 | frz ob u ih=>obtain⟨e,q⟩:=x;exact ⟨k _ _ (.inl rfl) e,ih q⟩
 | tbl ps=>
   have e:h.get? a=some { cls:=.none,data:=.fields ps }:=x
   show h'.get? a=some { cls:=.none,data:=.fields ps }
   exact k a _ (.inl rfl) e
 | met f y=>
   have e:h.get? a=some (W.methodObj (.ref f) (.ref y)):=x
   show h'.get? a=some (W.methodObj (.ref f) (.ref y))
   exact k a _ (.inl rfl) e
 | ext φ=>obtain⟨p,⟨o,e⟩,st⟩:=x;exact ⟨st _ _ p fun o q=>k _ _ (.inl rfl) q,⟨o,k _ _ (.inl rfl) e⟩,st⟩
theorem HOk.lt(x:HOk P w H h)(e:H a=some o):a < h.objs.size:=(x a o e).lt
theorem HOk.fresh(x:HOk P w H h)(e:h.objs.size≤a):H a=none:=by
 cases q:H a with
 | none=>rfl
 | some u=>exact absurd (aAC (x.lt q) e) (aAU _)
theorem HOk.kept(x:HOk P w H h)(k:∀b u,h.get? b=some u→h'.get? b=some u):HOk P w H h':=fun a o e=>
 (x a o e).stay (fun b u _ q=>k b u q) (fun _ q=>q) fun _ _ q=>q
theorem HOk.laid(x:HOk P w H h)(k:∀b u,h.get? b=some u→h'.get? b=some u)(hp:h.objs.size≤a)(new:ObjOk P w (Hq H a o) h' a o):HOk P w (Hq H a o) h':=fun b u e=>by
 have hn:=x.fresh hp
 by_cases hb:b=a
 · subst hb;rw[GU] at e;cases e;exact new
 · rw[GY hb] at e
   exact (x b u e).stay (fun c v _ q=>k c v q) (fun c q=>by rw[GY (G5 q hn)];exact q) fun c xs q=>by rw[GY (G5 q hn)];exact q
end
def Rd(H:Hp)(a:Addr)(u:HO):Prop:=H a=some u∨∃o,H a=some (.frz o u)
theorem Rd.of{H:Hp}{a:Addr}{u:HO}(h:H a=some u):Rd H a u:=.inl h
theorem Rd.ok{P:Program}{w:World}{H:Hp}{h:Heap}{a:Addr}{u:HO}(r:Rd H a u)(x:HOk P w H h):ObjOk P w H h a u:=by
 rcases r with r | ⟨o,r⟩
 · exact x a u r
 · obtain⟨_,q⟩:=x a _ r
   exact q
def Mut:Option HO→Prop
 | some (.lst _)=>True
 | some (.dK _)=>True
 | some (.dT _)=>True
 | some (.set _ _)=>True
 | some (.ins _ _ _)=>True
 | some (.ext _)=>True
 | _=>False
section
variable{P:Program}{w:World}{H:Hp}{h h':Heap}{x e:Addr}{o':HO}
theorem HOk.write(ok:HOk P w H h)(mu:Mut (H x))(he:e=x∨H e=some (.own x))(k:∀b u,b≠e→h.get? b=some u→h'.get? b=some u)(heo:∃u,h'.get? e=some u)
 (new:ObjOk P w (Hq H x o') h' x o'):HOk P w (Hq H x o') h':=fun b u q=>by
 have nown:∀c y,H c=some (.own y)→c≠x:=fun c y r z=>by subst z;rw[r] at mu;exact mu
 have ntup:∀c xs,H c=some (.tup xs)→c≠x:=fun c xs r z=>by subst z;rw[r] at mu;exact mu
 by_cases hb:b=x
 · subst hb;rw[GU] at q;cases q;exact new
 · rw [GY hb] at q
   by_cases hbe:b=e
   · have q':H b=some (.own x):=by
      rcases he with z | z
      · exact absurd (hbe.trans z) hb
      · rw[hbe];exact z
     rw[q] at q';cases q'
     obtain⟨v,hv⟩:=heo
     exact ⟨v,by rw[hbe];exact hv⟩
   · refine (ok b u q).stay (fun c v hc r=>k c v ?_ r) (fun c r=>by rw[GY (nown c b r)];exact r) fun c xs r=>by rw[GY (ntup c xs r)];exact r
     rcases hc with rfl | hc
     · exact hbe
     · rintro rfl
       rcases he with z | z
       · exact nown c b hc z
       · rw[hc] at z;cases z;exact hb rfl
end
structure Un(fs ex:List Addr)(H H':Hp)(h h':Heap):Prop where
 keep:∀b o,h.get? b=some o→H b=none→b∉fs→b∉ex→h'.get? b=some o
 slot:∀b o,h.get? b=some o→H b=none→b∈fs→b∉ex→∃sl,h'.get? b=some { o with slots:=sl }
 free:∀b o,h.get? b=some o→H b=none→b∉ex→H' b=none
 there:∀b o,h.get? b=some o→b∉ex→∃o',h'.get? b=some o'
 tups:∀b xs,H b=some (.tup xs)→H' b=some (.tup xs)
 frzs:∀b o u,H b=some (.frz o u)→H' b=some (.frz o u)
 tbls:∀b ps,H b=some (.tbl ps)→∃more,H' b=some (.tbl (ps ++ more))
section
variable{fs fs' ex ex':List Addr}{H H1 H2:Hp}{h h1 h2 h':Heap}{a x e:Addr}{o:HO}
theorem Un.any(u:Un fs ex H H1 h h1){b:Addr}{ob:Obj}(q:h.get? b=some ob)(n:H b=none)(hx:b∉ex):∃sl,h1.get? b=some { ob with slots:=sl }:=by
 by_cases hb:b∈fs
 · exact u.slot b ob q n hb hx
 · exact ⟨ob.slots,u.keep b ob q n hb hx⟩
theorem Un.trans(a:Un fs ex H H1 h h1)(b:Un fs ex H1 H2 h1 h2):Un fs ex H H2 h h2 where
 keep:=fun c ob q n hc hx=>b.keep c ob (a.keep c ob q n hc hx) (a.free c ob q n hx) hc hx
 slot:=fun c ob q n hc hx=>by
  obtain⟨sl,e1⟩:=a.slot c ob q n hc hx
  obtain⟨sl',e2⟩:=b.slot c _ e1 (a.free c ob q n hx) hc hx
  exact ⟨sl',e2⟩
 free:=fun c ob q n hx=>by
  obtain⟨o',e1⟩:=a.there c ob q hx
  exact b.free c o' e1 (a.free c ob q n hx) hx
 there:=fun c ob q hx=>by
  obtain⟨o',e1⟩:=a.there c ob q hx
  exact b.there c o' e1 hx
 tups:=fun c xs q=>b.tups c xs (a.tups c xs q)
 frzs:=fun c ob xs q=>b.frzs c ob xs (a.frzs c ob xs q)
 tbls:=fun c ps q=>by
  obtain⟨m1,e1⟩:=a.tbls c ps q
  obtain⟨m2,e2⟩:=b.tbls c _ e1
  exact ⟨m1 ++ m2,by rw[e2,Array.append_assoc]⟩
theorem Un.kept(k:∀b u,h.get? b=some u→h'.get? b=some u):Un fs ex H H h h':=
 ⟨fun b ob q _ _ _=>k b ob q,fun b ob q _ _ _=>⟨ob.slots,k b ob q⟩,fun _ _ _ n _=>n,fun b ob q _=>⟨ob,k b ob q⟩,fun _ _ q=>q,fun _ _ _ q=>q,fun _ ps q=>⟨#[],by rw[q];simp⟩⟩
theorem Un.refl:Un fs ex H H h h:=Un.kept fun _ _ q=>q
theorem Un.laid(k:∀b u,h.get? b=some u→h'.get? b=some u)(hp:h.objs.size≤a)(hn:H a=none):Un fs ex H (Hq H a o) h h' where
 keep:=fun b u q _ _ _=>k b u q
 slot:=fun b u q _ _ _=>⟨u.slots,k b u q⟩
 free:=fun b u q n _=>by rw[GY (aAB (aAC (aAl q) hp))];exact n
 there:=fun b u q _=>⟨u,k b u q⟩
 tups:=fun b xs q=>by rw[GY (G5 q hn)];exact q
 frzs:=fun b u xs q=>by rw[GY (G5 q hn)];exact q
 tbls:=fun b ps q=>⟨#[],by rw[GY (G5 q hn),q];simp⟩
theorem Un.write(mu:Mut (H x))(he:e=x∨H e=some (.own x))(k:∀b u,b≠e→h.get? b=some u→h'.get? b=some u)(heo:∃u,h'.get? e=some u):Un fs ex H (Hq H x o) h h':=by
 have hx:∀b,H b=none→b≠x:=fun b n z=>by subst z;rw[n] at mu;exact mu
 have hb:∀b,H b=none→b≠e:=fun b n z=>by
  subst z
  rcases he with r | r
  · exact hx b n r
  · rw[n] at r;cases r
 have hm:∀b u,H b=some u→¬Mut (some u)→b≠x:=fun b u q nm z=>by subst z;rw[q] at mu;exact nm mu
 refine ⟨fun b u q n _ _=>k b u (hb b n) q,fun b u q n _ _=>⟨u.slots,k b u (hb b n) q⟩,fun b u q n _=>by rw[GY (hx b n)];exact n,fun b u q _=>?_,
  fun b xs q=>by rw[GY (hm b _ q fun z=>z)];exact q,fun b u xs q=>by rw[GY (hm b _ q fun z=>z)];exact q,fun b ps q=>⟨#[],by rw[GY (hm b _ q fun z=>z),q];simp⟩⟩
 by_cases hbe:b=e
 · subst hbe;exact heo
 · exact ⟨u,k b u hbe q⟩
theorem Un.mono(u:Un fs ex H H1 h h1)(hs:∀b∈fs,b∈fs')(hx:∀b∈ex,b∈ex'):Un fs' ex' H H1 h h1:=
 ⟨fun b ob q n hb he=>u.keep b ob q n (fun z=>hb (hs b z)) fun z=>he (hx b z),fun _ _ q n _ he=>u.any q n fun z=>he (hx _ z),fun b ob q n he=>u.free b ob q n fun z=>he (hx b z),fun b ob q he=>u.there b ob q fun z=>he (hx b z),u.tups,u.frzs,u.tbls⟩
end
def trk(h:Heap)(H:Hp):List Addr:=(List.range h.objs.size).filter fun a=>(H a).isSome
def Sy(h:Heap)(H:Hp):Heap:=W.hideAll h (trk h H)
theorem WJ(h:Heap)(H:Hp):(Sy h H).objs.size=h.objs.size:=W.hideAll_size _ _
theorem YD{h:Heap}{H:Hp}{b:Addr}{o:Obj}(e:h.get? b=some o)(n:H b=none):(Sy h H).get? b=some o:=
 W.hideAll_get _ e fun hm=>by
  have q:(H b).isSome=true:=(aBp.mp hm).2
  rw[n] at q;simp at q
theorem ZI{h:Heap}{H:Hp}{b:Addr}{o:Obj}(e:(Sy h H).get? b=some o):h.get? b=some o∧H b=none:=by
 have e':h.get? b=some o:=W.of_hideAll (trk h H) e
 refine ⟨e',?_⟩
 cases q:H b with
 | none=>rfl
 | some x=>
   have hm:b∈trk h H:=aBp.mpr ⟨List.mem_range.mpr (aAl e'),by simp[q]⟩
   have z:(Sy h H).get? b=none:=W.hideAll_none (trk h H) hm
   rw[z] at e;cases e
def aad(g h:Heap)(L:Addr):List (Addr×Obj):=(List.range h.objs.size).filterMap fun a=>if a=L∨(g.get? a).isSome=true then none else (h.get? a).map fun o=>(a,o)
def LU(g h:Heap)(L d:Addr):List (Addr×Obj):=(aad g h L).filter fun p=>decide (p.1≠d)
end L2
namespace L2
open PySem PySem.Spec PyProof.Rows
structure Mod(K:W.Frag)(mg:Str→Option Value)(base:Heap):Prop where
 kin:K.In base
 glob:base.Ns mainGlobals mg
 blt:∃mb,base.Ns builtinsNs mb∧∀x:Str,x≠"__name__"→mb x=bootBuiltins x
 nolimit:base.NoLimit
structure Cx where
 prog:Program
 w:World
 K:W.Frag
 mg:Str→Option Value
 base:Heap
 A:Around
 N:List Str
 s₀:Shared
 H₀:Hp
 env:Env
 outer:List Env
 stack:List Env
 ex:List Addr
 fn:Str→Bool
 calm:Bool
 nv:Prop
 pn:List (Addr×Obj)
 xe:Value→Shared→Prop
def OP(l:List Env):List Addr:=l.filterMap (·.frame)
abbrev Cx.fs(X:Cx):List Addr:=OP X.outer
def Vis(sc:Scope)(x:Str):Prop:=sc.names.lookup x=some .local∨sc.names.lookup x=some .cell∨sc.names.lookup x=some .free
def Loc(sc:Scope)(x:Str):Prop:=sc.names.lookup x=some .local∨sc.names.lookup x=some .cell
def ac0(env:Env)(h:Heap)(m:Str→Option Value)(x:Str)(u:Value):Prop:=
 (env.kindOf x=some .local∧m x=some u)∨((env.kindOf x=some .cell∨env.kindOf x=some .free)∧∃c,env.cells.lookup x=some c∧h.IsCell c (some u))
structure Cx.Ok(X:Cx):Prop where
 mod:Mod X.K X.mg X.base
 kind:X.env.scope.kind=.function
 glob:X.env.globals=mainGlobals
 blt:X.env.builtins=builtinsNs
 above:X.s₀.heap.objs.size≤X.env.locals
 inj:∀x y c,X.env.cells.lookup x=some c→X.env.cells.lookup y=some c→x=y
 has:∀x,(X.env.kindOf x=some .cell∨X.env.kindOf x=some .free)→∃c,X.env.cells.lookup x=some c
 cab:∀x c,X.fn x=true→X.env.cells.lookup x=some c→X.s₀.heap.objs.size≤c
 hd:X.calm=true→X.A.handled=none
 frames:X.A.frames=some X.stack
 stk:X.stack=X.outer∨(X.stack=X.env :: X.outer∧X.env.frame=some X.env.locals)
 exf:∀b∈X.ex,b≠X.env.locals∧∀x c,X.env.cells.lookup x=some c→c≠b
 bs:∀b o,X.base.get? b=some o→X.s₀.heap.get? b=some o∧X.H₀ b=none
 bsz:X.base.objs.size≤X.s₀.heap.objs.size
 noex:∀b o,X.base.get? b=some o→b∉X.ex
 exfs:∀b∈X.ex,b∉X.fs
 funs:X.s₀.heap.FunFrames X.base X.outer
 frf:∀b∈X.fs,X.H₀ b=none
 hld:HeldO X.A.handled fun a o=>(X.s₀.heap.get? a=some o∧X.H₀ a=none∧a∉X.fs∧a∉X.ex)∨(a,o)∈X.pn
 ez:X.A.handled≠none→X.nv
structure Inv(X:Cx)(pins:List (Addr×Obj))(σ:List (Option V))(H:Hp)(s:Shared):Prop where
 ok:X.Ok
 os:s.os=X.s₀.os
 bare:AllBare s.gens
 base:Un X.fs X.ex X.H₀ H X.s₀.heap s.heap
 loc:∃m,s.heap.Ns X.env.locals m∧∀(i:Nat) (x:Str) (v:V),X.N[i]?=some x→σ[i]?=some (some v)→Vis X.env.scope x→∃u,RelV v u∧ac0 X.env s.heap m x u
 cell:∀x c,X.env.cells.lookup x=some c→∃v,s.heap.IsCell c v
 free:H X.env.locals=none
 freeC:∀x c,X.env.cells.lookup x=some c→H c=none
 pin:∀p∈X.pn ++ pins,s.heap.get? p.1=some p.2∧H p.1=none∧p.1≠X.env.locals∧p.1∉X.fs∧∀v,p.2.data≠.cell v
 hok:HOk X.prog X.w H s.heap
 len:σ.length=X.N.length
section
variable{X:Cx}{pins:List (Addr×Obj)}{σ:List (Option V)}{H H':Hp}{s:Shared}{h':Heap}
theorem Cx.Ok.nofr(ok:X.Ok){b:Addr}{o:Obj}(e:X.base.get? b=some o):b∉X.fs:=fun hb=>by
 have:=(ok.funs.mem hb).1
 rw[e] at this;cases this
theorem Inv.bs(I:Inv X pins σ H s):∀b o,X.base.get? b=some o→s.heap.get? b=some o∧H b=none:=fun b o e=>
 ⟨I.base.keep b o (I.ok.bs b o e).1 (I.ok.bs b o e).2 (I.ok.nofr e) (I.ok.noex b o e),I.base.free b o (I.ok.bs b o e).1 (I.ok.bs b o e).2 (I.ok.noex b o e)⟩
theorem Inv.bk(I:Inv X pins σ H s):∀b o,X.base.get? b=some o→s.heap.get? b=some o:=fun b o e=>(I.bs b o e).1
theorem Inv.mod(I:Inv X pins σ H s):Mod X.K X.mg X.base:=I.ok.mod
theorem Inv.kIn(I:Inv X pins σ H s):X.K.In s.heap:=I.ok.mod.kin.keeps I.bk
theorem Inv.nolimit(I:Inv X pins σ H s):s.heap.NoLimit:=I.ok.mod.nolimit.keeps I.bk
theorem Inv.fr(I:Inv X pins σ H s):∃m,Fr X.base X.env.locals s.heap m:=
 let ⟨m,hn,_⟩:=I.loc
 ⟨m,hn,I.bk,aBh I.ok.bsz I.ok.above⟩
theorem Inv.lt(I:Inv X pins σ H s):X.env.locals < s.heap.objs.size:=let ⟨_,hn,_⟩:=I.loc;hn.lt
theorem Inv.sz(I:Inv X pins σ H s):X.s₀.heap.objs.size≤s.heap.objs.size:=aBh I.ok.above (aCC I.lt)
theorem Inv.nofs(I:Inv X pins σ H s){a:Addr}(h:s.heap.objs.size≤a):a∉X.fs:=fun hb=>by
 obtain⟨_,o,ho,_⟩:=I.ok.funs.mem hb
 exact absurd (aAC (aAl ho) (aBh I.sz h)) (aAU _)
theorem Inv.cne(I:Inv X pins σ H s):∀x c,X.env.cells.lookup x=some c→c≠X.env.locals:=fun x c e z=>by
 obtain⟨v,o,ho,hd⟩:=I.cell x c e
 obtain⟨m,⟨o',es,ep,ho',hd',_⟩,_⟩:=I.loc
 rw[z,ho'] at ho;cases ho;rw[hd'] at hd;cases hd
theorem Inv.funs(I:Inv X pins σ H s):s.heap.FunFrames X.base X.outer:=by
 have all:∀(l:List Env),(∀b∈OP l,b∈X.fs)→X.s₀.heap.FunFrames X.base l→s.heap.FunFrames X.base l:=by
  intro l
  induction l with
  | nil=>intro _ _;trivial
  | cons env r ih=>
    intro hs hl
    obtain⟨hk,⟨L,o,hf,hn,ho,hd⟩,hr⟩:=hl
    have hL:L∈X.fs:=hs L (by unfold OP;rw[aCU,hf];exact aAp)
    obtain⟨sl,e⟩:=I.base.slot L o ho (I.ok.frf L hL) hL fun z=>I.ok.exfs L z hL
    exact ⟨hk,⟨L,_,hf,hn,e,hd⟩,ih (fun b hb=>hs b (by unfold OP;rw[aCU,hf];exact aAq _ hb)) hr⟩
 exact all X.outer (fun _ hb=>hb) I.ok.funs
theorem Inv.stack(I:Inv X pins σ H s):s.heap.FunFrames X.base X.stack:=by
 rcases I.ok.stk with e | ⟨e,hf⟩
 · rw[e];exact I.funs
 · rw[e]
   obtain⟨m,hn,_⟩:=I.loc
   refine .cons (by rw[I.ok.kind];decide) hf hn ?_ I.funs
   exact Heap.get?_none_of_le (aBh I.ok.bsz I.ok.above)
theorem Inv.stkSub(I:Inv X pins σ H s):∀b∈OP X.stack,b∈X.env.locals :: X.fs:=fun b hb=>by
 rcases I.ok.stk with e | ⟨e,hf⟩
 · rw[e] at hb;exact aAq _ hb
 · rw[e] at hb
   unfold OP at hb
   rw[aCU,hf] at hb
   exact hb
theorem Inv.stkFree(I:Inv X pins σ H s):∀b∈OP X.stack,H b=none:=fun b hb=>by
 rcases aAg.mp (I.stkSub b hb) with e | hb
 · rw[e];exact I.free
 · obtain⟨_,o,ho,_⟩:=I.ok.funs.mem hb
   exact I.base.free b o ho (I.ok.frf b hb) fun z=>I.ok.exfs b z hb
theorem Inv.heldO(I:Inv X pins σ H s):HeldO X.A.handled fun a o=>s.heap.get? a=some o∧H a=none∧a∉OP X.stack:=I.ok.hld.imp fun a o vs _ d g=>by
 rcases g with ⟨g,n,f,x⟩ | g
 · refine ⟨I.base.keep a o g n f x,I.base.free a o g n x,fun m=>?_⟩
   rcases aAg.mp (I.stkSub a m) with e | e
   · have:=aAC (aAl g) I.ok.above
     rw[e] at this;exact aAU _ this
   · exact f e
 · obtain⟨g1,n,l,f,_⟩:=I.pin (a,o) (aAj _ g)
   refine ⟨g1,n,fun m=>?_⟩
   rcases aAg.mp (I.stkSub a m) with e | e
   · exact l e
   · exact f e
theorem Inv.heldAt(I:Inv X pins σ H s):HeldAt X.A.handled s.heap:=I.heldO.imp fun a o _ _ _ g=>g.1
theorem Inv.step{g':Array GenState}{t':Nat}{d':Drawn}{ch:List Addr}(I:Inv X pins σ H s)
 (hch:∀b∈ch,(b∈X.ex∨X.s₀.heap.objs.size≤b)∧b≠X.env.locals∧(∀x c,X.env.cells.lookup x=some c→c≠b)∧∀p∈X.pn ++ pins,p.1≠b)
 (keep:∀b o,b≠X.env.locals→b∉X.fs→b∉ch→s.heap.get? b=some o→H b=none→h'.get? b=some o)
 (slot:∀b o,b≠X.env.locals→b∈X.fs→b∉ch→s.heap.get? b=some o→H b=none→∃sl,h'.get? b=some { o with slots:=sl })(free:∀b o,b∉ch→s.heap.get? b=some o→H b=none→H' b=none)
 (there:∀b o,b∉ch→s.heap.get? b=some o→∃o',h'.get? b=some o')
 (tups:∀b xs,H b=some (.tup xs)→H' b=some (.tup xs))(frzs:∀b o u,H b=some (.frz o u)→H' b=some (.frz o u))(tbls:∀b ps,H b=some (.tbl ps)→∃more,H' b=some (.tbl (ps ++ more)))
 (ns:∀m,s.heap.Ns X.env.locals m→h'.Ns X.env.locals m)(hok:HOk X.prog X.w H' h')(hg:AllBare g') :
 Inv X pins σ H' { s with heap:=h',gens:=g',drawn:=d',toks:=t' }:=by
 have neL:∀b o,X.s₀.heap.get? b=some o→b≠X.env.locals:=fun b o e=>aAB (aAC (aAl e) I.ok.above)
 have neC:∀b o,X.s₀.heap.get? b=some o→b∉X.ex→b∉ch:=fun b o e hx hb=>by
  rcases (hch b hb).1 with z | z
  · exact hx z
  · exact absurd (aAC (aAl e) z) (aAU _)
 have cellK:∀x c,X.env.cells.lookup x=some c→∀v,s.heap.IsCell c v→h'.IsCell c v:=fun x c e v ⟨o,ho,hd⟩=>by
  have nch:c∉ch:=fun z=>(hch c z).2.2.1 x c e rfl
  by_cases hc:c∈X.fs
  · obtain⟨sl,q⟩:=slot c o (I.cne x c e) hc nch ho (I.freeC x c e)
    exact ⟨_,q,hd⟩
  · exact ⟨o,keep c o (I.cne x c e) hc nch ho (I.freeC x c e),hd⟩
 refine ⟨I.ok,I.os,hg,⟨fun b o e n hb hx=>?_,fun b o e n hb hx=>?_,fun b o e n hx=>?_,fun b o e hx=>?_,fun b xs e=>tups b xs (I.base.tups b xs e),fun b o xs e=>frzs b o xs (I.base.frzs b o xs e),fun b ps e=>?_⟩,?_,fun x c e=>?_,?_,fun x c e=>?_,fun p hp=>?_,hok,I.len⟩
 · exact keep b o (neL b o e) hb (neC b o e hx) (I.base.keep b o e n hb hx) (I.base.free b o e n hx)
 · obtain⟨sl,e1⟩:=I.base.slot b o e n hb hx
   obtain⟨sl',e2⟩:=slot b _ (neL b o e) hb (neC b o e hx) e1 (I.base.free b o e n hx)
   exact ⟨sl',e2⟩
 · obtain⟨o',e1⟩:=I.base.there b o e hx
   exact free b o' (neC b o e hx) e1 (I.base.free b o e n hx)
 · obtain⟨o',e1⟩:=I.base.there b o e hx
   exact there b o' (neC b o e hx) e1
 · obtain⟨m1,e1⟩:=I.base.tbls b ps e
   obtain⟨m2,e2⟩:=tbls b _ e1
   exact ⟨m1 ++ m2,by rw[e2,Array.append_assoc]⟩
 · obtain⟨m,hn,hl⟩:=I.loc
   refine ⟨m,ns m hn,fun i x v e1 e2 e3=>?_⟩
   obtain⟨u,r,l⟩:=hl i x v e1 e2 e3
   refine ⟨u,r,?_⟩
   rcases l with l | ⟨k,c,e,z⟩
   · exact .inl l
   · exact .inr ⟨k,c,e,cellK x c e _ z⟩
 · obtain⟨v,z⟩:=I.cell x c e
   exact ⟨v,cellK x c e v z⟩
 · obtain⟨m,⟨o,_,_,ho,_⟩,_⟩:=I.loc
   exact free _ o (fun z=>(hch _ z).2.1 rfl) ho I.free
 · obtain⟨v,o,ho,hd⟩:=I.cell x c e
   exact free c o (fun z=>(hch c z).2.2.1 x c e rfl) ho (I.freeC x c e)
 · obtain⟨e,n,ne,nf,d⟩:=I.pin p hp
   have nch:p.1∉ch:=fun z=>(hch p.1 z).2.2.2 p hp rfl
   exact ⟨keep p.1 p.2 ne nf nch e n,free p.1 p.2 nch e n,ne,nf,d⟩
theorem Inv.un{t':Nat}(I:Inv X pins σ H s)(u:Un X.fs [] H H' s.heap h')(hok:HOk X.prog X.w H' h'):Inv X pins σ H' { s with heap:=h',toks:=t' }:=by
 obtain⟨m,⟨o,es,ep,ho,r⟩,_⟩:=id I.loc
 obtain⟨sl,hL⟩:=u.any ho I.free (by simp)
 exact I.step (g':=s.gens) (d':=s.drawn) (ch:=[]) (fun _ z=>nomatch z) (fun b o _ hb _ e n=>u.keep b o e n hb (by simp)) (fun b o _ hb _ e n=>u.slot b o e n hb (by simp)) (fun b o _ e n=>u.free b o e n (by simp)) (fun b o _ e=>u.there b o e (by simp)) u.tups u.frzs u.tbls (fun m' hm=>by
  obtain⟨o',es',ep',ho',r'⟩:=hm
  rw[ho] at ho';cases ho'
  exact ⟨_,es',ep',hL,r'⟩) hok I.bare
theorem Inv.call{g':Array GenState}{t':Nat}{d':Drawn}{ch:List Addr}(I:Inv X pins σ H s)(u:Un (OP X.stack) ch H H' s.heap h')(hok:HOk X.prog X.w H' h')(hg:AllBare g')
 (hch:∀b∈ch,(b∈X.ex∨X.s₀.heap.objs.size≤b)∧b≠X.env.locals∧(∀x c,X.env.cells.lookup x=some c→c≠b)∧∀p∈X.pn ++ pins,p.1≠b) :
 Inv X pins σ H' { s with heap:=h',gens:=g',drawn:=d',toks:=t' }:=by
 obtain⟨m,⟨o,es,ep,ho,r⟩,_⟩:=id I.loc
 obtain⟨sl,hL⟩:=u.any ho I.free fun z=>(hch _ z).2.1 rfl
 exact I.step (ch:=ch) hch (fun b o hL hb hc e n=>u.keep b o e n (fun z=>(aAg.mp (I.stkSub b z)).elim hL hb) hc) (fun b o _ _ hc e n=>u.any e n hc) (fun b o hc e n=>u.free b o e n hc) (fun b o hc e=>u.there b o e hc) u.tups u.frzs u.tbls (fun m' hm=>by
  obtain⟨o',es',ep',ho',r'⟩:=hm
  rw[ho] at ho';cases ho'
  exact ⟨_,es',ep',hL,r'⟩) hok hg
theorem Inv.turned{t':Nat}{it:Addr}(I:Inv X pins σ H s)(k:∀b o,b≠it→s.heap.get? b=some o→h'.get? b=some o)(hn:H it=none)(hL:it≠X.env.locals)
 (h1:it∈X.ex∨X.s₀.heap.objs.size≤it)(h2:∀x c,X.env.cells.lookup x=some c→c≠it)(h3:∀p∈X.pn ++ pins,p.1≠it):Inv X pins σ H { s with heap:=h',toks:=t' }:=by
 have nit:∀b u,H b=some u→b≠it:=fun b u e z=>by rw[z,hn] at e;cases e
 refine I.step (g':=s.gens) (d':=s.drawn) (ch:=[it]) (fun b hb=>?_) (fun b o _ _ hc e _=>k b o (fun z=>hc (by simp[z])) e) (fun b o _ _ hc e _=>⟨o.slots,k b o (fun z=>hc (by simp[z])) e⟩) (fun _ _ _ _ n=>n)
  (fun b o hc e=>⟨o,k b o (fun z=>hc (by simp[z])) e⟩) (fun _ _ e=>e) (fun _ _ _ e=>e) (fun b ps e=>⟨#[],by rw[e];simp⟩) (fun m hm=>?_) (fun b u e=>?_) I.bare
 · have e:b=it:=by simpa using hb
   subst e
   exact ⟨h1,hL,h2,h3⟩
 · obtain⟨o,es,ep,ho,r⟩:=hm
   exact ⟨o,es,ep,k _ o (aBg hL) ho,r⟩
 · refine (I.hok b u e).stay (fun c v hc q=>k c v ?_ q) (fun _ q=>q) fun _ _ q=>q
   rcases hc with z | z
   · rw[z];exact nit b u e
   · exact nit c _ z
theorem Inv.tok(I:Inv X pins σ H s)(t:Nat):Inv X pins σ H { s with toks:=t }:=I.un (h':=s.heap) (t':=t) Un.refl I.hok
theorem Inv.kept{t':Nat}(I:Inv X pins σ H s)(k:∀b u,s.heap.get? b=some u→h'.get? b=some u):Inv X pins σ H { s with heap:=h',toks:=t' }:=I.un (Un.kept k) (I.hok.kept k)
theorem Inv.laid{a:Addr}{o:HO}{t':Nat}(I:Inv X pins σ H s)(k:∀b u,s.heap.get? b=some u→h'.get? b=some u)(hp:s.heap.objs.size≤a)(new:ObjOk X.prog X.w (Hq H a o) h' a o) :
 Inv X pins σ (Hq H a o) { s with heap:=h',toks:=t' }:=I.un (Un.laid k hp (I.hok.fresh hp)) (I.hok.laid k hp new)
theorem Inv.write{x e:Addr}{o:HO}{t':Nat}(I:Inv X pins σ H s)(mu:Mut (H x))(he:e=x∨H e=some (.own x))(k:∀b u,b≠e→s.heap.get? b=some u→h'.get? b=some u)(heo:∃u,h'.get? e=some u)
 (new:ObjOk X.prog X.w (Hq H x o) h' x o):Inv X pins σ (Hq H x o) { s with heap:=h',toks:=t' }:=I.un (Un.write mu he k heo) (I.hok.write mu he k heo new)
theorem Inv.weak{σ':List (Option V)}(I:Inv X pins σ H s)(hl:σ'.length=σ.length)(w:∀(i:Nat) v,σ'[i]?=some (some v)→σ[i]?=some (some v)):Inv X pins σ' H s:=
 ⟨I.ok,I.os,I.bare,I.base,let ⟨m,hn,hl'⟩:=I.loc;⟨m,hn,fun i x v e1 e2 e3=>hl' i x v e1 (w i v e2) e3⟩,I.cell,I.free,I.freeC,I.pin,I.hok,hl.trans I.len⟩
theorem Inv.pins_of{pins':List (Addr×Obj)}(I:Inv X pins σ H s)(h:∀p∈pins',s.heap.get? p.1=some p.2∧H p.1=none∧p.1≠X.env.locals∧p.1∉X.fs∧∀v,p.2.data≠.cell v):Inv X pins' σ H s:=
 ⟨I.ok,I.os,I.bare,I.base,I.loc,I.cell,I.free,I.freeC,fun p hp=>(aAx.mp hp).elim (fun z=>I.pin p (aAj _ z)) (h p),I.hok,I.len⟩
theorem Tz{N:List Str}(hN:N.Nodup){i j:Nat}{x:Str}(a:N[i]?=some x)(b:N[j]?=some x):i=j:=by
 obtain⟨h1,e1⟩:=aAn.mp a
 obtain⟨h2,e2⟩:=aAn.mp b
 exact (List.getElem_inj hN).mp (e1.trans e2.symm)
theorem Q9{M:Model}{A:Around}{E:Value→Shared→Prop}{i:Nat}{x:Str}{v:V}{u:Value}{Q:Unit→Shared→Prop}(I:Inv X pins σ H s)(hN:X.N.Nodup)(hi:X.N[i]?=some x)(hx:Loc X.env.scope x)(r:RelV v u)
 (h:∀s',Inv X pins (σ.set i (some v)) H s'→(∃a,Heap.SameBut a s.heap s'.heap∧(a=X.env.locals∨X.env.cells.lookup x=some a))→Q () s')(hf:X.fn x=true∨X.env.scope.names.lookup x=some .local:=by first | exact .inl rfl | exact .inr rfl | assumption):wpAny M A (storeName X.env x u) Q E s:=by
 obtain⟨m,hn,hl⟩:=id I.loc
 have hcls:(X.env.scope.kind == .class || (X.env.scope.kind == .module && X.env.locals != X.env.globals))=false:=by rw[I.ok.kind];rfl
 have hiσ:i < σ.length:=by rw[I.len];exact (aAn.mp hi).1
 have cne:=I.cne
 have tracked:∀{a:Addr} {h':Heap},(∃o,s.heap.get? a=some o∧H a=none)→Heap.SameBut a s.heap h'→HOk X.prog X.w H h':=fun {a h'} ha hs b ob e=>by
  obtain⟨_,_,hfree⟩:=ha
  refine (I.hok b ob e).stay (fun c w' hc q=>(hs.2 c ?_).trans q) (fun _ q=>q) fun _ _ q=>q
  rintro rfl
  rcases hc with rfl | hc
  · rw[hfree] at e;cases e
  · rw[hfree] at hc;cases hc
 rcases hx with hk | hk
 · refine wpAny_storeName_local hk hn (fun h' hn' hs=>?_) hcls
   obtain⟨oL,_,_,hoL,_⟩:=id hn
   refine h _ ⟨I.ok,I.os,I.bare,⟨fun b o e n hb hx=>?_,fun b o e n hb hx=>?_,I.base.free,fun b o e hx=>?_,I.base.tups,I.base.frzs,I.base.tbls⟩,⟨_,hn',fun j y v' e1 e2 e3=>?_⟩,fun y c e=>?_,I.free,I.freeC,fun p hp=>?_,tracked ⟨oL,hoL,I.free⟩ hs,by simpa using I.len⟩ ⟨_,hs,.inl rfl⟩
   · exact (hs.2 b (aAB (aAC (aAl e) I.ok.above))).trans (I.base.keep b o e n hb hx)
   · obtain⟨sl,e1⟩:=I.base.slot b o e n hb hx
     exact ⟨sl,(hs.2 b (aAB (aAC (aAl e) I.ok.above))).trans e1⟩
   · obtain⟨o',e1⟩:=I.base.there b o e hx
     exact ⟨o',(hs.2 b (aAB (aAC (aAl e) I.ok.above))).trans e1⟩
   · by_cases hj:j=i
     · subst hj
       rw[hi] at e1;cases e1
       rw[aCD hiσ] at e2
       cases e2
       exact ⟨u,r,.inl ⟨hk,by simp⟩⟩
     · rw[aCi (aBg hj)] at e2
       obtain⟨u',r',q⟩:=hl j y v' e1 e2 e3
       refine ⟨u',r',?_⟩
       rcases q with ⟨k,e⟩ | ⟨k,c,e,z⟩
       · refine .inl ⟨k,?_⟩
         have:y≠x:=fun e=>hj (Tz hN e1 (e ▸ hi))
         simp[this,e]
       · exact .inr ⟨k,c,e,z.sameBut hs (cne y c e)⟩
   · obtain⟨w',z⟩:=I.cell y c e
     exact ⟨w',z.sameBut hs (cne y c e)⟩
   · obtain⟨e,n,ne,nf,d⟩:=I.pin p hp
     exact ⟨(hs.2 p.1 ne).trans e,n,ne,nf,d⟩
 · have hfn:X.fn x=true:=by
    rcases hf with z | z
    · exact z
    · rw[z] at hk;cases hk
   obtain⟨c,hc⟩:=I.ok.has x (.inl hk)
   obtain⟨w',z⟩:=I.cell x c hc
   refine wpAny_storeName_cell I.ok.kind hk hc z (fun h' hc' hs=>?_)
   obtain⟨oc,hoc,hocd⟩:=id z
   refine h { s with heap:=h' } ⟨I.ok,I.os,I.bare,⟨fun b o e n hb hx=>?_,fun b o e n hb hx=>?_,I.base.free,fun b o e hx=>?_,I.base.tups,I.base.frzs,I.base.tbls⟩,⟨m,hn.sameBut hs (aBg (cne x c hc)),fun j y v' e1 e2 e3=>?_⟩,fun y c' e=>?_,I.free,I.freeC,fun p hp=>?_,tracked ⟨oc,hoc,I.freeC x c hc⟩ hs,by simpa using I.len⟩ ⟨c,hs,.inr hc⟩
   · exact (hs.2 b (aAB (aAC (aAl e) (I.ok.cab x c hfn hc)))).trans (I.base.keep b o e n hb hx)
   · obtain⟨sl,e1⟩:=I.base.slot b o e n hb hx
     exact ⟨sl,(hs.2 b (aAB (aAC (aAl e) (I.ok.cab x c hfn hc)))).trans e1⟩
   · obtain⟨o',e1⟩:=I.base.there b o e hx
     exact ⟨o',(hs.2 b (aAB (aAC (aAl e) (I.ok.cab x c hfn hc)))).trans e1⟩
   · by_cases hj:j=i
     · subst hj
       rw[hi] at e1;cases e1
       rw[aCD hiσ] at e2
       cases e2
       exact ⟨u,r,.inr ⟨.inl hk,c,hc,hc'⟩⟩
     · rw[aCi (aBg hj)] at e2
       obtain⟨u',r',q⟩:=hl j y v' e1 e2 e3
       refine ⟨u',r',?_⟩
       rcases q with q | ⟨k,c',e,z'⟩
       · exact .inl q
       · refine .inr ⟨k,c',e,z'.sameBut hs ?_⟩
         rintro rfl
         exact hj (Tz hN e1 (I.ok.inj _ _ _ e hc ▸ hi))
   · by_cases hcc:c'=c
     · subst hcc;exact ⟨_,hc'⟩
     · obtain⟨w2,z2⟩:=I.cell y c' e
       exact ⟨w2,z2.sameBut hs hcc⟩
   · obtain⟨e,n,ne,nf,d⟩:=I.pin p hp
     refine ⟨(hs.2 p.1 ?_).trans e,n,ne,nf,d⟩
     intro q
     rw[q,hoc] at e
     have q':oc=p.2:=aAi e
     exact d w' (by rw[←q'];exact hocd)
theorem SY{M:Model}{A:Around}{E:Value→Shared→Prop}{i:Nat}{x:Str}{v:V}{u:Value}{Q:Unit→Shared→Prop}(I:Inv X pins σ H s)(hN:X.N.Nodup)(hi:X.N[i]?=some x)(hx:Loc X.env.scope x)(r:RelV v u)
 (h:∀s',Inv X pins (σ.set i (some v)) H s'→Q () s')(hf:X.fn x=true∨X.env.scope.names.lookup x=some .local:=by first | exact .inl rfl | exact .inr rfl | assumption):wpAny M A (storeName X.env x u) Q E s:=
 Q9 I hN hi hx r (fun s' I' _=>h s' I') hf
theorem Inv.call' {s':Shared}{ch:List Addr}(I:Inv X pins σ H s)(ho:s'.os=s.os)(u:Un (OP X.stack) ch H H' s.heap s'.heap)(hok:HOk X.prog X.w H' s'.heap)(hg:AllBare s'.gens)
 (hch:∀b∈ch,(b∈X.ex∨X.s₀.heap.objs.size≤b)∧b≠X.env.locals∧(∀x c,X.env.cells.lookup x=some c→c≠b)∧∀p∈X.pn ++ pins,p.1≠b):Inv X pins σ H' s':=by
 obtain⟨h',g',d',t',o'⟩:=s'
 have e:o'=s.os:=ho
 subst e
 exact I.call (g':=g') (t':=t') (d':=d') u hok hg hch
end
abbrev XK:=Value→Option Addr→Hp→Prop
abbrev St:=List (Option V)
abbrev VK:=V→Hp→Prop
abbrev TE:=St→Hp→VK→Prop
abbrev TT:=St→Hp→(Bool→Hp→Prop)→Prop
abbrev TA:=St→Hp→(List V→Hp→Prop)→Prop
structure Ends where
 nx:St→Hp→Prop
 rt:VK
 bk:St→Hp→Prop:=fun _ _=>False
 ct:St→Hp→Prop:=fun _ _=>False
abbrev TS:=Ends→St→Hp→Prop
def EP(X:Cx)(pins:List (Addr×Obj))(σ:St)(Q:VK)(u:Value)(s':Shared):Prop:=∃v H',Inv X pins σ H' s'∧RelV v u∧Q v H'
def TP(X:Cx)(pins:List (Addr×Obj))(σ:St)(Q:Bool→Hp→Prop)(b:Bool)(s':Shared):Prop:=∃H',Inv X pins σ H' s'∧Q b H'
def AP(X:Cx)(pins:List (Addr×Obj))(σ:St)(Q:List V→Hp→Prop)(us:List Value)(s':Shared):Prop:=∃vs H',Inv X pins σ H' s'∧Vals vs us∧Q vs H'
def SP(X:Cx)(pins:List (Addr×Obj))(D:Ends)(f:Flow)(s':Shared):Prop:=
 match f with
 | .next=>∃σ' H',Inv X pins σ' H' s'∧D.nx σ' H'
 | .brk=>∃σ' H',Inv X pins σ' H' s'∧D.bk σ' H'
 | .cont=>∃σ' H',Inv X pins σ' H' s'∧D.ct σ' H'
 | .ret u=>∃v σ' H',Inv X pins σ' H' s'∧RelV v u∧D.rt v H'
def PE(X:Cx)(e:Expr)(t:TE):Prop:=
 ∀(pins:List (Addr×Obj)) (s:Shared) (σ:St) (H:Hp) (Q:VK),Inv X pins σ H s→t σ H Q→wpAny (model X.prog X.w) X.A (eval e X.env) (EP X pins σ Q) X.xe s
def PT(X:Cx)(e:Expr)(t:TT):Prop:=
 ∀(pins:List (Addr×Obj)) (s:Shared) (σ:St) (H:Hp) (Q:Bool→Hp→Prop),Inv X pins σ H s→t σ H Q→wpAny (model X.prog X.w) X.A (isTrue e X.env (eval e X.env)) (TP X pins σ Q) X.xe s
def PW(X:Cx)(e:Expr)(t:TT):Prop:=
 ∀(whole:Sem Value) (pins:List (Addr×Obj)) (s:Shared) (σ:St) (H:Hp) (Q:Bool→Hp→Prop),Inv X pins σ H s→t σ H Q→wpAny (model X.prog X.w) X.A (isTrue e X.env whole) (TP X pins σ Q) X.xe s
theorem PW.pt{X:Cx}{e:Expr}{t:TT}(h:PW X e t):PT X e t:=h _
def PA(X:Cx)(es:List Expr)(t:TA):Prop:=
 ∀(pos:Pos) (pins:List (Addr×Obj)) (s:Shared) (σ:St) (H:Hp) (Q:List V→Hp→Prop),Inv X pins σ H s→t σ H Q→wpAny (model X.prog X.w) X.A (spliced (backTo pos (starEach es X.env))) (AP X pins σ Q) X.xe s
def PS(X:Cx)(st:Stmt)(t:TS):Prop:=
 ∀(pins:List (Addr×Obj)) (s:Shared) (σ:St) (H:Hp) (D:Ends),Inv X pins σ H s→t D σ H→wpAny (model X.prog X.w) X.A (exec st X.env) (SP X pins D) X.xe s
def PSs(X:Cx)(st:List Stmt)(t:TS):Prop:=
 ∀(pins:List (Addr×Obj)) (s:Shared) (σ:St) (H:Hp) (D:Ends),Inv X pins σ H s→t D σ H→wpAny (model X.prog X.w) X.A (execs st X.env) (SP X pins D) X.xe s
theorem Ix{α:Type}{t:Sem α}{Q Q':α→Shared→Prop}{M:Model}{A:Around}{E:Value→Shared→Prop}{s:Shared}(h:wpAny M A t Q E s)(hQ:∀a s,Q a s→Q' a s):wpAny M A t Q' E s:=aA9 h hQ fun _ _ x=>x
end L2
namespace L2
open PySem PySem.Spec PyProof.Rows
section
variable{X:Cx}
def aaJ(i:Nat):TE:=fun σ H Q=>∃v,σ[i]?=some (some v)∧Q v H
def tC(v:V):TE:=fun _ H Q=>Q v H
theorem aaX{i:Nat}{x:Str}{pos:Pos}(hN:X.N[i]?=some x)(hv:Vis X.env.scope x)(hd:(x == ("__debug__" : Str))=false:=by decide)(hcd:(x == ("__classdict__" : Str))=false:=by decide):PE X (.Name x pos) (aaJ i):=by
 intro pins s σ H Q I h
 obtain⟨v,e,h⟩:=h
 obtain⟨m,hn,hl⟩:=I.loc
 obtain⟨u,r,l⟩:=hl i x v hN e hv
 have fin:EP X pins σ Q u s:=⟨v,H,I,r,h⟩
 rcases l with ⟨hk,hm⟩ | ⟨hk,c,hc,hcell⟩
 · exact wpAny_Name (wpAny_loadName_local I.ok.kind hk hn hm fin) hd
 · rcases hk with hk | hk
   · exact wpAny_Name (wpAny_loadName_cell I.ok.kind hk hc hcell fin) hd
   · exact wpAny_Name (wpAny_loadName_free I.ok.kind hk hc hcell fin hcd) hd
theorem G9{i j pos}:PE X (.Constant (.int i) j pos) (tC (.int i)):=fun _ _ _ H _ I h=>wpAny_Constant_int ⟨.int i,H,I.tok _,⟨_,rfl⟩,h⟩
theorem Lr{b j pos}:PE X (.Constant (.bool b) j pos) (tC (.bl b)):=fun _ _ _ H _ I h=>Constant_bool ⟨.bl b,H,I,rfl,h⟩
theorem NP{j pos}:PE X (.Constant .none j pos) (tC .non):=fun _ _ _ H _ I h=>Constant_none ⟨.non,H,I,rfl,h⟩
theorem Hw{x j pos}:PE X (.Constant (.str x) j pos) (tC (.str x)):=fun _ _ _ H _ I h=>Calls.Constant_str ⟨.str x,H,I.tok _,⟨_,rfl⟩,h⟩
def Gl(X:Cx)(x:Str):Prop:=X.env.kindOf x=some .globalImplicit
theorem Kv{E:Value→Shared→Prop}{pins:List (Addr×Obj)}{s:Shared}{σ:St}{H:Hp}{x:Str}{u:Value}{pos:Pos}{Q:Value→Shared→Prop}(I:Inv X pins σ H s)(hg:Gl X x)(hm:X.mg x=some u)(h:Q u s)
 (hd:(x == ("__debug__" : Str))=false:=by decide):wpAny (model X.prog X.w) X.A (eval (.Name x pos) X.env) Q E s:=
 Calls.Name_function_global I.ok.kind hg (Calls.loadGlobal_global (by rw[I.ok.glob];exact I.mod.glob.keeps I.bk) hm h) hd
theorem N7{E:Value→Shared→Prop}{pins:List (Addr×Obj)}{s:Shared}{σ:St}{H:Hp}{x:Str}{u:Value}{pos:Pos}{Q:Value→Shared→Prop}(I:Inv X pins σ H s)(hg:Gl X x)(hm:X.mg x=none)(hv:bootBuiltins x=some u)(h:Q u s)
 (hn:x≠"__name__":=by decide)(hd:(x == ("__debug__" : Str))=false:=by decide):wpAny (model X.prog X.w) X.A (eval (.Name x pos) X.env) Q E s:=by
 obtain⟨mb,h1,h2⟩:=I.mod.blt
 exact Calls.Name_function_global I.ok.kind hg (Calls.loadGlobal_builtin (by rw[I.ok.glob];exact I.mod.glob.keeps I.bk) hm (by rw[I.ok.blt];exact h1.keeps I.bk) ((h2 x hn).trans hv) h) hd
theorem ZB{x:Str}{v:V}{u:Value}{pos:Pos}(hg:Gl X x)(hm:X.mg x=some u)(r:RelV v u)(hd:(x == ("__debug__" : Str))=false:=by decide):PE X (.Name x pos) (tC v):=
 fun _ _ _ H _ I h=>Kv I hg hm ⟨v,H,I,r,h⟩ hd
variable{a b:Expr}{ta tb:TE}{pos:Pos}
def PC(X:Cx)(op:CmpOp)(a b:Expr)(t:TE):Prop:=
 ∀ (pins:List (Addr×Obj)) (s:Shared) (σ:St) (H:Hp) (Q:VK),Inv X pins σ H s→t σ H Q→
   wpAny (model X.prog X.w) X.A (eval a X.env) (fun v s₁=>wpAny (model X.prog X.w) X.A (eval b X.env) (fun u s₂=>wpAny (model X.prog X.w) X.A (compareOp op v u) (EP X pins σ Q) X.xe s₂) X.xe s₁) X.xe s
theorem Yc(b:Expr){op:CmpOp}(h:op≠.In)(h2:op≠.NotIn):behindInMarks op b=false:=by
 have e1:(op == CmpOp.In)=false:=by cases op <;> first | rfl | exact absurd rfl h
 have e2:(op == CmpOp.NotIn)=false:=by cases op <;> first | rfl | exact absurd rfl h2
 cases b <;> simp[behindInMarks,e1,e2]
def tB(t:TE):TT:=fun σ H Q=>t σ H fun x H1=>∃c,x=.bl c∧Q c H1
theorem PN{op:CmpOp}{t:TE}(h:PC X op a b t)(h1:behindInMarks op b=false:=by first | exact Yc _ (by decide) (by decide) | rfl):PT X (.Compare a [op] [b] pos) (tB t):=by
 intro pins s σ H Q I hw
 refine wpAny_isTrue_Compare1 (Ix (h pins s σ H _ I hw) fun v s1 h1=>Ix h1 fun u s2 h2=>Ix h2 fun c s3 ⟨x,H1,I1,r1,q1⟩=>?_) h1
 obtain⟨d,rfl,q⟩:=q1
 cases r1
 exact aBv ⟨H1,I1,q⟩
theorem UN{e:Expr}{t:TE}(h:PE X e t)(he:∀whole,isTrue e X.env whole=(do let v ←whole;standAt e.pos;holding [v] (truthy v)):=by intro _;rfl):PT X e (tB t):=by
 intro pins s σ H Q I hw
 refine isTrue_plain (Ix (h pins s σ H _ I hw) fun v s1 ⟨x,H1,I1,r1,q1⟩=>?_) (he _)
 obtain⟨d,rfl,q⟩:=q1
 cases r1
 exact aBv ⟨H1,I1,q⟩
variable{tA tB':TT}{LU:List Expr}
def tOr(t u:TT):TT:=fun σ H Q=>t σ H fun c H1=>if c=true then Q true H1 else u σ H1 Q
def acz(t:TT):TT:=fun σ H Q=>t σ H fun c H1=>Q (!c) H1
theorem NM(ha:PT X a tA):PW X (.BoolOp .Or [a] pos) tA:=by
 intro wh pins s σ H Q I h
 refine isTrue_or (Ix (ha pins s σ H Q I h) fun c s1 e=>?_)
 cases c with
 | false=>exact isTrue_or_nil e
 | true=>exact e
theorem PJ(ha:PT X a tA)(hb:PW X (.BoolOp .Or (b :: LU) pos) tB'):PW X (.BoolOp .Or (a :: b :: LU) pos) (tOr tA tB'):=by
 intro wh pins s σ H Q I h
 refine isTrue_or (Ix (ha pins s σ H _ I h) fun c s1 ⟨H1,I1,q1⟩=>?_)
 cases c with
 | true=>exact ⟨H1,I1,q1⟩
 | false=>exact hb wh pins s1 σ H1 Q I1 q1
theorem XE(ha:PT X a tA):PT X (.UnaryOp .Not a pos) (acz tA):=by
 intro pins s σ H Q I h
 exact isTrue_not (ha pins s σ H (fun c H1=>Q (!c) H1) I h)
def abO(ta tb:TE):TE:=fun σ H Q=>ta σ H fun x H1=>∃c,x=.bl c∧if c=true then tb σ H1 Q else Q (.bl false) H1
theorem XM{op}{t:TE}(h:PE X a t):PE X (.BoolOp op [a] pos) t:=fun pins s σ H Q I hw=>BoolOp_one (h pins s σ H Q I hw)
theorem XV(ha:PE X a ta)(hb:PE X (.BoolOp .And (b :: LU) pos) tb):PE X (.BoolOp .And (a :: b :: LU) pos) (abO ta tb):=by
 intro pins s σ H Q I h
 refine BoolOp_and (Ix (ha pins s σ H _ I h) fun v s1 ⟨x,H1,I1,r1,q1⟩=>?_)
 obtain⟨c,rfl,q1⟩:=q1
 cases r1
 refine aBv ?_
 cases c with
 | true=>exact hb pins s1 σ H1 Q I1 q1
 | false=>exact ⟨.bl false,H1,I1,rfl,q1⟩
end
end L2
namespace L2
open PySem PySem.Spec PyProof.Rows
def SqL(K:W.Frag)(H:Hp)(a:Addr)(xs:List V):Prop:=
 Rd H a (.lst xs)∨
  ∃(o:Obj) (its:Array Value) (n:Nat),K.lookup a=some o∧o.cls=.type "list"∧o.dict=none∧o.data=.seq its n∧its.size≤sizeLine∧Vals xs its.toList
def SqT(K:W.Frag)(H:Hp)(a:Addr)(xs:List V):Prop:=
 Rd H a (.tup xs)∨
  ∃(o:Obj) (its:Array Value) (n:Nat),K.lookup a=some o∧o.cls=.type "tuple"∧o.data=.seq its n∧its.size≤sizeLine∧Vals xs its.toList
def acg:Value→Option V
 | .none=>some .non
 | .bool b=>some (.bl b)
 | .int i _=>some (.int i)
 | .str x _=>some (.str x)
 | .bytes b _=>some (.byt b)
 | .float b _=>some (.flt b)
 | .ref a=>some (.ref a)
 | .type n=>some (.ty n)
 | _=>none
theorem RelV.abs{x:V}{u:Value}(r:RelV x u):acg u=some x:=by
 cases x with
 | non=>cases r;rfl
 | bl _=>cases r;rfl
 | int _=>obtain⟨t,rfl⟩:=r;rfl
 | str _=>obtain⟨t,rfl⟩:=r;rfl
 | byt _=>obtain⟨t,rfl⟩:=r;rfl
 | flt _=>obtain⟨t,rfl⟩:=r;rfl
 | ref _=>cases r;rfl
 | ty _=>cases r;rfl
theorem RelV.inj{x y:V}{u:Value}(r:RelV x u)(q:RelV y u):x=y:=aAi (r.abs.symm.trans q.abs)
theorem Vals.inj:∀{xs ys:List V} {us:List Value},Vals xs us→Vals ys us→xs=ys
 | _,_,_,.nil,.nil=>rfl
 | _,_,_,.cons r t,.cons r' t'=>by rw[r.inj r',Vals.inj t t']
section
variable{X:Cx}{pins:List (Addr×Obj)}{σ:St}{H:Hp}{s:Shared}{a:Addr}{xs ys:List V}
theorem SqL.of{K:W.Frag}(h:H a=some (.lst xs)):SqL K H a xs:=.inl (.inl h)
theorem SqT.of{K:W.Frag}(h:H a=some (.tup xs)):SqT K H a xs:=.inl (.inl h)
theorem Inv.list(I:Inv X pins σ H s)(h:SqL X.K H a xs):∃its:List Value,Vals xs its∧PlainL s.heap a its.toArray∧xs.length≤sizeLine:=by
 rcases h with h | ⟨o,its,n,hk,hc,hd,hs,hz,r⟩
 · obtain⟨z,its,n,r,e⟩:=h.ok I.hok
   exact ⟨its,r,⟨_,n,e,rfl,rfl,rfl⟩,z⟩
 · refine ⟨its.toList,r,⟨o,n,I.kIn a o hk,hc,hd,by simpa using hs⟩,?_⟩
   have e:=r.length
   simp only[aBe] at e
   omega
theorem Inv.tuple(I:Inv X pins σ H s)(h:SqT X.K H a xs):∃its:List Value,Vals xs its∧IsTup s.heap a its.toArray∧xs.length≤sizeLine:=by
 rcases h with h | ⟨o,its,n,hk,hc,hs,hz,r⟩
 · obtain⟨z,its,r,p⟩:=h.ok I.hok
   exact ⟨its,r,p,z⟩
 · refine ⟨its.toList,r,⟨o,I.kIn a o hk,hc,n,by simpa using hs⟩,?_⟩
   have e:=r.length
   simp only[aBe] at e
   omega
theorem Inv.list_inj(I:Inv X pins σ H s)(h:SqL X.K H a xs)(h':SqL X.K H a ys):xs=ys:=by
 obtain⟨its,r,⟨o,n,e,_,_,d⟩,_⟩:=I.list h
 obtain⟨its',r',⟨o',n',e',_,_,d'⟩,_⟩:=I.list h'
 rw[e] at e';cases e'
 rw[d] at d'
 injection d' with d1 _
 have:its=its':=by simpa using aA2 Array.toList d1
 subst this
 exact r.inj r'
end
abbrev Cx.wish(X:Cx)(E:Value→Shared→Prop):Cx:={ X with xe:=E }
abbrev Cx.nox(X:Cx):Cx:=X.wish fun _ _=>False
theorem Cx.Ok.wish{X:Cx}(ok:X.Ok)(E:Value→Shared→Prop):(X.wish E).Ok:=
 ⟨ok.mod,ok.kind,ok.glob,ok.blt,ok.above,ok.inj,ok.has,ok.cab,ok.hd,ok.frames,ok.stk,ok.exf,ok.bs,ok.bsz,ok.noex,ok.exfs,ok.funs,ok.frf,ok.hld,ok.ez⟩
theorem Cx.Ok.unwish{X:Cx}{E:Value→Shared→Prop}(ok:(X.wish E).Ok):X.Ok:=
 ⟨ok.mod,ok.kind,ok.glob,ok.blt,ok.above,ok.inj,ok.has,ok.cab,ok.hd,ok.frames,ok.stk,ok.exf,ok.bs,ok.bsz,ok.noex,ok.exfs,ok.funs,ok.frf,ok.hld,ok.ez⟩
section
variable{X:Cx}{pins:List (Addr×Obj)}{σ:St}{H:Hp}{s:Shared}{E:Value→Shared→Prop}
theorem Inv.wish(I:Inv X pins σ H s)(E:Value→Shared→Prop):Inv (X.wish E) pins σ H s:=⟨I.ok.wish E,I.os,I.bare,I.base,I.loc,I.cell,I.free,I.freeC,I.pin,I.hok,I.len⟩
theorem Inv.unwish(I:Inv (X.wish E) pins σ H s):Inv X pins σ H s:=⟨I.ok.unwish,I.os,I.bare,I.base,I.loc,I.cell,I.free,I.freeC,I.pin,I.hok,I.len⟩
theorem SP.unwish{D:Ends}{f:Flow}{s':Shared}(h:SP (X.wish E) pins D f s'):SP X pins D f s':=by
 cases f with
 | next=>obtain⟨σ',H',I,q⟩:=h;exact ⟨σ',H',I.unwish,q⟩
 | brk=>obtain⟨σ',H',I,q⟩:=h;exact ⟨σ',H',I.unwish,q⟩
 | cont=>obtain⟨σ',H',I,q⟩:=h;exact ⟨σ',H',I.unwish,q⟩
 | ret u=>obtain⟨v,σ',H',I,r,q⟩:=h;exact ⟨v,σ',H',I.unwish,r,q⟩
theorem PE.nox{e:Expr}{t:TE}(h:PE X.nox e t):PE X e t:=fun pins s σ H Q I hw=>
 aA9 (h pins s σ H Q (I.wish _) hw) (fun _ _ ⟨v,H',I',r,q⟩=>⟨v,H',I'.unwish,r,q⟩) fun _ _ z=>False.elim z
theorem PT.nox{e:Expr}{t:TT}(h:PT X.nox e t):PT X e t:=fun pins s σ H Q I hw=>
 aA9 (h pins s σ H Q (I.wish _) hw) (fun _ _ ⟨H',I',q⟩=>⟨H',I'.unwish,q⟩) fun _ _ z=>False.elim z
theorem PSs.nox{st:List Stmt}{t:TS}(h:PSs X.nox st t):PSs X st t:=fun pins s σ H D I hw=>
 aA9 (h pins s σ H D (I.wish _) hw) (fun _ _ q=>q.unwish) fun _ _ z=>False.elim z
end
section
variable{X:Cx}{st:Stmt}{LU:List Stmt}{t u:TS}{e:Expr}{te:TE}{pos:Pos}
def abG:TS:=fun D σ H=>D.nx σ H
def abE(t u:TS):TS:=fun D σ H=>t { D with nx:=u D } σ H
theorem HP:PSs X [] abG:=fun _ _ σ H _ I h=>aCt ⟨σ,H,I,h⟩
theorem GX(h1:PS X st t)(h2:PSs X LU u):PSs X (st :: LU) (abE t u):=by
 intro pins s σ H D I h
 refine aDd (Ix (h1 pins s σ H { D with nx:=u D } I h) fun f s1 q=>?_)
 cases f with
 | next=>
   obtain⟨σ',H',I',q⟩:=q
   exact h2 pins s1 σ' H' D I' q
 | ret v=>exact q
 | brk=>exact q
 | cont=>exact q
theorem G4(h1:PS X st t):PSs X [st] t:=by
 intro pins s σ H D I h
 refine aDd (Ix (h1 pins s σ H D I h) fun f s1 q=>?_)
 cases f with
 | next=>exact aCt q
 | ret v=>exact q
 | brk=>exact q
 | cont=>exact q
def aaP:TS:=fun D σ H=>D.bk σ H
theorem XH:PS X (.Break pos) aaP:=fun _ _ σ H _ I h=>wpAny_Break ⟨σ,H,I,h⟩
theorem Inv.quiet{pins:List (Addr×Obj)}{σ:St}{H:Hp}{s:Shared}(I:Inv X pins σ H s):interactive X.env=false:=by simp[interactive,I.ok.kind]
def abJ(te:TE):TS:=fun D σ H=>te σ H fun _ H1=>D.nx σ H1
theorem Hr(he:PE X e te)(hs:swapsWith e none pos.line X.env=pure false:=by rfl):PS X (.Expr e pos) (abJ te):=by
 intro pins s σ H D I h
 exact wpAny_Expr_any (Ix (he pins s σ H _ I h) fun v s1 ⟨x,H1,I1,r1,q1⟩=>⟨σ,H1,I1,q1⟩) I.quiet hs
def acy(te:TE):TS:=fun D σ H=>te σ H D.rt
theorem Hh(he:PE X e te):PS X (.Return (some e) pos) (acy te):=by
 intro pins s σ H D I h
 exact wpAny_Return_some (Ix (he pins s σ H _ I h) fun v s1 ⟨x,H1,I1,r1,q1⟩=>⟨x,σ,H1,I1,r1,q1⟩)
def acA(c:TT)(t u:TS):TS:=fun D σ H=>c σ H fun b H1=>if b=true then t D σ H1 else u D σ H1
theorem IA{c:Expr}{a b:List Stmt}{tc:TT}(hc:PT X c tc)(ha:PSs X a t)(hb:PSs X b u):PS X (.If c a b pos) (acA tc t u):=by
 intro pins s σ H D I h
 refine wpAny_If (Ix (hc pins s σ H _ I h) fun d s1 ⟨H1,I1,q1⟩=>?_)
 cases d with
 | true=>exact ha pins s1 σ H1 D I1 q1
 | false=>exact hb pins s1 σ H1 D I1 q1
end
abbrev TG:=V→St→Hp→(St→Hp→Prop)→Prop
abbrev TGs:=List V→St→Hp→(St→Hp→Prop)→Prop
def PG(X:Cx)(target:Expr)(t:TG):Prop:=
 ∀ (pins:List (Addr×Obj)) (s:Shared) (σ:St) (H:Hp) (v:V) (u:Value) (Q:St→Hp→Prop),Inv X pins σ H s→RelV v u→t v σ H Q→
   wpAny (model X.prog X.w) X.A (assign target X.env u) (fun _ s'=>∃σ' H',Inv X pins σ' H' s'∧Q σ' H') X.xe s
def PGs(X:Cx)(ts:List Expr)(t:TGs):Prop:=
 ∀ (pins:List (Addr×Obj)) (s:Shared) (σ:St) (H:Hp) (vs:List V) (us:List Value) (Q:St→Hp→Prop),Inv X pins σ H s→Vals vs us→t vs σ H Q→
   wpAny (model X.prog X.w) X.A (assignInOrder ((assignEach ts X.env).map (·.2)) us) (fun _ s'=>∃σ' H',Inv X pins σ' H' s'∧Q σ' H') X.xe s
section
variable{X:Cx}{pos:Pos}
def Qj(i:Nat):TG:=fun v σ H Q=>Q (σ.set i (some v)) H
theorem Hn{i:Nat}{x:Str}(hN:X.N.Nodup)(hi:X.N[i]?=some x)(hx:Loc X.env.scope x)(hf:X.fn x=true∨X.env.scope.names.lookup x=some .local:=by first | exact .inl rfl | exact .inr rfl | assumption):PG X (.Name x pos) (Qj i):=by
 intro pins s σ H v u Q I r h
 exact wpAny_assign_Name (SY I hN hi hx r (fun s' I'=>⟨_,H,I',h⟩) hf)
def acV:TGs:=fun vs σ H Q=>vs=[]∧Q σ H
def ab8(t:TG)(u:TGs):TGs:=fun vs σ H Q=>∃v r,vs=v :: r∧t v σ H fun σ' H'=>u r σ' H' Q
theorem O3:PGs X [] acV:=by
 intro pins s σ H vs us Q I r h
 obtain⟨e,h⟩:=h
 subst e
 cases r
 exact assignInOrder_nil ⟨σ,H,I,h⟩
theorem HG{e:Expr}{es:List Expr}{t:TG}{u:TGs}(h1:PG X e t)(h2:PGs X es u)
 (hs:(assignEach (e :: es) X.env).map (·.2)=assign e X.env :: (assignEach es X.env).map (·.2):=by rfl):PGs X (e :: es) (ab8 t u):=by
 intro pins s σ H vs us Q I r h
 obtain⟨v,vr,e1,h⟩:=h
 subst e1
 cases r with
 | cons r rr=>
   rw[hs]
   refine assignInOrder_cons (Ix (h1 pins s σ H _ _ _ I r h) fun _ s1 ⟨σ1,H1,I1,q1⟩=>?_)
   exact h2 pins s1 σ1 H1 _ _ Q I1 rr q1
def ab7(K:W.Frag)(n:Nat)(t:TGs):TG:=fun v σ H Q=>∃a xs,v=.ref a∧SqT K H a xs∧xs.length=n∧t xs σ H Q
theorem aaW{es:List Expr}{k:Nat}{t:TGs}{n:Nat}(hc:X.prog=X.prog)(h:PGs X es t)
 (hn:(assignEach es X.env).length=n:=by rfl)(hst:(assignEach es X.env).findIdx? (·.1)=none:=by rfl):PG X (.Tuple es k pos) (ab7 X.K n t):=by
 intro pins s σ H v u Q I r hw
 obtain⟨a,xs,e1,hq,hl,hw⟩:=hw
 subst e1
 cases r
 obtain⟨its,rv,ht,hz⟩:=I.tuple hq
 refine SQ I.heldAt ht (by simp[hn,←hl,rv.length]) hst fun h' hx=>?_
 have I1:Inv X pins σ H { s with heap:=h' }:=I.kept (t':=s.toks) fun b o e=>hx b o (aAB (aAl e)) e
 exact h pins _ σ H xs _ Q I1 (by simpa using rv) hw
def Ze(te:TE)(g:TG):TS:=fun D σ H=>te σ H fun x H1=>g x σ H1 D.nx
theorem UO{tg e:Expr}{te:TE}{g:TG}(he:PE X e te)(hg:PG X tg g)(hs:swapsWithSole [tg] e pos.line X.env=pure false:=by rfl)(hw:swappedStores [tg] e X.env=pure none:=by rfl)
 (h1:(assignEach [tg] X.env).map (·.2)=[assign tg X.env]:=by rfl):PS X (.Assign [tg] e pos) (Ze te g):=by
 intro pins s σ H D I h
 refine wpAny_Assign_stores (Ix (he pins s σ H _ I h) fun v s1 ⟨x,H1,I1,r1,q1⟩=>?_) hs hw
 rw[h1]
 exact Ix (hg pins s1 σ H1 x v _ I1 r1 q1) fun _ s2 q=>q
theorem Hs{i:Nat}{x:Str}{e:Expr}{te:TE}{pos':Pos}(hN:X.N.Nodup)(hi:X.N[i]?=some x)(hx:Loc X.env.scope x)(he:PE X e te)(hs:swapsWith e (some (.Name x pos')) pos.line X.env=pure false:=by rfl)(hf:X.fn x=true∨X.env.scope.names.lookup x=some .local:=by first | exact .inl rfl | exact .inr rfl | assumption) :
 PS X (.Assign [.Name x pos'] e pos) (Ze te (Qj i)):=by
 intro pins s σ H D I h
 refine wpAny_Assign_Name (Ix (he pins s σ H _ I h) fun v s1 ⟨y,H1,I1,r1,q1⟩=>?_) hs
 exact SY I1 hN hi hx r1 (fun s2 I2=>⟨_,H1,I2,q1⟩) hf
end
section
variable{X:Cx}{pos:Pos}
def aaI(c:TT)(tb:TS):TS:=fun D σ H=>∃W:Nat→St→Hp→Prop,(∃m,W m σ H)∧∀m σ H,W m σ H→
 c σ H fun b H1=>if b=true then ∃N:St→Hp→Prop,(∀σ' H',N σ' H'→∃m',m' < m∧W m' σ' H')∧tb { D with nx:=N,ct:=N,bk:=D.nx } σ H1 else D.nx σ H1
theorem XG{c:Expr}{body:List Stmt}{tc:TT}{tb:TS}(hp:PassesOwn (model X.prog X.w) X.A X.env X.xe)(hc:PT X c tc)(hb:PSs X body tb):PS X (.While c body [] pos) (aaI tc tb):=by
 intro pins s σ H D I h
 obtain⟨W,⟨m0,w0⟩,turn⟩:=h
 refine wpAny_While (codeAny_whileLoop (fun n s'=>∃σ' H',Inv X pins σ' H' s'∧W n σ' H') ?_ m0 ⟨σ,H,I,w0⟩)
 rintro n s1 ⟨σ1,H1,I1,w1⟩
 refine aBR hp (Ix (hc pins s1 σ1 H1 _ I1 (turn n σ1 H1 w1)) fun b s2 ⟨H2,I2,q2⟩=>?_)
 cases b with
 | true=>
   obtain⟨N,hN,q2⟩:=q2
   rw[aAE rfl]
   refine aBR hp (Ix (hb pins s2 σ1 H2 _ I2 q2) fun f s3 q3=>?_)
   cases f with
   | next=>
     obtain⟨σ3,H3,I3,n3⟩:=q3
     obtain⟨m',hm,w3⟩:=hN σ3 H3 n3
     exact ⟨m',hm,σ3,H3,I3,w3⟩
   | cont=>
     obtain⟨σ3,H3,I3,n3⟩:=q3
     obtain⟨m',hm,w3⟩:=hN σ3 H3 n3
     exact ⟨m',hm,σ3,H3,I3,w3⟩
   | brk=>exact q3
   | ret v=>exact q3
 | false=>
   rw[aAz aAK]
   exact aCt ⟨σ1,H2,I2,q2⟩
end
structure It where
 go:Nat→Hp→Prop
 yld:Nat→Hp→V→Hp→Prop
 stop:Nat→Hp→Prop
def J0(X:Cx)(pins:List (Addr×Obj))(H:Hp)(b:Addr):Prop:=
 H b=none∧b≠X.env.locals∧b∉X.fs∧(b∈X.ex∨X.s₀.heap.objs.size≤b)∧(∀x c,X.env.cells.lookup x=some c→c≠b)∧∀p∈X.pn ++ pins,p.1≠b
theorem Inv.fpOk{X:Cx}{pins:List (Addr×Obj)}{σ:St}{H H':Hp}{s:Shared}{b:Addr}(I:Inv X pins σ H s)(hb:s.heap.objs.size≤b)(hn:H' b=none):J0 X pins H' b:=by
 refine ⟨hn,aBu (aAC I.lt hb),I.nofs hb,.inr (aBh I.sz hb),fun x c e z=>?_,fun p hp z=>?_⟩
 · obtain⟨v,q⟩:=I.cell x c e
   exact absurd (aAC q.lt (by rw[z];exact hb)) (aAU _)
 · exact absurd (aAC (aAl (I.pin p hp).1) (by rw[z];exact hb)) (aAU _)
structure Turn(P:Program)(w:World)(K:W.Frag)(tg:Expr)(J:It)(fp:List Addr)(it:Addr)(tn:Nat→Heap→Prop):Prop where
 mem:it∈fp
 obj:∀i h,tn i h→∀b∈fp,∃o,h.get? b=some o∧∀v,o.data≠.cell v
 keep:∀i h h',tn i h→(∀b∈fp,∀o,h.get? b=some o→h'.get? b=some o)→tn i h'
 item:∀(X:Cx),X.prog=P→X.w=w→X.K=K→X.prog=X.prog→∀(i:Nat) (pins:List (Addr×Obj)) (s:Shared) (σ:St) (H:Hp) (E:Value→Shared→Prop),Inv X pins σ H s→(∀b∈fp,J0 X pins H b)→tn i s.heap→J.go i H→
  wpAny (model P w) X.A (pyNext (.ref it)) (fun r s1=>∃u,r=some u∧
   wpAny (model P w) X.A (letOwnedTupleGo tg (.ref it) u) (fun _ s2=>∃x H',Inv X pins σ H' s2∧RelV x u∧J.yld i H x H'∧tn (i + 1) s2.heap∧∀b∈fp,H' b=none) E s1) E s
 done:∀(X:Cx),X.prog=P→X.w=w→X.K=K→X.prog=X.prog→∀(i:Nat) (pins:List (Addr×Obj)) (s:Shared) (σ:St) (H:Hp) (E:Value→Shared→Prop),Inv X pins σ H s→(∀b∈fp,J0 X pins H b)→tn i s.heap→J.stop i H→
  wpAny (model P w) X.A (pyNext (.ref it)) (fun r s1=>r=none∧Inv X pins σ H s1) E s
 self:∀(A:Around) (i:Nat) (s:Shared) (Q:Value→Shared→Prop) (E:Value→Shared→Prop),tn i s.heap→Q (.ref it) s→wpAny (model P w) A (pyIter (.ref it)) Q E s
abbrev TI:=St→Hp→(It→Hp→Prop)→Prop
def PIE(X:Cx)(pins:List (Addr×Obj))(σ:St)(tg:Expr)(R:It→Hp→Prop)(itv:Value)(s2:Shared):Prop:=
 ∃(it:Addr) (fp:List Addr) (tn:Nat→Heap→Prop) (J:It) (H':Hp),itv=.ref it∧Inv X pins σ H' s2∧Turn X.prog X.w X.K tg J fp it tn∧tn 0 s2.heap∧(∀b∈fp,J0 X pins H' b)∧R J H'
def PI(X:Cx)(tg iter:Expr)(wi:TI):Prop:=
 ∀ (pins:List (Addr×Obj)) (s:Shared) (σ:St) (H:Hp) (R:It→Hp→Prop),Inv X pins σ H s→wi σ H R→
   wpAny (model X.prog X.w) X.A (eval iter X.env) (fun v s1=>wpAny (model X.prog X.w) X.A (pyIter v) (PIE X pins σ tg R) X.xe s1) X.xe s
theorem V5{M:Model}{A:Around}{E:Value→Shared→Prop}{s:Shared}{tg:Expr}{it:Addr}{u:Value}{o:Obj}{n:String}{vs:Array Value}{Q:Unit→Shared→Prop}(ho:s.heap.get? it=some o)(hc:o.cls=.type n)(hd:o.data=.fields vs)
 (hn:["enumerate","zip","dict_itemiterator","dict_reverseitemiterator","odict_iterator","itertools.zip_longest","itertools.pairwise"].contains n=false)(hQ:Q () s):wpAny M A (letOwnedTupleGo tg (.ref it) u) Q E s:=by
 unfold letOwnedTupleGo
 cases tg <;> first
  | exact aAm hQ
  | (cases u <;> first
   | exact aAm hQ
   | (refine aAb (aDu ho ?_)
      rw[hc,hd]
      show wpAny M A (if (["enumerate","zip","dict_itemiterator","dict_reverseitemiterator","odict_iterator","itertools.zip_longest","itertools.pairwise"].contains n && vs[0]? == some (rawInt _))=true then _ else _) Q E s
      rw[aAz (by intro h;rw[hn,Bool.false_and] at h;cases h)]
      exact aAm hQ))
def Itl(K:W.Frag)(a:Addr):It:=
 ⟨fun i H=>∃xs x,SqL K H a xs∧xs[i]?=some x,fun i H x H'=>H'=H∧∀xs,SqL K H a xs→xs[i]?=some x,fun i H=>∃xs,SqL K H a xs∧xs.length≤i⟩
def Itr(lo:Int)(n:Nat):It:=⟨fun i _=>i < n,fun i H x H'=>H'=H∧x=.int (lo + i),fun i _=>n≤i⟩
theorem Wf{P:Program}{w:World}{K:W.Frag}{tg:Expr}(a it:Addr):Turn P w K tg (Itl K a) [it] it (fun i h=>h.IsListIter it a i) where
 mem:=by simp
 obj:=fun i h st b hb=>by
  have e:b=it:=by simpa using hb
  subst e
  obtain⟨o,e,c,d⟩:=st
  exact ⟨o,e,fun v z=>by rw[d] at z;cases z⟩
 keep:=fun i h h' st k=>st.at fun o e=>k it (by simp) o e
 item:=by
  intro X hP hw hK hc i pins s σ H E I hf st hg
  subst hP hw hK
  obtain⟨xs,x,hq,hx⟩:=hg
  obtain⟨its,rv,p,hz⟩:=I.list hq
  obtain⟨u,hu,ru⟩:=rv.get hx
  obtain⟨f0,f1,f2,f3,f4,f5⟩:=hf it (by simp)
  refine wpAny_pyNext_list_item st p.isList (x:=u) (by simpa using hu) fun h' st' sb=>?_
  have I1:Inv X pins σ H { s with heap:=h' }:=I.turned (t':=s.toks) (fun b o hb e=>(sb.2 b hb).trans e) f0 f1 f3 f4 f5
  obtain⟨o,e,c,d⟩:=id st'
  exact ⟨u,rfl,V5 (s:={ s with heap:=h' }) e c d (by decide) ⟨x,H,I1,ru,⟨rfl,fun ys hy=>by rw[I.list_inj hy hq];exact hx⟩,st',fun b hb=>(hf b hb).1⟩⟩
 done:=by
  intro X hP hw hK hc i pins s σ H E I hf st hg
  subst hP hw hK
  obtain⟨xs,hq,hx⟩:=hg
  obtain⟨its,rv,p,hz⟩:=I.list hq
  obtain⟨f0,f1,f2,f3,f4,f5⟩:=hf it (by simp)
  have hl:=rv.length
  exact Rp I.heldAt st p.isList (by simp;omega) fun h' eb=>⟨rfl,I.turned (t':=s.toks) (fun b o hb e=>eb b o hb e) f0 f1 f3 f4 f5⟩
 self:=fun _ _ _ _ _ st h=>wpAny_pyIter_listiter st h
theorem Uu{P:Program}{w:World}{K:W.Frag}{tg:Expr}(it:Addr)(lo:Int)(n:Nat):Turn P w K tg (Itr lo n) [it] it (fun i h=>IsRangeIter h it (lo + (i:Nat) * 1) ((n:Int) - (i:Nat)) 1) where
 mem:=by simp
 obj:=fun i h st b hb=>by
  have e:b=it:=by simpa using hb
  subst e
  exact ⟨_,st,fun v z=>by
   have z':Data.fields _=Data.cell v:=z
   cases z'⟩
 keep:=fun i h h' st k=>k it (by simp) _ st
 item:=by
  intro X hP hw hK hc i pins s σ H E I hf st hg
  subst hP hw hK
  obtain⟨f0,f1,f2,f3,f4,f5⟩:=hf it (by simp)
  refine UL (prog:=X.prog) (w:=X.w) lo 1 n hg st fun v h' tk hv st' kk=>?_
  obtain⟨t,rfl⟩:=hv
  have I1:Inv X pins σ H { s with heap:=h',toks:=tk }:=I.turned (fun b o hb e=>kk b o (by simpa using hb) e) f0 f1 f3 f4 f5
  refine ⟨_,rfl,V5 (s:={ s with heap:=h',toks:=tk }) (n:="range_iterator") st' rfl rfl (by decide) ⟨.int (lo + i),H,I1,⟨t,?_⟩,⟨rfl,rfl⟩,st',fun b hb=>(hf b hb).1⟩⟩
  rw[Int.mul_one]
 done:=by
  intro X hP hw hK hc i pins s σ H E I hf st hg
  subst hP hw hK
  obtain⟨f0,f1,f2,f3,f4,f5⟩:=hf it (by simp)
  exact UK I.heldAt st (by have:n≤i:=hg;omega) fun h' eb=>⟨rfl,I.turned (t':=s.toks) (fun b o hb e=>eb b o hb e) f0 f1 f3 f4 f5⟩
 self:=fun _ _ _ _ _ st h=>wpAny_pyIter_rangeiter st h
end L2
namespace L2
open PySem PySem.Spec PyProof.Rows
section
variable{X:Cx}{tg:Expr}
def YB(K:W.Frag)(tl:TE):TI:=fun σ H R=>tl σ H fun x H1=>∃a,x=.ref a∧(∃xs,SqL K H1 a xs)∧R (Itl K a) H1
theorem Zy{l:Expr}{tl:TE}(hl:PE X l tl):PI X tg l (YB X.K tl):=by
 intro pins s σ H R I h
 refine Ix (hl pins s σ H _ I h) fun v s1 ⟨x,H1,I1,r1,q1⟩=>?_
 obtain⟨a,e,⟨xs,hq⟩,q⟩:=q1
 subst e
 cases r1
 obtain⟨its,rv,p,hz⟩:=I1.list hq
 refine wpAny_pyIter_list p.isList ?_
 refine ⟨s1.heap.objs.size,[s1.heap.objs.size],_,_,H1,rfl,I1.kept (t':=s1.toks) fun b o e=>aAe _ e,Wf a _,⟨_,aAo _ rfl,rfl,rfl⟩,fun b hb=>?_,q⟩
 have e:b=s1.heap.objs.size:=by simpa using hb
 subst e
 exact I1.fpOk (aAh _) (I1.hok.fresh (aAh _))
theorem Tj{pins:List (Addr×Obj)}{σ:St}{H:Hp}{s:Shared}{R:It→Hp→Prop}{E:Value→Shared→Prop}{lo hi:Int}{t u v:Tok}{tk:Nat}(I:Inv X pins σ H s)(h1 : -(2 ^ 62)≤lo)(h2:lo < 2 ^ 62)(h3 : -(2 ^ 62)≤hi)(h4:hi < 2 ^ 62)
 (q:R (Itr lo (hi - lo).toNat) H):wpAny (model X.prog X.w) X.A (pyIter (.ref s.heap.objs.size)) (PIE X pins σ tg R) E { s with heap:=s.heap.push { cls:=.type "range",data:=.fields #[.int lo t,.int hi u,.int 1 v] },toks:=tk }:=by
 refine wpAny_pyIter_range (IsRange.new ..) (small_one h1 h2 h3 h4) ?_
 have I1:Inv X pins σ H { s with heap:=s.heap.push { cls:=.type "range",data:=.fields #[.int lo t,.int hi u,.int 1 v] },toks:=tk }:=I.kept fun b o e=>aAe _ e
 refine ⟨(s.heap.push { cls:=.type "range",data:=.fields #[.int lo t,.int hi u,.int 1 v] }).objs.size,[(s.heap.push { cls:=.type "range",data:=.fields #[.int lo t,.int hi u,.int 1 v] }).objs.size],_,_,H,rfl,
  I1.kept (t':=tk) fun b o e=>aAe _ e,Uu _ lo (hi - lo).toNat,?_,fun b hb=>?_,q⟩
 · have e1:lo + ((0:Nat):Int) * 1=lo:=by simp
   have e2:(((hi - lo).toNat:Nat):Int) - ((0:Nat):Int)=Builtin.Range.rangeSize lo hi 1:=by rw[rangeSize_one];split <;> omega
   show IsRangeIter _ _ (lo + ((0:Nat):Int) * 1) ((((hi - lo).toNat:Nat):Int) - ((0:Nat):Int)) 1
   rw[e1,e2]
   exact aAo _ rfl
 · have e:b=(s.heap.push { cls:=.type "range",data:=.fields #[.int lo t,.int hi u,.int 1 v] }).objs.size:=by simpa using hb
   subst e
   exact I1.fpOk (aAh _) (I1.hok.fresh (aAh _))
def ab5(ta:TA):TI:=fun σ H R=>ta σ H fun vs H1=>∃j:Int,vs=[.int j]∧-(2 ^ 62)≤j∧j < 2 ^ 62∧R (Itr 0 j.toNat) H1
def ab4(ta:TA):TI:=fun σ H R=>ta σ H fun vs H1=>∃i j:Int,vs=[.int i,.int j]∧(-(2 ^ 62)≤i∧i < 2 ^ 62∧-(2 ^ 62)≤j∧j < 2 ^ 62)∧R (Itr i (j - i).toNat) H1
theorem Mj{a:Expr}{ta:TA}{p pos:Pos}(hg:Gl X "range")(hm:X.mg "range" = none)(ha:PA X [a] ta)(hs:starEach [a] X.env=[(false,eval a X.env)]:=by rfl):PI X tg (.Call (.Name "range" p) [a] [] pos) (ab5 ta):=by
 intro pins s σ H R I h
 refine Call_ (N7 I hg hm boot_range (aCf (Ix (ha pos pins s σ H _ I h) fun us s1 ⟨vs,H1,I1,r1,q1⟩=>?_) hs rfl))
 obtain⟨j,e,q1,q2,q⟩:=q1
 subst e
 cases r1 with
 | cons r rr=>
   cases rr
   obtain⟨t,rfl⟩:=r
   exact call_range_1 (Tj I1 (by omega) (by omega) q1 q2 (by simpa using q))
theorem Rj{a b:Expr}{ta:TA}{p pos:Pos}(hg:Gl X "range")(hm:X.mg "range" = none)(ha:PA X [a,b] ta)(hs:starEach [a,b] X.env=[(false,eval a X.env),(false,eval b X.env)]:=by rfl)(hs2:starEach [b] X.env=[(false,eval b X.env)]:=by rfl) :
 PI X tg (.Call (.Name "range" p) [a,b] [] pos) (ab4 ta):=by
 intro pins s σ H R I h
 refine Call_ (N7 I hg hm boot_range (aCf (Ix (ha pos pins s σ H _ I h) fun us s1 ⟨vs,H1,I1,r1,q1⟩=>?_) (by rw[hs,hs2]) (by rw[hs2];rfl)))
 obtain⟨i,j,e,⟨q1,q2,q3,q4⟩,q⟩:=q1
 subst e
 cases r1 with
 | cons r rr=>
   cases rr with
   | cons r' rr=>
     cases rr
     obtain⟨t,rfl⟩:=r
     obtain⟨t',rfl⟩:=r'
     exact call_range_2 (Tj I1 q1 q2 q3 q4 q)
def acB(wi:TI)(g:TG)(tb:TS):TS:=fun D σ H=>wi σ H fun J H1=>∃W:Nat→Nat→St→Hp→Prop,(∃m,W 0 m σ H1)∧∀i m σ H,W i m σ H→
 (J.stop i H∧D.nx σ H)∨(J.go i H∧∃N:St→Hp→Prop,(∀σ' H',N σ' H'→∃m',m' < m∧W (i + 1) m' σ' H')∧∀x H',J.yld i H x H'→g x σ H' fun σ2 H2=>tb { D with nx:=N,ct:=N,bk:=D.nx } σ2 H2)
def NO(fp:List Addr)(h:Heap):List (Addr×Obj):=fp.filterMap fun b=>(h.get? b).map fun o=>(b,o)
theorem ML{fp:List Addr}{h:Heap}{b:Addr}{o:Obj}(hb:b∈fp)(e:h.get? b=some o):(b,o)∈NO fp h:=aCZ.mpr ⟨b,hb,by rw[e];rfl⟩
theorem Wu{fp:List Addr}{h:Heap}{p:Addr×Obj}(hp:p∈NO fp h):p.1∈fp∧h.get? p.1=some p.2:=by
 obtain⟨b,hb,e⟩:=aCZ.mp hp
 cases q:h.get? b with
 | none=>rw[q] at e;cases e
 | some o=>
   rw[q] at e
   have e':(b,o)=p:=aAi e
   subst e'
   exact ⟨hb,q⟩
theorem Inv.pinned{pins:List (Addr×Obj)}{σ:St}{H:Hp}{s:Shared}{fp:List Addr}(I:Inv X pins σ H s)(hf:∀b∈fp,J0 X pins H b)(ho:∀b∈fp,∃o,s.heap.get? b=some o∧∀v,o.data≠.cell v):Inv X (pins ++ NO fp s.heap) σ H s:=
 I.pins_of fun p hp=>(aAx.mp hp).elim (fun z=>I.pin p (aAu _ z)) fun z=>by
  obtain⟨hb,e⟩:=Wu z
  obtain⟨f0,f1,f2,_⟩:=hf p.1 hb
  obtain⟨o,e',d⟩:=ho p.1 hb
  rw[e] at e';cases e'
  exact ⟨e,f0,f1,f2,d⟩
theorem Inv.unpinned{pins pl:List (Addr×Obj)}{σ:St}{H:Hp}{s:Shared}(I:Inv X (pins ++ pl) σ H s):Inv X pins σ H s:=I.pins_of fun p hp=>I.pin p (aAu _ (aAj _ hp))
theorem J5{iter:Expr}{body:List Stmt}{wi:TI}{g:TG}{tb:TS}{pos:Pos}(hp:PassesOwn (model X.prog X.w) X.A X.env X.xe)(hc:X.prog=X.prog)(hi:PI X tg iter wi)(hg:PG X tg g)(hb:PSs X body tb)
 (hs:∀x,foldedSetIterable iter X.env x=pure x:=by intro _;rfl):PS X (.For tg iter body [] pos) (acB wi g tb):=by
 intro pins s σ H D I h
 refine wpAny_For (Ix (hi pins s σ H _ I h) fun v s1 h1=>Ix h1 fun itv s2 h2=>?_) hs
 obtain⟨it,fp,tn,J,H2,e,I2,T,st2,f2,W,⟨m0,w0⟩,turn⟩:=h2
 subst e
 have stat:∀{H':Hp},(∀b∈fp,H' b=none)→∀b∈fp,J0 X pins H' b:=fun hn b hb=>⟨hn b hb,(f2 b hb).2⟩
 refine codeAny_forLoop_any (fun n s'=>∃i σ' H',Inv X pins σ' H' s'∧tn i s'.heap∧(∀b∈fp,H' b=none)∧W i n σ' H') ?_ m0 ⟨0,σ,H2,I2,st2,fun b hb=>(f2 b hb).1,w0⟩
 rintro n s3 ⟨i,σ3,H3,I3,st3,fr3,w3⟩
 rcases turn i n σ3 H3 w3 with ⟨stop,qn⟩ | ⟨go,N,hN,step⟩
 · refine aBR hp (Ix (T.done X rfl rfl rfl hc i pins s3 σ3 H3 X.xe I3 (stat fr3) st3 stop) fun r s4 ⟨hr,I4⟩=>?_)
   subst hr
   exact aCt ⟨σ3,H3,I4,qn⟩
 · refine aBR hp (Ix (T.item X rfl rfl rfl hc i pins s3 σ3 H3 X.xe I3 (stat fr3) st3 go) fun r s4 ⟨u,hr,h4⟩=>?_)
   subst hr
   refine aBR hp (Ix h4 fun _ s5 ⟨x,H5,I5,r5,y5,st5,fr5⟩=>?_)
   have I5':=I5.pinned (stat fr5) (T.obj _ _ st5)
   refine aBR hp (Ix (hg _ s5 σ3 H5 x u _ I5' r5 (step x H5 y5)) fun _ s6 ⟨σ6,H6,I6,q6⟩=>?_)
   refine aBR hp (Ix (hb _ s6 σ6 H6 _ I6 q6) fun f s7 q7=>?_)
   have again:∀{σ7:St} {H7:Hp},Inv X (pins ++ NO fp s5.heap) σ7 H7 s7→N σ7 H7→∃m,m < n∧∃i σ' H',Inv X pins σ' H' s7∧tn i s7.heap∧(∀b∈fp,H' b=none)∧W i m σ' H':=fun {σ7 H7} I7 n7=>by
    obtain⟨m',hm,w7⟩:=hN σ7 H7 n7
    refine ⟨m',hm,i + 1,σ7,H7,I7.unpinned,T.keep _ _ _ st5 fun b hb o e=>(I7.pin (b,o) (aAu _ (aAu _ (ML hb e)))).1,fun b hb=>?_,w7⟩
    obtain⟨o,e,d⟩:=T.obj _ _ st5 b hb
    exact (I7.pin (b,o) (aAu _ (aAu _ (ML hb e)))).2.1
   cases f with
   | next=>obtain⟨σ7,H7,I7,n7⟩:=q7;exact again I7 n7
   | cont=>obtain⟨σ7,H7,I7,n7⟩:=q7;exact again I7 n7
   | brk=>obtain⟨σ7,H7,I7,q7⟩:=q7;exact ⟨σ7,H7,I7.unpinned,q7⟩
   | ret v=>obtain⟨x7,σ7,H7,I7,r7,q7⟩:=q7;exact ⟨x7,σ7,H7,I7.unpinned,r7,q7⟩
end
theorem JR{K:PySem.W.Frag}{a:Addr}{xs:List V}{g:TG}{tb:TS}{D:Ends}{σ:St}{H:Hp}(Pv:Nat→St→Hp→Prop)(h0:Pv 0 σ H)(hl:∀i σ H,i≤xs.length→Pv i σ H→SqL K H a xs)
 (hs:∀i x σ H,xs[i]?=some x→Pv i σ H→g x σ H fun σ2 H2=>tb { D with nx:=Pv (i + 1),ct:=Pv (i + 1),bk:=D.nx } σ2 H2)(hd:∀σ H,Pv xs.length σ H→D.nx σ H) :
 ∃ W:Nat→Nat→St→Hp→Prop,(∃m,W 0 m σ H)∧∀i m σ H,W i m σ H→
   ((Itl K a).stop i H∧D.nx σ H)∨((Itl K a).go i H∧∃N:St→Hp→Prop,(∀σ' H',N σ' H'→∃m',m' < m∧W (i + 1) m' σ' H')∧∀x H',(Itl K a).yld i H x H'→g x σ H' fun σ2 H2=>tb { D with nx:=N,ct:=N,bk:=D.nx } σ2 H2):=by
 refine ⟨fun i m σ H=>m=xs.length - i∧i≤xs.length∧Pv i σ H,⟨xs.length,by simp,aAJ _,h0⟩,?_⟩
 rintro i m σ H ⟨rfl,hi,p⟩
 have q:=hl i σ H hi p
 by_cases hlt:i < xs.length
 · refine .inr ⟨⟨xs,xs[i],q,by simp[hlt]⟩,Pv (i + 1),fun σ' H' p'=>⟨xs.length - (i + 1),by omega,rfl,hlt,p'⟩,fun x H' y=>?_⟩
   obtain⟨e,y⟩:=y
   subst e
   exact hs i x σ _ (y xs q) p
 · have e:i=xs.length:=by omega
   subst e
   exact .inl ⟨⟨xs,q,aAh _⟩,hd σ H p⟩
theorem Oa{lo:Int}{n:Nat}{g:TG}{tb:TS}{D:Ends}{σ:St}{H:Hp}(Pv:Nat→St→Hp→Prop)(h0:Pv 0 σ H)
 (hs:∀i σ H,i < n→Pv i σ H→g (.int (lo + i)) σ H fun σ2 H2=>tb { D with nx:=Pv (i + 1),ct:=Pv (i + 1),bk:=D.nx } σ2 H2)(hd:∀σ H,Pv n σ H→D.nx σ H) :
 ∃ W:Nat→Nat→St→Hp→Prop,(∃m,W 0 m σ H)∧∀i m σ H,W i m σ H→
   ((Itr lo n).stop i H∧D.nx σ H)∨((Itr lo n).go i H∧∃N:St→Hp→Prop,(∀σ' H',N σ' H'→∃m',m' < m∧W (i + 1) m' σ' H')∧∀x H',(Itr lo n).yld i H x H'→g x σ H' fun σ2 H2=>tb { D with nx:=N,ct:=N,bk:=D.nx } σ2 H2):=by
 refine ⟨fun i m σ H=>m=n - i∧i≤n∧Pv i σ H,⟨n,by simp,aAJ _,h0⟩,?_⟩
 rintro i m σ H ⟨rfl,hi,p⟩
 by_cases hlt:i < n
 · refine .inr ⟨hlt,Pv (i + 1),fun σ' H' p'=>⟨n - (i + 1),by omega,rfl,hlt,p'⟩,fun x H' y=>?_⟩
   obtain⟨e,y⟩:=y
   subst e y
   exact hs i σ _ hlt p
 · have e:i=n:=by omega
   subst e
   exact .inl ⟨aAh _,hd σ H p⟩
end L2
namespace L2
open PySem PySem.Spec PyProof.Rows
abbrev R2:=V→V→Hp→VK→Prop
def Mu(X:Cx)(f:Value→Value→Sem Value)(r:R2):Prop:=
 ∀ (pins:List (Addr×Obj)) (s:Shared) (σ:St) (H:Hp) (x y:V) (v u:Value) (Q:VK),Inv X pins σ H s→RelV x v→RelV y u→r x y H Q→
   wpAny (model X.prog X.w) X.A (f v u) (EP X pins σ Q) X.xe s
def UnR(X:Cx)(f:Value→Sem Value)(r:V→Hp→VK→Prop):Prop:=
 ∀ (pins:List (Addr×Obj)) (s:Shared) (σ:St) (H:Hp) (x:V) (v:Value) (Q:VK),Inv X pins σ H s→RelV x v→r x H Q→
   wpAny (model X.prog X.w) X.A (f v) (EP X pins σ Q) X.xe s
def Kr(X:Cx)(f:Value)(r:List V→Hp→VK→Prop):Prop:=
 ∀ (pins:List (Addr×Obj)) (s:Shared) (σ:St) (H:Hp) (xs:List V) (us:List Value) (Q:VK),Inv X pins σ H s→Vals xs us→r xs H Q→
   wpAny (model X.prog X.w) X.A (call f us) (EP X pins σ Q) X.xe s
def tOp(r:R2)(ta tb:TE):TE:=fun σ H Q=>ta σ H fun x H1=>tb σ H1 fun y H2=>r x y H2 Q
def tUn(r:V→Hp→VK→Prop)(ta:TE):TE:=fun σ H Q=>ta σ H fun x H1=>r x H1 Q
def rI(C:Int→Int→Prop)(g:Int→Int→V):R2:=fun x y H Q=>∃i j,x=.int i∧y=.int j∧C i j∧Q (g i j) H
def rI0(g:Int→Int→V):R2:=fun x y H Q=>∃i j,x=.int i∧y=.int j∧Q (g i j) H
def rU(g:Int→V):V→Hp→VK→Prop:=fun x H Q=>∃i,x=.int i∧Q (g i) H
section
variable{X:Cx}{a b c:Expr}{ta tb tc:TE}{pos:Pos}
theorem abq(ha:PE X a ta)(hb:PE X b tb){pins:List (Addr×Obj)}{s:Shared}{σ:St}{H:Hp}{R:V→V→Hp→Prop}(I:Inv X pins σ H s)
 (h:ta σ H fun x H1=>tb σ H1 fun y H2=>R x y H2){Q:Value→Shared→Prop}{f:Value→Value→Sem Value}
 (hf:∀v u s2 x y H2,Inv X pins σ H2 s2→RelV x v→RelV y u→R x y H2→wpAny (model X.prog X.w) X.A (f v u) Q X.xe s2) :
 wpAny (model X.prog X.w) X.A (eval a X.env) (fun v s₁=>wpAny (model X.prog X.w) X.A (eval b X.env) (fun u s₂=>wpAny (model X.prog X.w) X.A (f v u) Q X.xe s₂) X.xe s₁) X.xe s:=by
 refine Ix (ha pins s σ H _ I h) fun v s1 ⟨x,H1,I1,r1,q1⟩=>?_
 refine Ix (hb pins s1 σ H1 _ I1 q1) fun u s2 ⟨y,H2,I2,r2,q2⟩=>?_
 exact hf v u s2 x y H2 I2 r1 r2 q2
theorem Hx{op:Operator}{r:R2}(ho:Mu X (binaryOp op) r)(ha:PE X a ta)(hb:PE X b tb):PE X (.BinOp a op b pos) (tOp r ta tb):=by
 intro pins s σ H Q I h
 exact wpAny_BinOp (abq ha hb I h fun v u s2 x y H2 I2 rx ry q=>ho pins s2 σ H2 x y v u Q I2 rx ry q)
theorem aaq{op:UnaryOp}{r:V→Hp→VK→Prop}(ho:UnR X (unaryOp op) r)(ha:PE X a ta):PE X (.UnaryOp op a pos) (tUn r ta):=by
 intro pins s σ H Q I h
 exact UnaryOp_ (Ix (ha pins s σ H _ I h) fun v s1 ⟨x,H1,I1,r1,q1⟩=>ho pins s1 σ H1 x v Q I1 r1 q1)
theorem opI{f:Value→Value→Sem Value}{C:Int→Int→Prop}{g:Int→Int→Int}
 (rule:∀(i j:Int) (t u:Tok) (s:Shared) (Q:Value→Shared→Prop) (E:Value→Shared→Prop),C i j→Q (.int (g i j) s.toks) { s with toks:=s.toks + 1 }→wpAny (model X.prog X.w) X.A (f (.int i t) (.int j u)) Q E s) :
 Mu X f (rI C fun i j=>.int (g i j)):=by
 intro pins s σ H x y v u Q I rx ry h
 obtain⟨i,j,rfl,rfl,hc,q⟩:=h
 obtain⟨t,rfl⟩:=rx
 obtain⟨t',rfl⟩:=ry
 exact rule i j t t' s _ _ hc ⟨.int (g i j),H,I.tok _,⟨_,rfl⟩,q⟩
theorem ab0{f:Value→Value→Sem Value}{g:Int→Int→Int}
 (rule:∀(i j:Int) (t u:Tok) (s:Shared) (Q:Value→Shared→Prop) (E:Value→Shared→Prop),Q (.int (g i j) s.toks) { s with toks:=s.toks + 1 }→wpAny (model X.prog X.w) X.A (f (.int i t) (.int j u)) Q E s) :
 Mu X f (rI0 fun i j=>.int (g i j)):=by
 intro pins s σ H x y v u Q I rx ry h
 obtain⟨i,j,rfl,rfl,q⟩:=h
 obtain⟨t,rfl⟩:=rx
 obtain⟨t',rfl⟩:=ry
 exact rule i j t t' s _ _ ⟨.int (g i j),H,I.tok _,⟨_,rfl⟩,q⟩
theorem ZH{f:Value→Value→Sem Value}{g:Int→Int→Bool}
 (rule:∀(i j:Int) (t u:Tok) (s:Shared) (Q:Value→Shared→Prop) (E:Value→Shared→Prop),Q (.bool (g i j)) s→wpAny (model X.prog X.w) X.A (f (.int i t) (.int j u)) Q E s) :
 Mu X f (rI0 fun i j=>.bl (g i j)):=by
 intro pins s σ H x y v u Q I rx ry h
 obtain⟨i,j,rfl,rfl,q⟩:=h
 obtain⟨t,rfl⟩:=rx
 obtain⟨t',rfl⟩:=ry
 exact rule i j t t' s _ _ ⟨.bl (g i j),H,I,rfl,q⟩
def ac3(i j:Int):Prop:=0 < j∧j < 1073741824
def CMul(i j:Int):Prop:=(-(2 ^ 64) < i∧i < 2 ^ 64)∨(-(2 ^ 64) < j∧j < 2 ^ 64)
theorem CMul.ok{i j:Int}(h:CMul i j):IntMulOk i j:=by
 rcases h with ⟨h1,h2⟩ | ⟨h1,h2⟩
 · exact .of_left (intBits_le_64 h1 h2)
 · exact .of_right (intBits_le_64 h1 h2)
theorem JA:Mu X (binaryOp .Add) (rI0 fun i j=>.int (i + j)):=ab0 fun _ _ _ _ _ _ _ q=>add_int q
theorem Kj:Mu X (binaryOp .Sub) (rI0 fun i j=>.int (i - j)):=ab0 fun _ _ _ _ _ _ _ q=>sub_int q
theorem MJ:Mu X (binaryOp .Mult) (rI CMul fun i j=>.int (i * j)):=opI fun _ _ _ _ _ _ _ hc q=>mul_int q hc.ok
theorem O4:Mu X (binaryOp .FloorDiv) (rI ac3 fun i j=>.int (i / j)):=opI fun i j _ _ _ _ _ hc q=>by
 have h1:(0:Int) < j:=hc.1
 have h2:j < 1073741824:=hc.2
 exact floordiv_int (by omega) (by rw[Int.fdiv_eq_ediv_of_nonneg i (by omega)];exact q) (.inl (PyProof.noPylong_small (by omega)))
theorem NS:Mu X (binaryOp .Mod) (rI (fun _ j=>0 < j) fun i j=>.int (i % j)):=opI fun i j _ _ _ _ _ hc q=>by
 have h1:(0:Int) < j:=hc
 exact mod_int' (by omega) (by rw[Int.fmod_eq_emod_of_nonneg i (by omega)];exact q)
theorem unI{f:Value→Sem Value}{g:Int→Int}
 (rule:∀(i:Int) (t:Tok) (s:Shared) (Q:Value→Shared→Prop) (E:Value→Shared→Prop),Q (.int (g i) s.toks) { s with toks:=s.toks + 1 }→wpAny (model X.prog X.w) X.A (f (.int i t)) Q E s) :
 UnR X f (rU fun i=>.int (g i)):=by
 intro pins s σ H x v Q I rx h
 obtain⟨i,rfl,q⟩:=h
 obtain⟨t,rfl⟩:=rx
 exact rule i t s _ _ ⟨.int (g i),H,I.tok _,⟨_,rfl⟩,q⟩
theorem Xb:UnR X (unaryOp .USub) (rU fun i=>.int (-i)):=unI fun _ _ _ _ _ q=>neg_int q
end
def acF:V→V→Bool
 | .non,.non=>true | .non,.int _=>true | .int _,.non=>true | .non,.bl _=>true | .bl _,.non=>true | .non,.str _=>true | .str _,.non=>true
 | .int _,.int _=>true | .bl _,.bl _=>true | .str _,.str _=>true | .byt _,.byt _=>true
 | .int _,.str _=>true | .str _,.int _=>true | .bl _,.str _=>true | .str _,.bl _=>true
 | _,_=>false
def rEq:R2:=fun x y H Q=>acF x y=true∧Q (.bl (decide (x=y))) H
theorem Z8{i j:Int}:decide (V.int i=V.int j)=(i == j):=by
 rw[aCQ]
 simp
theorem abl{i j:Bool}:decide (V.bl i=V.bl j)=(i == j):=by
 rw[aCQ]
 simp
theorem Z7{i j:Str}:decide (V.str i=V.str j)=(i == j):=by
 rw[aCQ]
 simp
theorem Z9{i j:Array UInt8}:decide (V.byt i=V.byt j)=(i.toList == j.toList):=by
 rw[aCQ]
 cases i
 cases j
 simp
section
variable{X:Cx}{a b c:Expr}{ta tb tc:TE}{pos:Pos}
theorem JL{pins:List (Addr×Obj)}{σ:St}{H:Hp}{s:Shared}{Q:VK}{k k':Bool}(I:Inv X pins σ H s)(q:Q (.bl k) H)(e:k=k'):EP X pins σ Q (.bool k') s:=by
 subst e
 exact ⟨.bl k,H,I,rfl,q⟩
theorem L6:Mu X (compareOp .Eq) rEq:=by
 intro pins s σ H x y v u Q I rx ry h
 obtain⟨hs,q⟩:=h
 cases x with
 | non=>
   cases rx
   cases y with
   | non=>cases ry;exact PySem.EqNone.eq_none_none (JL I q (by simp))
   | bl j=>cases ry;exact PySem.EqNone.eq_none_bool (JL I q (by simp))
   | int j=>obtain⟨t',rfl⟩:=ry;exact PySem.EqNone.eq_none_int (JL I q (by simp))
   | str j=>obtain⟨t',rfl⟩:=ry;exact PySem.EqNone.eq_none_str (JL I q (by simp))
   | _=>exact absurd (show false=true from hs) aAK
 | bl i=>
   cases rx
   cases y with
   | non=>cases ry;exact PySem.EqNone.eq_bool_none (JL I q (by simp))
   | bl j=>cases ry;exact eq_bool (JL I q abl)
   | str j=>obtain⟨t',rfl⟩:=ry;exact PySem.EqMixed.eq_bool_str (JL I q (by simp))
   | _=>exact absurd (show false=true from hs) aAK
 | int i=>
   obtain⟨t,rfl⟩:=rx
   cases y with
   | non=>cases ry;exact PySem.EqNone.eq_int_none (JL I q (by simp))
   | int j=>obtain⟨t',rfl⟩:=ry;exact eq_int (JL I q Z8)
   | str j=>obtain⟨t',rfl⟩:=ry;exact PySem.EqMixed.eq_int_str (JL I q (by simp))
   | _=>exact absurd (show false=true from hs) aAK
 | str i=>
   obtain⟨t,rfl⟩:=rx
   cases y with
   | non=>cases ry;exact PySem.EqNone.eq_str_none (JL I q (by simp))
   | bl j=>cases ry;exact PySem.EqMixed.eq_str_bool (JL I q (by simp))
   | int j=>obtain⟨t',rfl⟩:=ry;exact PySem.EqMixed.eq_str_int (JL I q (by simp))
   | str j=>obtain⟨t',rfl⟩:=ry;exact eq_str (JL I q Z7)
   | _=>exact absurd (show false=true from hs) aAK
 | byt i=>
   obtain⟨t,rfl⟩:=rx
   cases y with
   | byt j=>obtain⟨t',rfl⟩:=ry;exact W.eq_bytes (JL I q Z9)
   | _=>exact absurd (show false=true from hs) aAK
 | _=>cases y <;> exact absurd (show false=true from hs) aAK
theorem Rm:Mu X (compareOp .Lt) (rI0 fun i j=>.bl (decide (i < j))):=ZH fun _ _ _ _ _ _ _ q=>lt_int q
theorem abZ:Mu X (compareOp .LtE) (rI0 fun i j=>.bl (decide (i≤j))):=ZH fun _ _ _ _ _ _ _ q=>le_int q
theorem Tp:Mu X (compareOp .Gt) (rI0 fun i j=>.bl (decide (j < i))):=ZH fun _ _ _ _ _ _ _ q=>gt_int q
theorem VQ:Mu X (compareOp .GtE) (rI0 fun i j=>.bl (decide (j≤i))):=ZH fun _ _ _ _ _ _ _ q=>ge_int q
theorem aa3:Mu X (compareOp .Is) (fun x y H Q=>y=.non∧Q (.bl (decide (x=.non))) H):=by
 intro pins s σ H x y v u Q I rx ry h
 obtain⟨rfl,q⟩:=h
 cases ry
 refine is_none_gen (JL I q ?_)
 cases x <;> first
  | (cases rx;rfl)
  | (obtain⟨t,rfl⟩:=rx;rfl)
theorem Hy(b:Expr){op:CmpOp}(h:op≠.In:=by decide)(h2:op≠.NotIn:=by decide):behindInMarks op b=false:=by
 have e1:(op == CmpOp.In)=false:=by cases op <;> first | rfl | exact absurd rfl h
 have e2:(op == CmpOp.NotIn)=false:=by cases op <;> first | rfl | exact absurd rfl h2
 cases b <;> simp[behindInMarks,e1,e2]
theorem Nb{op:CmpOp}{r:R2}(ho:Mu X (compareOp op) r)(ha:PE X a ta)(hb:PE X b tb)(hm:behindInMarks op b=false):PE X (.Compare a [op] [b] pos) (tOp r ta tb):=by
 intro pins s σ H Q I h
 exact wpAny_Compare1 (abq ha hb I h fun v u s2 x y H2 I2 rx ry q=>ho pins s2 σ H2 x y v u Q I2 rx ry q) hm
def aaj(t:TE):TT:=fun σ H Q=>t σ H fun x H'=>∃k,x=.bl k∧Q k H'
theorem Hu{op:CmpOp}{r:R2}(ho:Mu X (compareOp op) r)(ha:PE X a ta)(hb:PE X b tb)(hm:behindInMarks op b=false):PT X (.Compare a [op] [b] pos) (aaj (tOp r ta tb)):=by
 intro pins s σ H Q I h
 refine wpAny_isTrue_Compare1 (Ix (ha pins s σ H _ I h) fun v s1 ⟨x,H1,I1,r1,q1⟩=>Ix (hb pins s1 σ H1 _ I1 q1) fun u s2 ⟨y,H2,I2,r2,q2⟩=>
  Ix (ho pins s2 σ H2 x y v u _ I2 r1 r2 q2) fun c s3 ⟨z,H3,I3,r3,k,e,q3⟩=>?_) hm
 subst e
 cases r3
 exact aBv ⟨H3,I3,q3⟩
def aaO(r r':R2)(ta tb tc:TE):TE:=fun σ H Q=>ta σ H fun x H1=>tb σ H1 fun y H2=>r x y H2 fun z H3=>∃k,z=.bl k∧
 (if k=true then tc σ H3 fun w' H4=>r' y w' H4 Q else Q (.bl false) H3)
theorem XF{op op':CmpOp}{r r':R2}(ho:Mu X (compareOp op) r)(ho':Mu X (compareOp op') r')(ha:PE X a ta)(hb:PE X b tb)(hc:PE X c tc)
 (hm:lastMarks [op,op'] [b,c]=false:=by with_unfolding_all rfl):PT X (.Compare a [op,op'] [b,c] pos) (aaj (aaO r r' ta tb tc)):=by
 intro pins s σ H Q I h
 refine isTrue_chain (Ix (ha pins s σ H _ I h) fun v s1 ⟨x,H1,I1,r1,q1⟩=>test_link (Ix (hb pins s1 σ H1 _ I1 q1) fun u s2 ⟨y,H2,I2,r2,q2⟩=>
  Ix (ho pins s2 σ H2 x y v u _ I2 r1 r2 q2) fun d s3 ⟨z,H3,I3,r3,k,e,q3⟩=>?_)) hm
 subst e
 cases r3
 refine aBv ?_
 cases k with
 | false=>
   obtain⟨k',e',q'⟩:=q3
   cases e'
   exact ite_ff ⟨H3,I3,q'⟩
 | true=>
   refine ite_tt (test_last (Ix (hc pins s3 σ H3 _ I3 q3) fun w' s4 ⟨z',H4,I4,r4,q4⟩=>Ix (ho' pins s4 σ H4 y z' u w' _ I4 r2 r4 q4) fun d' s5 ⟨z2,H5,I5,r5,k2,e2,q5⟩=>?_))
   subst e2
   cases r5
   exact aBv ⟨H5,I5,q5⟩
theorem So:(sizeLine:Nat) < 2 ^ 63:=by rw[aAs];decide
theorem Q5{x:V}{us:List Value}(r:Vals [x] us):∃u,us=[u]∧RelV x u:=by
 cases r with
 | cons r1 r2=>cases r2;exact ⟨_,rfl,r1⟩
theorem aai{x y:V}{us:List Value}(r:Vals [x,y] us):∃u w',us=[u,w']∧RelV x u∧RelV y w':=by
 cases r with
 | cons r1 r2=>
   cases r2 with
   | cons r3 r4=>cases r4;exact ⟨_,_,rfl,r1,r3⟩
theorem Oe(hc:X.prog=X.prog):Kr X (.builtin "max") (fun xs H Q=>∃i j,xs=[.int i,.int j]∧Q (.int (if j > i then j else i)) H):=by
 intro pins s σ H xs us Q I r h
 obtain⟨i,j,rfl,q⟩:=h
 obtain⟨u,w',rfl,⟨t,rfl⟩,⟨t',rfl⟩⟩:=aai r
 refine Sl I.heldAt fun h' tk k=>⟨_,H,I.kept k,?_,q⟩
 by_cases hj:j > i
 · rw[aAE hj,aAE hj];exact ⟨_,rfl⟩
 · rw[aAz hj,aAz hj];exact ⟨_,rfl⟩
theorem WT(hc:X.prog=X.prog):Kr X (.builtin "min") (fun xs H Q=>∃i j,xs=[.int i,.int j]∧Q (.int (if j < i then j else i)) H):=by
 intro pins s σ H xs us Q I r h
 obtain⟨i,j,rfl,q⟩:=h
 obtain⟨u,w',rfl,⟨t,rfl⟩,⟨t',rfl⟩⟩:=aai r
 refine Sk I.heldAt fun h' tk k=>⟨_,H,I.kept k,?_,q⟩
 by_cases hj:j < i
 · rw[aAE hj,aAE hj];exact ⟨_,rfl⟩
 · rw[aAz hj,aAz hj];exact ⟨_,rfl⟩
end
end L2
namespace L2
open PySem PySem.Spec PyProof.Rows
structure ObjM(h:Heap)(x dx C:Addr)(mA:Str→Option Value):Prop where
 obj:h.get? x=some (W.instObj C dx)
 ns:h.Ns1 dx mA
 ne:dx≠x
theorem WB{h:Heap}{dx:Addr}{mA:Str→Option Value}(n:h.Ns1 dx mA):∃od,h.get? dx=some od∧∀name,W.lookIn name od=some (mA name):=by
 obtain⟨o,es,ep,ho,hd,hk,_,hm⟩:=n
 refine ⟨o,ho,fun name=>?_⟩
 have e:=hm name
 unfold nsFind findBy at e
 rw[←Array.find?_toList] at e
 unfold W.lookIn
 rw[hd]
 dsimp only
 split
 · rename_i y q
   rw[q] at e
   exact aA2 some e
 · rename_i q
   rw[q] at e
   have a:es.toList.any (·.refKey)=false:=by
    rw[List.any_eq_false]
    intro y hy
    obtain⟨z,t,hkey⟩:=hk y (Array.mem_toList_iff.mp hy)
    simp[DictEntry.refKey,hkey]
   have a':¬es.toList.any (·.refKey)=true:=by rw[a];exact aAK
   rw[aAz a']
   exact aA2 some e
theorem ObjM.look{h:Heap}{x dx C:Addr}{mA:Str→Option Value}(I:ObjM h x dx C mA):∃od,W.InstAt h x (W.instObj C dx) C (some od)∧∀name,W.lookIn name od=some (mA name):=
 let ⟨od,ho,hl⟩:=WB I.ns
 ⟨od,⟨I.obj,rfl,rfl,ho⟩,hl⟩
section
variable{prog:Program}{w:World}{A:Around}{E:Value→Shared→Prop}{s:Shared}{K:W.Frag}{x dx C f:Addr}{mA:Str→Option Value}{name:Str}{v:Value}
theorem Z2{expr:Bool}{Q:Value→Shared→Prop}(X:K.In s.heap)(I:ObjM s.heap x dx C mA)(hg:W.plainGet K C name=true)(hh:W.hasDictIn K C=true)
 (ha:W.findIn K (.ref C) name=some none)(hv:mA name=some v)(hv':W.handedIn v=true)(h:Q v { s with toks:=s.toks + 1 }) :
 wpAny (model prog w) A (getAttr (.ref x) name expr) Q E s:=by
 obtain⟨od,J,hl⟩:=I.look
 exact W.get_value X J (aCV hg).1 (W.findObj_own hh ha rfl (by rw[hl,hv])) hv' h
theorem YI{pl:Sem Bool}{Q:Value×List Value→Shared→Prop}(X:K.In s.heap)(I:ObjM s.heap x dx C mA)(hg:W.plainGet K C name=true)
 (hf:W.findIn K (.ref C) name=some (some (.ref f)))(ht:W.isFn K (.ref f)=true)(hv:mA name=none)(h:Q (.ref f,[.ref x]) s) :
 wpAny (model prog w) A (getMethod (.ref x) name pl) Q E s:=by
 obtain⟨od,J,hl⟩:=I.look
 exact W.method_fn X J (aCV hg).1 (aCV hg).2 hf (aB8.mp ht) (by show (W.lookIn name od).map (·.isSome)=some false;rw[hl,hv];rfl) h
theorem Zk{ns:List Str}{Q:Unit→Shared→Prop}(X:K.In s.heap)(I:ObjM s.heap x dx C mA)
 (hs:W.findIn K (.ref C) "__setattr__" = some (some (.builtin "object.__setattr__")))(hp:W.plainOver K C=true)(ht:W.takerIn K C name=some none)(hh:W.hasDictIn K C=true)
 (hw:PySem.Within mA ns)(hsz:ns.length≤sizeLine)
 (h:∀h',ObjM h' x dx C (fun y=>if y=name then some v else mA y)→Heap.SameBut dx s.heap h'→Q () { s with heap:=h',toks:=s.toks + 2 }) :
 wpAny (model prog w) A (setAttr (.ref x) name v) Q E s:=by
 obtain⟨od,J,hl⟩:=I.look
 refine W.set_plain X J hs (W.osa_open (s:={ s with toks:=s.toks + 1 }) (r:=none) X J hp ht fun b=>?_)
 obtain⟨cd,hc,hd'⟩:=W.any_some hh
 have hx:s.heap.get? x=some ⟨.ref C,some dx,.plain,#[]⟩:=I.obj
 refine aAb (aAm (aAb (aAb (wpAny_loadPart hx (aAb (W.Looks.here (s:={ s with toks:=s.toks + 1 }) (W.looks_clsIn X hc) ?_))))))
 rw[hd']
 refine aAm (a:=some dx) (aAb (aAm (aAb ?_)))
 refine wpAny_nsSet1 (s:={ s with toks:=s.toks + 1 }) I.ns fun h' hn2 hs2=>?_
 obtain⟨oD,esD,epD,hoD,hdD,hcD⟩:=hn2.count (PySem.Within.cons name v hw)
 refine aAb (wpAny_lookBehind hoD (by rw[hdD];exact pastItsLine_dict (aBh hcD (by rw[aAL];omega))) ?_)
 exact aAm (h _ ⟨(hs2.2 _ (aBg I.ne)).trans I.obj,hn2,I.ne⟩ hs2)
theorem Ym{R:Result→Shared→Prop}{vs:List Value}{kw:List (Str×Value)}(X:K.In s.heap)(hm:W.makesIn K C=true)
 (hi:W.findIn K (.ref C) "__init__" = some (some (.ref f)))(hf:W.typeIn K (.ref f)=some (.type "function"))
 (h:codeAny (model prog w) (A.under (.builtin "type.__call__" ⟨.ref C :: vs,kw⟩)) (.call (.ref f) ⟨.ref (s.heap.objs.size + 1) :: vs,kw⟩) (W.InitBack (s.heap.objs.size + 1) R)
  { s with heap:=(s.heap.push W.emptyDict).push (W.instObj C s.heap.objs.size) }) :
 codeAny (model prog w) A (.call (.ref C) ⟨vs,kw⟩) R s:=by
 obtain⟨hh,g,d,t,os⟩:=s
 exact W.make_core (W.makes_of X hm) (W.looks_findIn X hi) (fun self=>W.bind_fn X self hf) (.inl rfl) h
end
def Hm(f:Str)(v:V):List (Str×V)→List (Str×V)
 | []=>[(f,v)]
 | (g,x) :: r=>if g=f then (g,v) :: r else (g,x) :: Hm f v r
theorem Oo(f g:Str)(v:V):∀fs:List (Str×V),(Hm f v fs).lookup g=if g=f then some v else fs.lookup g
 | []=>by
   show List.lookup g [(f,v)]=_
   by_cases h:g=f
   · have hb:(g == f)=true:=aB8.mpr h
     simp only[List.lookup,hb,aAE h]
   · have hb:(g == f)=false:=aA7.mpr h
     simp only[List.lookup,hb,aAz h]
 | (k, x) :: r=>by
   have ih:=Oo f g v r
   rw[show Hm f v ((k,x) :: r)=(if k=f then (k,v) :: r else (k,x) :: Hm f v r) from rfl]
   by_cases hk:k=f
   · rw[aAE hk]
     by_cases h:g=k
     · have hb:(g == k)=true:=aB8.mpr h
       simp only[List.lookup,hb,aAE (h.trans hk)]
     · have hb:(g == k)=false:=aA7.mpr h
       simp only[List.lookup,hb,aAz (fun e:g=f=>h (e.trans hk.symm))]
   · rw[aAz hk]
     by_cases h:g=k
     · have hb:(g == k)=true:=aB8.mpr h
       simp only[List.lookup,hb,aAz (fun e:g=f=>hk (h.symm.trans e))]
     · have hb:(g == k)=false:=aA7.mpr h
       simp only[List.lookup,hb]
       exact ih
theorem N8(f:Str)(v:V):∀fs:List (Str×V),f∈(Hm f v fs).map (·.1)∧∀g,g∈fs.map (·.1)→g∈(Hm f v fs).map (·.1)
 | []=>⟨by simp[Hm],fun g h=>by simp at h⟩
 | (k, x) :: r=>by
   obtain⟨i1,i2⟩:=N8 f v r
   rw[show Hm f v ((k,x) :: r)=(if k=f then (k,v) :: r else (k,x) :: Hm f v r) from rfl]
   by_cases hk:k=f
   · rw[aAE hk]
     subst hk
     exact ⟨by simp,fun g h=>by simpa using h⟩
   · rw[aAz hk]
     refine ⟨?_,fun g h=>?_⟩
     · rw[aAr]
       exact aAq _ i1
     · rw[aAr] at h ⊢
       rcases aAg.mp h with e | e
       · exact aAg.mpr (.inl e)
       · exact aAq _ (i2 g e)
theorem Op(f:Str)(v:V):∀fs:List (Str×V),(Hm f v fs).length≤fs.length + 1
 | []=>by simp[Hm]
 | (k,x) :: r=>by
   have ih:=Op f v r
   rw[show Hm f v ((k,x) :: r)=(if k=f then (k,v) :: r else (k,x) :: Hm f v r) from rfl]
   by_cases hk:k=f
   · rw[aAE hk,aAL,aAL];omega
   · rw[aAz hk,aAL,aAL];omega
theorem RelO.some_of{v:V}{o:Option Value}(r:RelO (some v) o):∃u,o=some u∧RelV v u:=by
 cases o with
 | none=>exact (show False from r).elim
 | some u=>exact ⟨u,rfl,r⟩
theorem RelO.none_of{o:Option Value}(r:RelO none o):o=none:=by
 cases o with
 | none=>rfl
 | some u=>exact (show False from r).elim
theorem WM{v:V}{u:Value}(r:RelV v u):W.handedIn u=true:=by
 cases v with
 | non=>cases (show u=Value.none from r);rfl
 | bl b=>cases (show u=Value.bool b from r);rfl
 | int i=>obtain⟨t,e⟩:=(show ∃t,u=Value.int i t from r);cases e;rfl
 | str x=>obtain⟨t,e⟩:=(show ∃t,u=Value.str x t from r);cases e;rfl
 | byt b=>obtain⟨t,e⟩:=(show ∃t,u=Value.bytes b t from r);cases e;rfl
 | flt b=>obtain⟨t,e⟩:=(show ∃t,u=Value.float b t from r);cases e;rfl
 | ref a=>cases (show u=Value.ref a from r);rfl
 | ty n=>cases (show u=Value.type n from r);rfl
section
variable{P:Program}{w:World}{H H':Hp}{h h':Heap}{a C dx:Addr}{fs fs':List (Str×V)}
theorem Sx(hok:HOk P w H h)(e:H a=some (.ins C dx fs)):∃mA,ObjM h a dx C mA∧(∀f,RelO (fs.lookup f) (mA f))∧PySem.Within mA (fs.map (·.1))∧fs.length≤1000∧H dx=some (.own a):=by
 obtain⟨d,z,ne,ob,mA,n,r,q⟩:=(show ObjOk P w H h a (.ins C dx fs) from hok a _ e)
 exact ⟨mA,⟨ob,n,ne⟩,r,q,z,d⟩
end
structure Cls(K:W.Frag)(C:Addr):Prop where
 pg:W.plainGet K C Str.empty=true
 hd:W.hasDictIn K C=true
 po:W.plainOver K C=true
 sa:W.findIn K (.ref C) "__setattr__" = some (some (.builtin "object.__setattr__"))
theorem Cls.get{K:W.Frag}{C:Addr}(c:Cls K C)(f:Str):W.plainGet K C f=true:=c.pg
def NoAttr(K:W.Frag)(C:Addr)(f:Str):Prop:=W.findIn K (.ref C) f=some none
theorem NoAttr.taker{K:W.Frag}{C:Addr}{f:Str}(n:NoAttr K C f):W.takerIn K C f=some none:=by
 unfold W.takerIn
 rw[show W.findIn K (.ref C) f=some none from n]
 rfl
structure Meth(K:W.Frag)(C:Addr)(m:Str)(f:Addr):Prop where
 at_:W.findIn K (.ref C) m=some (some (.ref f))
 fn:W.isFn K (.ref f)=true
 kp:W.keepIn K (.ref f)=true
section
variable{X:Cx}{pins:List (Addr×Obj)}{σ:St}{H:Hp}{s:Shared}{a C dx:Addr}{fs:List (Str×V)}{f:Str}{v:V}{A:Around}{E:Value→Shared→Prop}
theorem Vb{b:Bool}{Q:Value→Shared→Prop}(I:Inv X pins σ H s)(e:H a=some (.ins C dx fs))(c:Cls X.K C)(n:NoAttr X.K C f)(l:fs.lookup f=some v)
 (h:∀u s',Inv X pins σ H s'→RelV v u→Q u s'):wpAny (model X.prog X.w) A (getAttr (.ref a) f b) Q E s:=by
 obtain⟨mA,O,r,_,_,_⟩:=Sx I.hok e
 obtain⟨u,hu,ru⟩:=RelO.some_of (v:=v) (o:=mA f) (by rw[←l];exact r f)
 exact Z2 I.kIn O (c.get f) c.hd n hu (WM ru) (h u _ (I.tok _) ru)
theorem MQ{m:Str}{g:Addr}{pl:Sem Bool}{Q:Value×List Value→Shared→Prop}(I:Inv X pins σ H s)(e:H a=some (.ins C dx fs))(c:Cls X.K C)(k:Meth X.K C m g)(l:fs.lookup m=none)
 (h:Q (.ref g,[.ref a]) s):wpAny (model X.prog X.w) A (getMethod (.ref a) m pl) Q E s:=by
 obtain⟨mA,O,r,_,_,_⟩:=Sx I.hok e
 have hn:mA m=none:=RelO.none_of (by rw[←l];exact r m)
 exact YI I.kIn O (c.get m) k.at_ k.fn hn h
theorem UE{y:V}{u:Value}{Q:Unit→Shared→Prop}(I:Inv X pins σ H s)(e:H a=some (.ins C dx fs))(c:Cls X.K C)(n:NoAttr X.K C f)(hl:fs.length < 1000)(ry:RelV y u)
 (h:∀s',Inv X pins σ (Hq H a (.ins C dx (Hm f y fs))) s'→Q () s'):wpAny (model X.prog X.w) A (setAttr (.ref a) f u) Q E s:=by
 obtain⟨mA,O,r,wi,_,ho⟩:=Sx I.hok e
 have hz:(fs.map (·.1)).length≤sizeLine:=by rw[aAf,aAs];omega
 refine Zk I.kIn O c.sa c.po n.taker c.hd wi hz fun h' O' sb=>h _ ?_
 have hd:∃o,h'.get? dx=some o:=let ⟨o,_,_,e',_⟩:=O'.ns;⟨o,e'⟩
 refine I.write (x:=a) (e:=dx) (by rw[e];exact True.intro) (.inr ho) (fun b q hb z=>(sb.2 b hb).trans z) hd ?_
 refine ⟨by rw[GY O.ne];exact ho,?_,O.ne,O'.obj,_,O'.ns,fun g=>?_,fun g hg=>?_⟩
 · have:=Op f y fs;omega
 · show RelO ((Hm f y fs).lookup g) (if g=f then some u else mA g)
   rw[Oo]
   by_cases q:g=f
   · rw[aAE q,aAE q];exact ry
   · rw[aAz q,aAz q];exact r g
 · by_cases q:g=f
   · rw[q];exact (N8 f y fs).1
   · refine (N8 f y fs).2 g (wi g fun z=>hg ?_)
     show (if g=f then some u else mA g)=none
     rw[aAz q];exact z
theorem Inv.made(I:Inv X pins σ H s):Inv X pins σ (Hq (Hq H s.heap.objs.size (.own (s.heap.objs.size + 1))) (s.heap.objs.size + 1) (.ins C s.heap.objs.size []))
 { s with heap:=(s.heap.push W.emptyDict).push (W.instObj C s.heap.objs.size) }:=by
 have e1:(s.heap.push W.emptyDict).get? s.heap.objs.size=some W.emptyDict:=aAo s.heap rfl
 have e2:((s.heap.push W.emptyDict).push (W.instObj C s.heap.objs.size)).get? (s.heap.objs.size + 1)=some (W.instObj C s.heap.objs.size):=by
  have:=aAo (s.heap.push W.emptyDict) (o:=W.instObj C s.heap.objs.size) rfl
  rwa [aBo] at this
 have e3:(s.heap.push W.emptyDict).Ns s.heap.objs.size (fun _=>none):=⟨W.emptyDict,#[],_,e1,rfl,(fun e he=>absurd he (by simp)),fun _=>rfl⟩
 have I1:=I.laid (a:=s.heap.objs.size) (o:=.own (s.heap.objs.size + 1)) (h':=s.heap.push W.emptyDict) (t':=s.toks) (fun b u q=>aAe _ q) (aAh _) ⟨_,e1⟩
 refine I1.laid (a:=s.heap.objs.size + 1) (o:=.ins C s.heap.objs.size []) (t':=s.toks) (fun b u q=>aAe _ q) (Nat.le_of_eq (aBo _ _)) ?_
 have ne:s.heap.objs.size≠s.heap.objs.size + 1:=aAB (aBN _)
 refine ⟨by rw[GY ne,GU],aAJ _,ne,e2,fun _=>none,(Heap.Ns1.of_empty e3).at fun o q=>aAe _ q,fun _=>True.intro,fun y hy=>absurd rfl hy⟩
theorem aac{prog:Program}{w:World}{env:Env}{e:Expr}{f:Str}{pos:Pos}{s:Shared}{Q:Value→Shared→Prop}(hb:attributeBase e f env (eval e env)=eval e env)
 (h:wpAny (model prog w) A (eval e env) (fun o s₁=>wpAny (model prog w) A (getAttr o f true) Q E s₁) E s):wpAny (model prog w) A (eval (.Attribute e f pos) env) Q E s:=
 Attribute_any_ h (by rw[arm_eval_Attribute,hb])
end
def abI(K:W.Frag)(ta:TE)(f:Str):TE:=fun σ H Q=>ta σ H fun x H1=>∃a C dx fs v,x=.ref a∧H1 a=some (.ins C dx fs)∧Cls K C∧NoAttr K C f∧fs.lookup f=some v∧Q v H1
def abP(K:W.Frag)(ta tv:TE)(f:Str):TS:=fun D σ H=>tv σ H fun y H1=>ta σ H1 fun x H2=>∃a C dx fs,x=.ref a∧H2 a=some (.ins C dx fs)∧Cls K C∧NoAttr K C f∧fs.length < 1000∧
 D.nx σ (Hq H2 a (.ins C dx (Hm f y fs)))
section
variable{X:Cx}{o e value:Expr}{f:Str}{pos pos' tpos:Pos}{ta tv:TE}
theorem aa0(he:PE X e ta)(hb:attributeBase e f X.env (eval e X.env)=eval e X.env):PE X (.Attribute e f pos) (abI X.K ta f):=by
 intro pins s σ H Q I h
 refine aac hb (Ix (he pins s σ H _ I h) fun u s1 ⟨x,H1,I1,rx,a,C,dx,fs,v,ex,ea,c,n,l,q⟩=>?_)
 subst ex
 obtain rfl:u=Value.ref a:=rx
 exact Vb I1 ea c n l fun u' s2 I2 ru=>⟨v,H1,I2,ru,q⟩
theorem aaV(ha:PE X o ta)(hv:PE X value tv)(hs:swapsWith value (some (.Attribute o f pos')) pos.line X.env=pure false):PS X (.Assign [.Attribute o f pos'] value pos) (abP X.K ta tv f):=by
 intro pins s σ H D I h
 refine plainObj_wpAny_Assign_Attribute (Ix (hv pins s σ H _ I h) fun u s1 ⟨y,H1,I1,ry,q⟩=>Ix (ha pins s1 σ H1 _ I1 q) fun ov s2 ⟨x,H2,I2,rx,a,C,dx,fs,ex,ea,c,n,l,q2⟩=>?_) hs
 subst ex
 obtain rfl:ov=Value.ref a:=rx
 exact UE I2 ea c n l ry fun s3 I3=>⟨σ,_,I3,q2⟩
end
end L2
namespace L2
open PySem PySem.Spec PyProof.Rows
structure Room(k:Nat)(A:Around):Prop where
 dp:A.depth + 3 * k + 5 < recursionLimit
 un:A.units + 16 * k + 200 < cLine
theorem Room.mono{j k:Nat}{A:Around}(r:Room k A)(h:j≤k):Room j A:=⟨by have:=r.dp;omega,by have:=r.un;omega⟩
theorem Room.deeper{k:Nat}{A:Around}(r:Room (k + 1) A)(env:Env):Room k (A.deeper env):=
 ⟨by have:=r.dp;show A.depth + 1 + 3 * k + 5 < _;omega,by have:=r.un;show A.units + 3 + 16 * k + 200 < _;omega⟩
theorem Room.in1{k:Nat}{A:Around}(r:Room (k + 1) A):Room k A.in1:=
 ⟨by have:=r.dp;show A.depth + 3 * k + 5 < _;omega,by have:=r.un;show A.units + 1 + 16 * k + 200 < _;omega⟩
theorem U2{A:Around}{C:Addr}{us:List Value}{kw:List (Str×Value)}:(A.under (.builtin "type.__call__" ⟨.ref C :: us,kw⟩)).depth=A.depth + 1:=by
 first | rfl | simp[Around.under,Code.weight,Code.isCreation,Code.isGuard,Code.isCaller,Code.frames,Code.isFrame,guardIds]
theorem U1{A:Around}{C:Addr}{us:List Value}{kw:List (Str×Value)}:(A.under (.builtin "type.__call__" ⟨.ref C :: us,kw⟩)).units=A.units + 1:=by
 first | rfl | simp[Around.under,Code.cUnits,Code.frames,Code.isFrame]
theorem Room.make{k:Nat}{A:Around}(r:Room (k + 1) A)(C:Addr)(us:List Value)(kw:List (Str×Value)):Room k (A.under (.builtin "type.__call__" ⟨.ref C :: us,kw⟩)):=
 ⟨by have:=r.dp;rw[U2];omega,by have:=r.un;rw[U1];omega⟩
theorem Room.depth{k:Nat}{A:Around}(r:Room k A):A.depth < recursionLimit:=by have:=r.dp;omega
theorem Room.units{k:Nat}{A:Around}(r:Room k A):A.units + 64 < cLine:=by have:=r.un;omega
theorem Room.units0{k:Nat}{A:Around}(r:Room k A):A.units < cLine:=by have:=r.un;omega
def SS:TA:=fun _ H Q=>Q [] H
def SV(ta:TE)(tr:TA):TA:=fun σ H Q=>ta σ H fun x H1=>tr σ H1 fun xs H2=>Q (x :: xs) H2
section
variable{X:Cx}{e:Expr}{es:List Expr}{te:TE}{t:TA}{pos:Pos}
theorem IE:PA X [] SS:=fun _ _ _ _ H Q I h=>aCg ⟨[],H,I,.nil,h⟩
theorem HU(ha:PE X e te)(hr:PA X es t)(hs:starEach (e :: es) X.env=(false,eval e X.env) :: starEach es X.env:=by rfl):PA X (e :: es) (SV te t):=by
 intro pos pins s σ H Q I h
 rw[hs]
 show wpAny _ _ (spliced ((false,eval e X.env) :: backTo pos (starEach es X.env))) _ _ s
 refine aBP (Ix (ha pins s σ H _ I h) fun u s1 ⟨x,H1,I1,r1,q1⟩=>?_)
 exact Ix (hr pos pins s1 σ H1 _ I1 q1) fun us s2 ⟨xs,H2,I2,r2,q2⟩=>⟨x :: xs,H2,I2,.cons r1 r2,q2⟩
def abC(t:TA):TE:=fun σ H Q=>t σ H fun xs H1=>xs.length≤sizeLine∧∀p,H1 p=none→Q (.ref p) (Hq H1 p (.tup xs))
def abH(t:TA):TE:=fun σ H Q=>t σ H fun xs H1=>xs.length≤sizeLine∧∀p,H1 p=none→Q (.ref p) (Hq H1 p (.lst xs))
theorem aaY{x1}(h:PA X es t):PE X (.Tuple es x1 pos) (abC t):=by
 intro pins s σ H Q I hq
 refine wpAny_Tuple_spliced (Ix (h pos pins s σ H _ I hq) fun us s1 ⟨xs,H1,I1,r,z,q⟩=>⟨by rw[←r.length];exact z,?_⟩)
 have hf:H1 s1.heap.objs.size=none:=I1.hok.fresh (aAh _)
 refine ⟨.ref s1.heap.objs.size,Hq H1 s1.heap.objs.size (.tup xs),I1.laid (t':=s1.toks) (fun b u e=>aAe _ e) (aAh _) ?_,rfl,q _ hf⟩
 exact ⟨z,us,r,⟨_,aAo _ rfl,rfl,_,rfl⟩⟩
theorem aaZ(h:PA X es t):PE X (.List es pos) (abH t):=by
 intro pins s σ H Q I hq
 refine wpAny_List_spliced (Ix (h pos pins s σ H _ I hq) fun us s1 ⟨xs,H1,I1,r,z,q⟩=>⟨by rw[←r.length];exact z,?_⟩)
 have hf:H1 s1.heap.objs.size=none:=I1.hok.fresh (aAh _)
 refine ⟨.ref s1.heap.objs.size,Hq H1 s1.heap.objs.size (.lst xs),I1.laid (t':=s1.toks) (fun b u e=>aAe _ e) (aAh _) ?_,rfl,q _ hf⟩
 exact ⟨z,us,0,r,aAo _ rfl⟩
end
abbrev Sp:=List V→Hp→VK→XK→Prop
abbrev RF:=List Env→Hp→Shared→XK→Value→Shared→Prop
structure Env0(P:Program)(w:World)(K:W.Frag)(mg:Str→Option Value)(base:Heap)(A:Around)(outer:List Env)(s:Shared)(H:Hp):Prop where
 frames:A.frames=some outer
 mod:Mod K mg base
 bs:∀b o,base.get? b=some o→s.heap.get? b=some o∧H b=none
 bsz:base.objs.size≤s.heap.objs.size
 funs:s.heap.FunFrames base outer
 frf:∀b∈OP outer,H b=none
 hok:HOk P w H s.heap
 bare:AllBare s.gens
 held:HeldO A.handled fun a o=>s.heap.get? a=some o∧H a=none∧a∉OP outer
def CE(outer:List Env)(P:Program)(w:World)(H:Hp)(s:Shared)(Q:VK)(u:Value)(s':Shared):Prop:=
 ∃v H',s'.os=s.os∧AllBare s'.gens∧Un (OP outer) [] H H' s.heap s'.heap∧HOk P w H' s'.heap∧RelV v u∧Q v H'
def CR(CX:RF)(outer:List Env)(P:Program)(w:World)(H:Hp)(s:Shared)(Q:VK)(E:XK)(r:Result)(s':Shared):Prop:=
 match r with
 | .ok (.ret u)=>CE outer P w H s Q u s'
 | .ok _=>False
 | .error e=>CX outer H s E e s'
def Nev(E:XK):Prop:=∀(c:Value) (e:Option Addr) (H':Hp),¬E c e H'
structure FnOk(P:Program)(w:World)(K:W.Frag)(mg:Str→Option Value)(base:Heap)(CX:RF)(k:Nat)(f:Addr)(fd:FuncData)(ps:List Str)(sp:Sp):Prop where
 len:∀vs H Q E,sp vs H Q E→vs.length=ps.length
 run:∀(A:Around) (outer:List Env) (s:Shared) (H:Hp) (args:Args) (us:List Value) (vs:List V) (Q:VK) (E:XK),Room k A→(A.handled≠none→Nev E)→Env0 P w K mg base A outer s H→BindsTo s fd args (ps.zip us)→Vals vs us→sp vs H Q E→
  codeAny (model P w) A (.call (.ref f) args) (CR CX outer P w H s Q E) s
structure FnOkS(P:Program)(w:World)(K:W.Frag)(mg:Str→Option Value)(base:Heap)(CX:RF)(k:Nat)(f:Addr)(fd:FuncData)(ps:List Str)(sp:Sp):Prop where
 len:∀vs H Q E,sp vs H Q E→vs.length=ps.length
 run:∀(A:Around) (outer:List Env) (s:Shared) (H:Hp) (args:Args) (us:List Value) (vs:List V) (Q:VK) (E:XK),A.handled=none→Room k A→Env0 P w K mg base A outer s H→BindsTo s fd args (ps.zip us)→Vals vs us→sp vs H Q E→
  codeAny (model P w) A (.call (.ref f) args) (CR CX outer P w H s Q E) s
theorem FnOk.mono{P:Program}{w:World}{K:W.Frag}{mg:Str→Option Value}{base:Heap}{CX:RF}{j k:Nat}{f:Addr}{fd:FuncData}{ps:List Str}{sp:Sp}(F:FnOk P w K mg base CX j f fd ps sp)(h:j≤k) :
 FnOk P w K mg base CX k f fd ps sp:=⟨F.len,fun A outer s H args us vs Q E hr=>F.run A outer s H args us vs Q E (hr.mono h)⟩
theorem FnOk.imp{P:Program}{w:World}{K:W.Frag}{mg:Str→Option Value}{base:Heap}{CX:RF}{k:Nat}{f:Addr}{fd:FuncData}{ps:List Str}{sp sp':Sp}(F:FnOk P w K mg base CX k f fd ps sp)
 (h:∀vs H Q E,sp' vs H Q E→sp vs H Q E):FnOk P w K mg base CX k f fd ps sp':=
 ⟨fun vs H Q E q=>F.len vs H Q E (h _ _ _ _ q),fun A outer s H args us vs Q E hr hz he hb hv hs=>F.run A outer s H args us vs Q E hr hz he hb hv (h _ _ _ _ hs)⟩
theorem Nj{A:Around}{C:Addr}{us:List Value}{kw:List (Str×Value)}:(A.under (.builtin "type.__call__" ⟨.ref C :: us,kw⟩)).handled=A.handled:=by
 first | rfl | simp[Around.under]
theorem Env0.make{P:Program}{w:World}{K:W.Frag}{mg:Str→Option Value}{base:Heap}{A:Around}{outer:List Env}{s:Shared}{H:Hp}(e:Env0 P w K mg base A outer s H)(C:Addr)(us:List Value)(kw:List (Str×Value)) :
 Env0 P w K mg base (A.under (.builtin "type.__call__" ⟨.ref C :: us,kw⟩)) outer s H:=⟨by first | exact e.frames | (simpa [Around.under,Code.envs,Code.isFrame,pushEnvs] using e.frames),e.mod,e.bs,e.bsz,e.funs,e.frf,e.hok,e.bare,by rw[Nj];exact e.held⟩
theorem Env0.in1{P:Program}{w:World}{K:W.Frag}{mg:Str→Option Value}{base:Heap}{A:Around}{outer:List Env}{s:Shared}{H:Hp}(e:Env0 P w K mg base A outer s H) :
 Env0 P w K mg base A.in1 outer s H:=⟨e.frames,e.mod,e.bs,e.bsz,e.funs,e.frf,e.hok,e.bare,e.held⟩
section
variable{X:Cx}{pins:List (Addr×Obj)}{σ:St}{H:Hp}{s s':Shared}
theorem Inv.env0(I:Inv X pins σ H s):Env0 X.prog X.w X.K X.mg X.base X.A X.stack s H:=
 ⟨I.ok.frames,I.ok.mod,I.bs,aBh I.ok.bsz I.sz,I.stack,I.stkFree,I.hok,I.bare,I.heldO⟩
theorem Inv.after{Q:VK}{u:Value}(I:Inv X pins σ H s)(h:CE X.stack X.prog X.w H s Q u s'):EP X pins σ Q u s':=by
 obtain⟨v,H',os,bare,un,hok,r,q⟩:=h
 obtain⟨hh,g,d,t,os'⟩:=s'
 obtain rfl:os'=s.os:=os
 exact ⟨v,H',I.call (h':=hh) (g':=g) (d':=d) (t':=t) (ch:=[]) un hok bare (fun b z=>absurd z (by simp)),r,q⟩
end
def SW(sp:Sp)(dvs:List V)(E:XK)(t:TA):TE:=fun σ H Q=>t σ H fun vs H1=>sp (vs ++ dvs) H1 Q E
def Q7(C:Addr)(m:Str)(sp:Sp)(dvs:List V)(E:XK)(ta:TE)(t:TA):TE:=fun σ H Q=>ta σ H fun x H1=>∃a dx fs,x=.ref a∧H1 a=some (.ins C dx fs)∧fs.lookup m=none∧
 t σ H1 fun vs H2=>sp (x :: (vs ++ dvs)) H2 Q E
def Vz(C:Addr)(sp:Sp)(dvs:List V)(E:XK)(t:TA):TE:=fun σ H Q=>t σ H fun vs H1=>∀x dx,H1 x=none→H1 dx=none→dx≠x→
 sp (.ref x :: (vs ++ dvs)) (Hq (Hq H1 dx (.own x)) x (.ins C dx [])) (fun v H2=>v=.non∧Q (.ref x) H2) E
def Binds(K:W.Frag)(fd:FuncData)(ps:List Str)(ds:List Value):Prop:=
 ∀(s:Shared) (us:List Value),K.In s.heap→(us ++ ds).length=ps.length→BindsTo s fd ⟨us,[]⟩ (ps.zip (us ++ ds))
theorem Binds.all{K:W.Frag}{fd:FuncData}{ps:List Str}(h:∀us:List Value,us.length=ps.length→bindArgs fd ⟨us,[]⟩=pure (ps.zip us)):Binds K fd ps []:=fun s us _ hl=>by
 rw[aBl] at hl ⊢
 exact .of_eq (h us hl)
def La(CX:RF)(X:Cx)(E:XK):Prop:=(∀(pins:List (Addr×Obj)) (σ:St) (H:Hp) (s:Shared),Inv X pins σ H s→X.A.handled≠none→Nev E)∧∀(pins:List (Addr×Obj)) (σ:St) (H:Hp) (s:Shared) (e:Value) (s':Shared),Inv X pins σ H s→CX X.stack H s E e s'→X.xe e s'
section
variable{X:Cx}{CX:RF}{k:Nat}{f C:Addr}{fd:FuncData}{ps:List Str}{sp:Sp}{dvs:List V}{ds:List Value}{E:XK}{x m:Str}{p pos apos:Pos}{e o:Expr}{es:List Expr}{ta:TE}{t:TA}
theorem R5{pins:List (Addr×Obj)}{σ:St}{H:Hp}{s:Shared}{Q:VK}{us:List Value}{vs:List V}(F:FnOk X.prog X.w X.K X.mg X.base CX k f fd ps sp)(hr:Room k X.A)(hb:Binds X.K fd ps ds)(hd:Vals dvs ds)(hx:La CX X E)
 (I:Inv X pins σ H s)(r:Vals vs us)(h:sp (vs ++ dvs) H Q E):wpAny (model X.prog X.w) X.A (call (.ref f) us) (EP X pins σ Q) X.xe s:=by
 have r2:Vals (vs ++ dvs) (us ++ ds):=r.append hd
 have hl:(us ++ ds).length=ps.length:=by rw[←r2.length];exact F.len _ _ _ _ h
 refine aDf (aBU (F.run X.A X.stack s H ⟨us,[]⟩ (us ++ ds) (vs ++ dvs) Q E hr (hx.1 pins σ H s I) I.env0 (hb s us I.kIn hl) r2 h) fun r s' hq=>?_)
 cases r with
 | error e=>exact hx.2 pins σ H s e s' I hq
 | ok fl=>
   cases fl with
   | ret u=>exact I.after hq
   | next=>exact False.elim hq
   | brk=>exact False.elim hq
   | cont=>exact False.elim hq
theorem ZD(F:FnOk X.prog X.w X.K X.mg X.base CX k f fd ps sp)(hr:Room k X.A)(hg:Gl X x)(hm:X.mg x=some (.ref f))(hk:W.keepIn X.K (.ref f)=true)(hb:Binds X.K fd ps ds)(hd:Vals dvs ds)(hx:La CX X E)
 (ha:PA X (e :: es) t)(hdb:(x == ("__debug__" : Str))=false:=by decide)(he:starEach (e :: es) X.env=(false,eval e X.env) :: starEach es X.env:=by rfl)(hpl:(backTo pos (starEach es X.env)).any (·.1)=false:=by rfl) :
 PE X (.Call (.Name x p) (e :: es) [] pos) (SW sp dvs E t):=by
 intro pins s σ H Q I h
 refine aBi (Kv I hg hm ?_ hdb)
 refine aBQ (h₀:=X.base) I.ok.mod.kin hk (Ix (ha pos pins s σ H _ I h) fun us s1 ⟨vs,H1,I1,r,q⟩=>⟨I1.kIn,?_⟩) he hpl
 exact R5 F hr hb hd hx I1 r q
theorem VP{pl:Sem Bool}(he:PE X o ta)(c:Cls X.K C)(hm:Meth X.K C m f)(F:FnOk X.prog X.w X.K X.mg X.base CX k f fd ps sp)(hr:Room k X.A)(hb:Binds X.K fd ps ds)(hd:Vals dvs ds)(hx:La CX X E)(ha:PA X (e :: es) t)
 (hst:starEach (e :: es) X.env=(false,eval e X.env) :: starEach es X.env:=by rfl)(hpl:(backTo pos (starEach es X.env)).any (·.1)=false:=by rfl)
 (ht:eval (.Call (.Attribute o m apos) (e :: es) [] pos) X.env=(do
  let ov ←eval o X.env
  standAt apos.atName
  let (f,first) ←holding [ov] (getMethod ov m pl)
  callWith pos f first (backTo pos (starEach (e :: es) X.env)) (backToKw pos (keywordEach [] X.env))):=by rfl) :
 PE X (.Call (.Attribute o m apos) (e :: es) [] pos) (Q7 C m sp dvs E ta t):=by
 intro pins s σ H Q I h
 refine aCe (pl:=pl) (Ix (he pins s σ H _ I h) fun u s1 ⟨x,H1,I1,rx,a,dx,fs,ex,ea,l,q⟩=>?_) ht
 subst ex
 obtain rfl:u=Value.ref a:=rx
 refine MQ I1 ea c hm l ?_
 refine aBQ (first:=[.ref a]) (h₀:=X.base) I.ok.mod.kin hm.kp (Ix (ha pos pins s1 σ H1 _ I1 q) fun us s2 ⟨vs,H2,I2,r,q2⟩=>⟨I2.kIn,?_⟩) hst hpl
 exact R5 (us:=.ref a :: us) (vs:=.ref a :: vs) F hr hb hd hx I2 (.cons rfl r) q2
theorem XQ{pl:Sem Bool}(he:PE X o ta)(c:Cls X.K C)(hm:Meth X.K C m f)(F:FnOk X.prog X.w X.K X.mg X.base CX k f fd ps sp)(hr:Room k X.A)(hb:Binds X.K fd ps ds)(hd:Vals dvs ds)(hx:La CX X E)
 (ht:eval (.Call (.Attribute o m apos) [] [] pos) X.env=(do
  let ov ←eval o X.env
  standAt apos.atName
  let (f,first) ←holding [ov] (getMethod ov m pl)
  callWith pos f first (backTo pos (starEach [] X.env)) (backToKw pos (keywordEach [] X.env))):=by rfl) :
 PE X (.Call (.Attribute o m apos) [] [] pos) (Q7 C m sp dvs E ta SS):=by
 intro pins s σ H Q I h
 refine aCe (pl:=pl) (Ix (he pins s σ H _ I h) fun u s1 ⟨x,H1,I1,rx,a,dx,fs,ex,ea,l,q⟩=>?_) ht
 subst ex
 obtain rfl:u=Value.ref a:=rx
 refine MQ I1 ea c hm l ?_
 exact W.callWith_K0 (first:=[.ref a]) I1.kIn hm.kp (R5 (us:=[.ref a]) (vs:=[.ref a]) F hr hb hd hx I1 (.cons rfl .nil) q)
structure Mk(K:W.Frag)(C f:Addr):Prop where
 makes:W.makesIn K C=true
 init:W.findIn K (.ref C) "__init__" = some (some (.ref f))
 fn:W.isFn K (.ref f)=true
 kp:W.keepIn K (.ref C)=true
theorem Te{pins:List (Addr×Obj)}{σ:St}{H:Hp}{s:Shared}{Q:VK}{us:List Value}{vs:List V}(M:Mk X.K C f)(F:FnOk X.prog X.w X.K X.mg X.base CX k f fd ps sp)(hr:Room (k + 1) X.A)(hb:Binds X.K fd ps ds)(hd:Vals dvs ds)
 (hx:La CX X E)(I:Inv X pins σ H s)(r:Vals vs us)
 (h:∀x dx,H x=none→H dx=none→dx≠x→sp (.ref x :: (vs ++ dvs)) (Hq (Hq H dx (.own x)) x (.ins C dx [])) (fun v H2=>v=.non∧Q (.ref x) H2) E) :
 wpAny (model X.prog X.w) X.A (call (.ref C) us) (EP X pins σ Q) X.xe s:=by
 have hq:=h (s.heap.objs.size + 1) s.heap.objs.size (I.hok.fresh (Nat.le_succ _)) (I.hok.fresh (aAh _)) (aAB (aBN _))
 have I2:=Inv.made (C:=C) I
 have r2:Vals (V.ref (s.heap.objs.size + 1) :: (vs ++ dvs)) (Value.ref (s.heap.objs.size + 1) :: (us ++ ds)):=.cons rfl (r.append hd)
 have hl:(Value.ref (s.heap.objs.size + 1) :: us ++ ds).length=ps.length:=by
  have e:=r2.length
  rw[F.len _ _ _ _ hq] at e
  exact e.symm
 refine aDf (Ym (f:=f) I.kIn M.makes M.init (aB8.mp M.fn) (aBU (F.run _ X.stack _ _ ⟨Value.ref (s.heap.objs.size + 1) :: us,[]⟩ (Value.ref (s.heap.objs.size + 1) :: (us ++ ds)) _ _ E (hr.make C us []) (by rw[Nj];exact hx.1 pins σ H s I)
  (I2.env0.make C us []) (hb _ (Value.ref (s.heap.objs.size + 1) :: us) I2.kIn hl) r2 hq) fun r s' hq'=>?_))
 cases r with
 | error e=>exact hx.2 pins σ _ _ e s' I2 hq'
 | ok fl=>
   cases fl with
   | ret u=>
     obtain⟨v,H',I3,rv,ev,q3⟩:=I2.after hq'
     subst ev
     exact ⟨rv,⟨V.ref (s.heap.objs.size + 1),H',I3,rfl,q3⟩⟩
   | next=>exact False.elim hq'
   | brk=>exact False.elim hq'
   | cont=>exact False.elim hq'
theorem ZA(M:Mk X.K C f)(F:FnOk X.prog X.w X.K X.mg X.base CX k f fd ps sp)(hr:Room (k + 1) X.A)(hg:Gl X x)(hm:X.mg x=some (.ref C))(hb:Binds X.K fd ps ds)(hd:Vals dvs ds)(hx:La CX X E)
 (ha:PA X (e :: es) t)(hdb:(x == ("__debug__" : Str))=false:=by decide)(he:starEach (e :: es) X.env=(false,eval e X.env) :: starEach es X.env:=by rfl)(hpl:(backTo pos (starEach es X.env)).any (·.1)=false:=by rfl) :
 PE X (.Call (.Name x p) (e :: es) [] pos) (Vz C sp dvs E t):=by
 intro pins s σ H Q I h
 refine aBi (Kv I hg hm ?_ hdb)
 refine aBQ (h₀:=X.base) I.ok.mod.kin M.kp (Ix (ha pos pins s σ H _ I h) fun us s1 ⟨vs,H1,I1,r,q⟩=>⟨I1.kIn,?_⟩) he hpl
 exact Te M F hr hb hd hx I1 r q
theorem XS(M:Mk X.K C f)(F:FnOk X.prog X.w X.K X.mg X.base CX k f fd ps sp)(hr:Room (k + 1) X.A)(hg:Gl X x)(hm:X.mg x=some (.ref C))(hb:Binds X.K fd ps ds)(hd:Vals dvs ds)(hx:La CX X E)
 (hdb:(x == ("__debug__" : Str))=false:=by decide):PE X (.Call (.Name x p) [] [] pos) (Vz C sp dvs E SS):=by
 intro pins s σ H Q I h
 refine aBi (Kv I hg hm ?_ hdb)
 exact W.callWith_K0 I.kIn M.kp (Te (us:=[]) M F hr hb hd hx I .nil h)
end
def PK(X:Cx)(kws:List Keyword)(t:TA):Prop:=
 ∀(pos:Pos) (pins:List (Addr×Obj)) (s:Shared) (σ:St) (H:Hp) (Q:List V→Hp→Prop),Inv X pins σ H s→t σ H Q→wpAny (model X.prog X.w) X.A (evalAll ((backToKw pos (keywordEach kws X.env)).map (·.2))) (AP X pins σ Q) X.xe s
section
variable{X:Cx}{CX:RF}{k:Nat}{f C:Addr}{fd:FuncData}{ps ks:List Str}{sp:Sp}{E:XK}{x m:Str}{p pos apos kpos:Pos}{e o:Expr}{es:List Expr}{kws:List Keyword}{te ta:TE}{t tk:TA}{nm:Option Str}
theorem XL:PK X [] SS:=fun _ _ _ _ H Q I h=>wpAny_evalAll_nil ⟨[],H,I,.nil,h⟩
theorem VN(ha:PE X e te)(hr:PK X kws t):PK X (⟨nm,e,kpos⟩ :: kws) (SV te t):=by
 intro pos pins s σ H Q I h
 show wpAny _ _ (evalAll ((do let v ←eval e X.env;standAt pos;pure v) :: (backToKw pos (keywordEach kws X.env)).map (·.2))) _ _ s
 refine wpAny_evalAll_cons (aAb (Ix (ha pins s σ H _ I h) fun u s1 ⟨x,H1,I1,r1,q1⟩=>aAb (aCL (aAm ?_))))
 exact Ix (hr pos pins s1 σ H1 _ I1 q1) fun us s2 ⟨xs,H2,I2,r2,q2⟩=>⟨x :: xs,H2,I2,.cons r1 r2,q2⟩
variable{g:List Value→List Value→List Value}{gV:List V→List V→List V}
end
structure FnScope(N P:List Str)(sc:Scope):Prop where
 kind:sc.kind=.function
 co:sc.isCoroutine=false
 gen:sc.isGenerator=false
 nd:N.Nodup
 pre:N.take P.length=P
 par:∀x∈P,sc.names.lookup x=some .local∨sc.names.lookup x=some .cell
 nofree:∀y∈sc.names,y.2≠.free
theorem RB{kindOf:Str→Option NameKind}{x:Str}:∀{binds:List (Str×Value)} {m:Str→Option Value},(∀v,(x,v)∉binds)→bindL kindOf binds m x=m x
 | [],_,_=>rfl
 | (n,v) :: r,m,h=>by
   unfold bindL
   rw[RB fun w hw=>h w (aAq _ hw)]
   split
   · have:x≠n:=by rintro rfl;exact h v aAp
     simp[this]
   · rfl
theorem RD{kindOf:Str→Option NameKind}{x:Str}:∀{binds:List (Str×Value)} {m:Str→Option Value},(∀v,(x,v)∉binds)→bindC kindOf binds m x=m x
 | [],_,_=>rfl
 | (n,v) :: r,m,h=>by
   unfold bindC
   rw[RD fun w hw=>h w (aAq _ hw)]
   split
   · rfl
   · have:x≠n:=by rintro rfl;exact h v aAp
     simp[this]
theorem RC{kindOf:Str→Option NameKind}{x:Str}{v:Value}:∀{P:List Str} {vs:List Value} {i:Nat} {m:Str→Option Value},P.Nodup→P[i]?=some x→vs[i]?=some v→kindOf x=some .local→
 bindL kindOf (P.zip vs) m x=some v
 | [],_,_,_,_,h,_,_=>by simp at h
 | _ :: _,[],_,_,_,_,h,_=>by simp at h
 | p :: P,w :: vs,0,m,nd,h1,h2,hk=>by
   simp at h1 h2;subst h1;subst h2
   show bindL kindOf ((p,w) :: P.zip vs) m p=_
   unfold bindL
   rw[RB fun v hv=>(aBb.mp nd).1 (aCu hv).1,aAE hk]
   simp
 | p :: P,w :: vs,i + 1,m,nd,h1,h2,hk=>by
   show bindL kindOf ((p,w) :: P.zip vs) m x=_
   unfold bindL
   exact RC (i:=i) (aBb.mp nd).2 (by simpa using h1) (by simpa using h2) hk
theorem RE{kindOf:Str→Option NameKind}{x:Str}{v:Value}:∀{P:List Str} {vs:List Value} {i:Nat} {m:Str→Option Value},P.Nodup→P[i]?=some x→vs[i]?=some v→kindOf x≠some .local→
 bindC kindOf (P.zip vs) m x=some v
 | [],_,_,_,_,h,_,_=>by simp at h
 | _ :: _,[],_,_,_,_,h,_=>by simp at h
 | p :: P,w :: vs,0,m,nd,h1,h2,hk=>by
   simp at h1 h2;subst h1;subst h2
   show bindC kindOf ((p,w) :: P.zip vs) m p=_
   unfold bindC
   rw[RD fun v hv=>(aBb.mp nd).1 (aCu hv).1,aAz hk]
   simp
 | p :: P,w :: vs,i + 1,m,nd,h1,h2,hk=>by
   show bindC kindOf ((p,w) :: P.zip vs) m x=_
   unfold bindC
   exact RE (i:=i) (aBb.mp nd).2 (by simpa using h1) (by simpa using h2) hk
def start(N:List Str)(vs:List V):St:=vs.map some ++ List.replicate (N.length - vs.length) none
def LW(CX:RF)(P:Program)(w:World)(K:W.Frag)(mg:Str→Option Value)(base:Heap)(N:List Str)(qual:Str)(scope:Scope)(f:Addr)(cd:Value)(A:Around)(outer:List Env)(s:Shared)(H:Hp)(E:XK):Cx where
 prog:=P
 w:=w
 K:=K
 mg:=mg
 base:=base
 A:=A.deeper (envOfC qual scope s.heap.objs.size f cd)
 N:=N
 s₀:=s
 H₀:=H
 env:=envOfC qual scope s.heap.objs.size f cd
 outer:=outer
 stack:=envOfC qual scope s.heap.objs.size f cd :: outer
 ex:=[]
 calm:=false
 nv:=Nev E
 fn:=fun _=>true
 pn:=[]
 xe:=fun e s'=>wpAny (model P w) (A.deeper (envOfC qual scope s.heap.objs.size f cd)) (leaving (envOfC qual scope s.heap.objs.size f cd) e) (fun _ s''=>CX outer H s E e s'') (fun e' s''=>CX outer H s E e' s'') s'
theorem Ua{sc:Scope}{n:Nat}{x:Str}(h:sc.names.lookup x=some .cell):∃c,(cellsFrom n sc.names []).lookup x=some c:=by
 have q:=aCE sc.names n [] (.inl h)
 exact Option.isSome_iff_exists.mp q
theorem Ru{CX:RF}{P:Program}{w:World}{K:W.Frag}{mg:Str→Option Value}{base:Heap}{N ps:List Str}{qual:Str}{scope:Scope}{f:Addr}{cd:Value}{A:Around}{outer:List Env}{s s1:Shared}{H:Hp}{E:XK}{us:List Value}{vs:List V}
 (S:FnScope N ps scope)(hz:A.handled≠none→Nev E)(e0:Env0 P w K mg base A outer s H)(hl:vs.length=ps.length)(r:Vals vs us)
 (x:InCallC s s.heap.objs.size (bindL (envOfC qual scope s.heap.objs.size f cd).kindOf (ps.zip us) fun _=>none) (cellsFrom (s.heap.objs.size + 1) scope.names []) (bindC (envOfC qual scope s.heap.objs.size f cd).kindOf (ps.zip us) fun _=>none) s1) :
 Inv (LW CX P w K mg base N qual scope f cd A outer s H E) [] (start N vs) H s1:=by
 have hpl:ps.length≤N.length:=by have:=aA2 List.length S.pre;rw[aAM] at this;omega
 obtain⟨h1,tk,rfl,hk⟩:=x.done
 have noA:∀b:Addr,b∉(LW CX P w K mg base N qual scope f cd A outer s H E).ex:=fun b z=>absurd (show b∈([]:List Addr) from z) (by simp)
 refine ⟨⟨e0.mod,S.kind,rfl,rfl,aAh _,fun y z c h1 h2=>?_,fun y hy=>?_,fun y c _ h=>?_,(fun z=>by cases z),Around.frames_deeper e0.frames,.inr ⟨rfl,rfl⟩,fun b z=>absurd z (noA b),e0.bs,e0.bsz,fun b _ _=>noA b,fun b z=>absurd z (noA b),e0.funs,e0.frf,e0.held.imp fun a o _ _ _ g=>.inl ⟨g.1,g.2.1,g.2.2,noA a⟩,hz⟩,
  rfl,e0.bare,Un.kept hk,⟨_,x.toInCall.ns,fun i y v h1 h2 h3=>?_⟩,fun y c h=>⟨_,x.cell y c h⟩,e0.hok.fresh (aAh _),fun y c h=>?_,fun p hp=>absurd (show p∈([]:List (Addr×Obj)) from hp) (by simp),e0.hok.kept hk,?_⟩
 · exact name_of_addr x.apart (aB0 h1) (aB0 h2)
 · have hy:scope.names.lookup y=some .cell∨scope.names.lookup y=some .free:=hy
   rcases hy with hy | hy
   · exact Ua hy
   · exact absurd rfl (S.nofree _ (aB0 hy))
 · exact aCC (x.above y c (aB0 h))
 · have hi:i < vs.length:=by
    unfold start at h2
    by_cases hi:i < vs.length
    · exact hi
    · rw[aCj (by simpa using hi)] at h2
      rw[List.getElem?_replicate] at h2
      split at h2 <;> cases h2
   have ha:vs[i]?=some v:=by
    unfold start at h2
    rw[aCl (by simpa using hi),aAH] at h2
    cases e:vs[i]? with
    | none=>rw[e] at h2;cases h2
    | some a=>rw[e] at h2;cases h2;rfl
   obtain⟨u,hu,rv⟩:=r.get ha
   have hp:ps[i]?=some y:=by
    rw[←S.pre,List.getElem?_take_of_lt (by omega)];exact h1
   have ndP:ps.Nodup:=by rw[←S.pre];exact S.nd.sublist (List.take_sublist _ _)
   refine ⟨u,rv,?_⟩
   rcases S.par y (aBr hp) with k | k
   · exact .inl ⟨k,RC ndP hp hu k⟩
   · obtain⟨c,e⟩:=Ua (n:=s.heap.objs.size + 1) k
     refine .inr ⟨.inl k,c,e,?_⟩
     have q:=x.cell y c e
     rw[RE ndP hp hu (by show scope.names.lookup y≠_;rw[k];decide)] at q
     exact q
 · exact e0.hok.fresh (aCC (x.above y c (aB0 h)))
 · unfold start
   show _=N.length
   rw[aAk,aAf,List.length_replicate]
   omega
theorem aaz{CX:RF}{P:Program}{w:World}{K:W.Frag}{mg:Str→Option Value}{base:Heap}{k:Nat}{f:Addr}{name qual:Str}{params:Arguments}{body:List Stmt}{scope:Scope}{dV kV doc pm cdv ct oc:Value}{an od:Option Addr}
 {osl:Array (Option Value)}{N ps:List Str}{sp:Sp}(lk:K.lookup f=some ⟨oc,od,.func (W.fnOf name qual params body scope dV kV doc pm an cdv ct),osl⟩)(hcd:W.codeIn K cdv qual=true)(S:FnScope N ps scope)
 (len:∀vs H Q E,sp vs H Q E→vs.length=ps.length)
 (hbody:∀(A:Around) (outer:List Env) (s:Shared) (H:Hp) (vs:List V) (Q:VK) (E:XK),Room k (A.deeper (envOfC qual scope s.heap.objs.size f cdv))→sp vs H Q E→
  ∃t,PSs (LW CX P w K mg base N qual scope f cdv A outer s H E) body t∧t { nx:=fun _ H'=>Q .non H',rt:=Q } (start N vs) H) :
 FnOk P w K mg base CX (k + 1) f (W.fnOf name qual params body scope dV kV doc pm an cdv ct) ps sp:=by
 refine ⟨len,fun A outer s H args us vs Q E hr hz e0 hb r hsp=>?_⟩
 have hl:=len _ _ _ _ hsp
 have KX:K.In s.heap:=e0.mod.kin.keeps fun b o e=>(e0.bs b o e).1
 have lim:s.heap.NoLimit:=e0.mod.nolimit.keeps fun b o e=>(e0.bs b o e).1
 have hkind:∀y∈ps.zip us,scope.names.lookup y.1=some .local∨(scope.names.lookup y.1=some .cell∧((cellsFrom (s.heap.objs.size + 1) scope.names []).lookup y.1).isSome=true):=fun ⟨n,v⟩ hy=>by
  rcases S.par n (aCu hy).1 with q | q
  · exact .inl q
  · exact .inr ⟨q,aCE _ _ _ (.inl q)⟩
 refine codeAny_call_function hr.depth (KX _ _ lk) rfl S.co S.gen rfl (W.codeRec_of KX hcd) (hb _ _ _ _ ?_)
 refine wpAny_newFunctionEnv_cells S.kind hkind fun env he s1 x=>?_
 subst he
 refine ⟨lim.keeps x.toInCall.keep,codeAny_func ?_⟩
 obtain⟨t,ht,hq⟩:=hbody A outer s H vs Q E (hr.deeper _) hsp
 have I:Inv (LW CX P w K mg base N qual scope f cdv A outer s H E) [] (start N vs) H s1:=Ru S hz e0 hl r x
 refine aA9 (ht [] s1 (start N vs) H _ I hq) (fun fl s' hs=>?_) fun e s' hs=>hs
 have fin:∀{σ':St} {H':Hp} {v:V} {u:Value},Inv (LW CX P w K mg base N qual scope f cdv A outer s H E) [] σ' H' s'→RelV v u→Q v H'→CE outer P w H s Q u s':=
  fun {σ' H' v u} J rv q=>⟨v,H',J.os,J.bare,J.base,J.hok,rv,q⟩
 cases fl with
 | ret u=>
   obtain⟨v,σ',H',J,rv,q⟩:=hs
   exact fin J rv q
 | next=>
   obtain⟨σ',H',J,q⟩:=hs
   exact fin (v:=V.non) (u:=Value.none) J rfl q
 | brk=>
   obtain⟨_,_,_,q⟩:=hs
   exact False.elim q
 | cont=>
   obtain⟨_,_,_,q⟩:=hs
   exact False.elim q
abbrev T8(CX:RF)(P:Program)(w:World)(K:W.Frag)(mg:Str→Option Value)(base:Heap)(N:List Str)(qual:Str)(scope:Scope)(f:Addr)(cd:Value)(A:Around)(outer:List Env)(s:Shared)(H:Hp)(E:XK):Cx:=
 { LW CX P w K mg base N qual scope f cd A outer s H E with calm:=true }
theorem U7{CX:RF}{P:Program}{w:World}{K:W.Frag}{mg:Str→Option Value}{base:Heap}{N ps:List Str}{qual:Str}{scope:Scope}{f:Addr}{cd:Value}{A:Around}{outer:List Env}{s s1:Shared}{H:Hp}{E:XK}{us:List Value}{vs:List V}
 (S:FnScope N ps scope)(hd:A.handled=none)(e0:Env0 P w K mg base A outer s H)(hl:vs.length=ps.length)(r:Vals vs us)
 (x:InCallC s s.heap.objs.size (bindL (envOfC qual scope s.heap.objs.size f cd).kindOf (ps.zip us) fun _=>none) (cellsFrom (s.heap.objs.size + 1) scope.names []) (bindC (envOfC qual scope s.heap.objs.size f cd).kindOf (ps.zip us) fun _=>none) s1) :
 Inv (T8 CX P w K mg base N qual scope f cd A outer s H E) [] (start N vs) H s1:=by
 have I:=Ru (CX:=CX) (N:=N) (qual:=qual) (scope:=scope) (f:=f) (cd:=cd) (A:=A) (outer:=outer) (E:=E) S (fun z=>absurd hd z) e0 hl r x
 exact ⟨⟨I.ok.mod,I.ok.kind,I.ok.glob,I.ok.blt,I.ok.above,I.ok.inj,I.ok.has,I.ok.cab,(fun _=>hd),I.ok.frames,I.ok.stk,I.ok.exf,I.ok.bs,I.ok.bsz,I.ok.noex,I.ok.exfs,I.ok.funs,I.ok.frf,I.ok.hld,I.ok.ez⟩,I.os,I.bare,I.base,I.loc,I.cell,I.free,I.freeC,I.pin,I.hok,I.len⟩
theorem abh{CX:RF}{P:Program}{w:World}{K:W.Frag}{mg:Str→Option Value}{base:Heap}{k:Nat}{f:Addr}{name qual:Str}{params:Arguments}{body:List Stmt}{scope:Scope}{dV kV doc pm cdv ct oc:Value}{an od:Option Addr}
 {osl:Array (Option Value)}{N ps:List Str}{sp:Sp}(lk:K.lookup f=some ⟨oc,od,.func (W.fnOf name qual params body scope dV kV doc pm an cdv ct),osl⟩)(hcd:W.codeIn K cdv qual=true)(S:FnScope N ps scope)
 (len:∀vs H Q E,sp vs H Q E→vs.length=ps.length)
 (hbody:∀(A:Around) (outer:List Env) (s:Shared) (H:Hp) (vs:List V) (Q:VK) (E:XK),Room k (A.deeper (envOfC qual scope s.heap.objs.size f cdv))→sp vs H Q E→
  ∃t,PSs (T8 CX P w K mg base N qual scope f cdv A outer s H E) body t∧t { nx:=fun _ H'=>Q .non H',rt:=Q } (start N vs) H) :
 FnOkS P w K mg base CX (k + 1) f (W.fnOf name qual params body scope dV kV doc pm an cdv ct) ps sp:=by
 refine ⟨len,fun A outer s H args us vs Q E hd hr e0 hb r hsp=>?_⟩
 have hl:=len _ _ _ _ hsp
 have KX:K.In s.heap:=e0.mod.kin.keeps fun b o e=>(e0.bs b o e).1
 have lim:s.heap.NoLimit:=e0.mod.nolimit.keeps fun b o e=>(e0.bs b o e).1
 have hkind:∀y∈ps.zip us,scope.names.lookup y.1=some .local∨(scope.names.lookup y.1=some .cell∧((cellsFrom (s.heap.objs.size + 1) scope.names []).lookup y.1).isSome=true):=fun ⟨n,v⟩ hy=>by
  rcases S.par n (aCu hy).1 with q | q
  · exact .inl q
  · exact .inr ⟨q,aCE _ _ _ (.inl q)⟩
 refine codeAny_call_function hr.depth (KX _ _ lk) rfl S.co S.gen rfl (W.codeRec_of KX hcd) (hb _ _ _ _ ?_)
 refine wpAny_newFunctionEnv_cells S.kind hkind fun env he s1 x=>?_
 subst he
 refine ⟨lim.keeps x.toInCall.keep,codeAny_func ?_⟩
 obtain⟨t,ht,hq⟩:=hbody A outer s H vs Q E (hr.deeper _) hsp
 have I:Inv (T8 CX P w K mg base N qual scope f cdv A outer s H E) [] (start N vs) H s1:=U7 S hd e0 hl r x
 refine aA9 (ht [] s1 (start N vs) H _ I hq) (fun fl s' hs=>?_) fun e s' hs=>hs
 have fin:∀{σ':St} {H':Hp} {v:V} {u:Value},Inv (T8 CX P w K mg base N qual scope f cdv A outer s H E) [] σ' H' s'→RelV v u→Q v H'→CE outer P w H s Q u s':=
  fun {σ' H' v u} J rv q=>⟨v,H',J.os,J.bare,J.base,J.hok,rv,q⟩
 cases fl with
 | ret u=>
   obtain⟨v,σ',H',J,rv,q⟩:=hs
   exact fin J rv q
 | next=>
   obtain⟨σ',H',J,q⟩:=hs
   exact fin (v:=V.non) (u:=Value.none) J rfl q
 | brk=>
   obtain⟨_,_,_,q⟩:=hs
   exact False.elim q
 | cont=>
   obtain⟨_,_,_,q⟩:=hs
   exact False.elim q
end L2
namespace L2
open PySem PySem.Spec PyProof.Rows
section
variable{X:Cx}{x:Str}{p pos:Pos}{e:Expr}{es:List Expr}{t:TA}{id T:String}{r:List V→Hp→VK→Prop}
def tCB(r:List V→Hp→VK→Prop)(t:TA):TE:=fun σ H Q=>t σ H fun vs H1=>r vs H1 Q
theorem XU(hc:Kr X (.builtin id) r)(hg:Gl X x)(hm:X.mg x=none)(hv:bootBuiltins x=some (.builtin id))(ha:PA X (e :: es) t)(hn:x≠"__name__":=by decide)(hdb:(x == ("__debug__" : Str))=false:=by decide)
 (he:starEach (e :: es) X.env=(false,eval e X.env) :: starEach es X.env:=by rfl)(hpl:(backTo pos (starEach es X.env)).any (·.1)=false:=by rfl):PE X (.Call (.Name x p) (e :: es) [] pos) (tCB r t):=by
 intro pins s σ H Q I h
 refine aBi (N7 I hg hm hv ?_ hn hdb)
 exact PyProof.Rows.callWith_builtin1 (Ix (ha pos pins s σ H _ I h) fun us s1 ⟨vs,H1,I1,r1,q1⟩=>hc pins s1 σ H1 vs us Q I1 r1 q1) he hpl
theorem Wq(hc:Kr X (.type T) r)(hg:Gl X x)(hm:X.mg x=none)(hv:bootBuiltins x=some (.type T))(ha:PA X (e :: es) t)(hn:x≠"__name__":=by decide)(hdb:(x == ("__debug__" : Str))=false:=by decide)
 (he:starEach (e :: es) X.env=(false,eval e X.env) :: starEach es X.env:=by rfl)(hpl:(backTo pos (starEach es X.env)).any (·.1)=false:=by rfl):PE X (.Call (.Name x p) (e :: es) [] pos) (tCB r t):=by
 intro pins s σ H Q I h
 refine aBi (N7 I hg hm hv ?_ hn hdb)
 exact aCf (Ix (ha pos pins s σ H _ I h) fun us s1 ⟨vs,H1,I1,r1,q1⟩=>hc pins s1 σ H1 vs us Q I1 r1 q1) he hpl
end
end L2
namespace HT
open PySem PyProof.Rows
section
variable{prog:Program}{w:World}{A:Around}{E:Value→Shared→Prop}{s:Shared}
def sIx(n d:Nat):Option Int→Nat
 | none=>d
 | some v=>if v < 0 then (v + (n:Int)).toNat else min v.toNat n
theorem sIx_none(n d:Nat):sIx n d none=d:=rfl
theorem sIx_nat(n d k:Nat):sIx n d (some (k:Int))=min k n:=by
 show (if (k:Int) < 0 then ((k:Int) + (n:Int)).toNat else min (k:Int).toNat n)=min k n
 rw[aAz (by omega),aBn]
end
end HT
namespace L2
open PySem PySem.Spec PyProof.Rows
abbrev TO:=St→Hp→(Option Int→Hp→Prop)→Prop
def PO(X:Cx)(e:Option Expr)(t:TO):Prop:=
 ∀ (pins:List (Addr×Obj)) (s:Shared) (σ:St) (H:Hp) (Q:Option Int→Hp→Prop),Inv X pins σ H s→t σ H Q→
   wpAny (model X.prog X.w) X.A (evalPart e X.env) (fun u s'=>∃o H',Inv X pins σ H' s'∧IsPart u o∧Q o H') X.xe s
def Za:TO:=fun _ H Q=>Q none H
def abF(t:TE):TO:=fun σ H Q=>t σ H fun x H1=>∃i,x=.int i∧Q (some i) H1
theorem U8{ns:List Int}:∀{us:List Value},Vals (ns.map V.int) us→IntsAre us ns:=by
 induction ns with
 | nil=>intro us r;rw[aBV] at r;cases r;exact .nil
 | cons n ns ih=>
   intro us r
   rw[aAr] at r
   cases r with
   | cons r1 r2=>
     obtain⟨t,e⟩:=r1
     subst e
     exact .cons n t (ih r2)
section
variable{X:Cx}{e:Expr}{te:TE}{lo hi:Option Expr}{tl th:TO}{pos p2:Pos}
theorem Mi:PO X none Za:=by
 intro pins s σ H Q I h
 rw[evalPart_none]
 exact aAm ⟨none,H,I,.none,h⟩
theorem Mh(h:PE X e te):PO X (some e) (abF te):=by
 intro pins s σ H Q I hw
 rw[evalPart_some]
 refine Ix (h pins s σ H _ I hw) fun u s1 ⟨x,H1,I1,r1,q1⟩=>?_
 obtain⟨i,rfl,q⟩:=q1
 obtain⟨t,rfl⟩:=r1
 exact ⟨some i,H1,I1,.int i t,q⟩
def SlR(X:Cx)(r:V→Option Int→Option Int→Hp→VK→Prop):Prop:=
 ∀ (pins:List (Addr×Obj)) (s:Shared) (σ:St) (H:Hp) (x:V) (v vl vu:Value) (lo hi:Option Int) (sl:Addr) (Q:VK),Inv X pins σ H s→RelV x v→s.heap.IsSliceOf sl vl vu .none→IsPart vl lo→IsPart vu hi→r x lo hi H Q→
   ∃T id,typeLookup (.type T) "__getitem__" = pure (some (.builtin id))∧s.TypeIs v T∧wpAny (model X.prog X.w) X.A (getItem v (.ref sl)) (EP X pins σ Q) X.xe s
def tSl(r:V→Option Int→Option Int→Hp→VK→Prop)(te:TE)(tl th:TO):TE:=fun σ H Q=>te σ H fun x H1=>tl σ H1 fun l H2=>th σ H2 fun u H3=>r x l u H3 Q
theorem Lq{r:V→Option Int→Option Int→Hp→VK→Prop}(hr:SlR X r)(he:PE X e te)(hl:PO X lo tl)(hu:PO X hi th):PE X (.Subscript e (.Slice lo hi none p2) pos) (tSl r te tl th):=by
 intro pins s σ H Q I h
 refine Subscript_ (Ix (he pins s σ H _ I h) fun v s1 ⟨x,H1,I1,r1,q1⟩=>?_)
 refine wpAny_Slice (Ix (hl pins s1 σ H1 _ I1 q1) fun vl s2 ⟨l,H2,I2,pl,q2⟩=>Ix (hu pins s2 σ H2 _ I2 q2) fun vu s3 ⟨u,H3,I3,pu,q3⟩=>?_)
 rw[evalPart_none]
 refine aAm ?_
 have I4:Inv X pins σ H3 { s3 with heap:=s3.heap.push { cls:=.type "slice",data:=.fields #[vl,vu,.none] } }:=I3.kept (t':=s3.toks) fun b ob q=>aAe _ q
 obtain⟨T,id,hT,ht,hg⟩:=hr pins { s3 with heap:=s3.heap.push { cls:=.type "slice",data:=.fields #[vl,vu,.none] } } σ H3 x v vl vu l u s3.heap.objs.size Q I4 r1 (Heap.IsSliceOf.new ..) pl pu q3
 show wpAny (model X.prog X.w) X.A (subscriptTail e (.Slice lo hi none p2) v (.ref s3.heap.objs.size)) (EP X pins σ Q) X.xe { s3 with heap:=s3.heap.push { cls:=.type "slice",data:=.fields #[vl,vu,.none] } }
 exact tail_any (ops:=[.ref s3.heap.objs.size,v]) ht hT hg (by with_unfolding_all rfl)
def SB(xs:List V)(lo hi:Option Int):List V:=(xs.drop (HT.sIx xs.length 0 lo)).take (HT.sIx xs.length xs.length hi - HT.sIx xs.length 0 lo)
theorem T9(xs:List V)(lo hi:Option Int):(SB xs lo hi).length≤xs.length:=by
 unfold SB
 rw[aAM,aB3]
 omega
end
end L2
namespace L2
open PySem PySem.Spec PyProof.Rows
def ZZ(n:Nat)(i:Int):Option Nat:=if 0≤i then (if i < n then some i.toNat else none) else if -(n:Int)≤i then some (i + n).toNat else none
def Vn{α:Type}(xs:List α)(i:Int):Option α:=(ZZ xs.length i).bind fun j=>xs[j]?
theorem V2{n:Nat}{i:Int}{j:Nat}(h:ZZ n i=some j):seqIndex? i n=some j∧j < n∧-(n:Int)≤i∧i < n:=by
 unfold ZZ at h
 by_cases h0:0≤i
 · rw[aAE h0] at h
   by_cases h1:i < n
   · rw[aAE h1] at h
     have e:i.toNat=j:=aAi h
     exact ⟨by rw[seqIndex_of h0 h1,e],by omega,by omega,h1⟩
   · rw[aAz h1] at h;cases h
 · rw[aAz h0] at h
   by_cases h1 : -(n:Int)≤i
   · rw[aAE h1] at h
     have e:(i + n).toNat=j:=aAi h
     exact ⟨by rw[seqIndex_neg (by omega) h1,e],by omega,h1,by omega⟩
   · rw[aAz h1] at h;cases h
theorem SF{α:Type}{xs:List α}{i:Int}{v:α}(h:Vn xs i=some v):∃j,seqIndex? i xs.length=some j∧xs[j]?=some v∧j < xs.length∧-(xs.length:Int)≤i∧i < xs.length:=by
 unfold Vn at h
 cases e:ZZ xs.length i with
 | none=>rw[e] at h;cases h
 | some j=>
   rw[e] at h
   obtain⟨h1,h2,h3,h4⟩:=V2 e
   exact ⟨j,h1,h,h2,h3,h4⟩
theorem SE{α:Type}{xs:List α}{j:Nat}{v:α}(h:xs[j]?=some v):Vn xs (j:Int)=some v:=by
 have hj:j < xs.length:=(aAn.mp h).1
 have e:ZZ xs.length (j:Int)=some j:=by
  unfold ZZ
  rw[aAE (by omega),aAE (by omega)];simp
 unfold Vn;rw[e];exact h
theorem YX{α:Type}(xs:List α)(v:α):Vn (xs ++ [v]) (-1)=some v:=by
 have hl:(xs ++ [v]).length=xs.length + 1:=by simp
 have e:ZZ (xs ++ [v]).length (-1)=some xs.length:=by
  unfold ZZ
  rw[hl,aAz (by decide),aAE (by omega)]
  congr 1
  omega
 unfold Vn
 rw[e]
 show (xs ++ [v])[xs.length]?=some v
 simp
def aaf(b:Expr):Prop:=∀o i,subscripted b false o i=operate [o,i] (getItem o i)
def IxR(X:Cx)(r:R2):Prop:=
 ∀ (value slice:Expr) (pins:List (Addr×Obj)) (s:Shared) (σ:St) (H:Hp) (x y:V) (v u:Value) (Q:VK),Inv X pins σ H s→RelV x v→RelV y u→r x y H Q→
   subscripted slice false v u=operate [v,u] (getItem v u)→wpAny (model X.prog X.w) X.A (subscriptTail value slice v u) (EP X pins σ Q) X.xe s
def MtR(X:Cx)(id:String)(r:V→List V→Hp→VK→Prop):Prop:=
 ∀ (pins:List (Addr×Obj)) (s:Shared) (σ:St) (H:Hp) (x:V) (xs:List V) (v:Value) (us:List Value) (Q:VK),Inv X pins σ H s→RelV x v→Vals xs us→r x xs H Q→
   wpAny (model X.prog X.w) X.A (call (.builtin id) (v :: us)) (EP X pins σ Q) X.xe s
section
variable{X:Cx}{a b:Expr}{ta tb:TE}{pos:Pos}
theorem JM{r:R2}(hr:IxR X r)(ha:PE X a ta)(hb:PE X b tb)(hs:aaf b):PE X (.Subscript a b pos) (tOp r ta tb):=by
 intro pins s σ H Q I h
 exact Subscript_ (abq ha hb I h fun v u s2 x y H2 I2 rx ry q=>hr a b pins s2 σ H2 x y v u Q I2 rx ry q (hs _ _))
def abV(K:W.Frag):R2:=fun x y H Q=>∃p xs i v,x=.ref p∧y=.int i∧SqL K H p xs∧Vn xs i=some v∧Q v H
def abU(K:W.Frag):R2:=fun x y H Q=>∃p xs i v,x=.ref p∧y=.int i∧SqT K H p xs∧Vn xs i=some v∧Q v H
def acG:R2:=fun x y H Q=>∃z i c,x=.str z∧y=.int i∧z.length≤sizeLine∧Vn z.cps.toList i=some c∧Q (.str ⟨#[c]⟩) H
theorem ZY:IxR X (abV X.K):=by
 intro value slice pins s σ H x y v u Q I rx ry h hs
 obtain⟨p,xs,i,z,rfl,rfl,hq,he,q⟩:=h
 cases rx
 obtain⟨t,rfl⟩:=ry
 obtain⟨its,r,pl,hz⟩:=I.list hq
 obtain⟨j,h1,h2,h3,h4,h5⟩:=SF he
 obtain⟨w,ew,rw'⟩:=r.get h2
 have hl:=r.length
 have hn:=So
 have fin:EP X pins σ Q w s:=⟨z,H,I,rw',q⟩
 by_cases h0:0≤i
 · have hj:i.toNat=j:=by
    rw[seqIndex_of h0 h5] at h1
    exact aAi h1
   exact item_listR pl.isList h0 (by omega) (by rw[hj];simpa using ew) fin hs
 · have hj:(i + (its.toArray.size:Int)).toNat=j:=by
    rw[seqIndex_neg (by omega) h4] at h1
    rw[aAw,←hl]
    exact aAi h1
   exact subscriptTail_builtinR (x:=w) pl.isList.typeIs slot_list_getitem.lookup
    (wpAny_getItem_list_neg (Q:=fun r s'=>r=w∧EP X pins σ Q r s') pl.isList (by omega) (by rw[aAw] <;> omega) (by omega) (by rw[hj];simpa using ew) ⟨rfl,fin⟩) hs
theorem abd:IxR X (abU X.K):=by
 intro value slice pins s σ H x y v u Q I rx ry h hs
 obtain⟨p,xs,i,z,rfl,rfl,hq,he,q⟩:=h
 cases rx
 obtain⟨t,rfl⟩:=ry
 obtain⟨its,r,pl,hz⟩:=I.tuple hq
 obtain⟨j,h1,h2,h3,h4,h5⟩:=SF he
 obtain⟨w,ew,rw'⟩:=r.get h2
 have hl:=r.length
 have hn:=So
 have fin:EP X pins σ Q w s:=⟨z,H,I,rw',q⟩
 exact subscriptTail_builtinR (x:=w) pl.typeIs slot_tuple_getitem.lookup
  (getItem_tuple (j:=j) (Q:=fun r s'=>r=w∧EP X pins σ Q r s') pl (by omega) (by omega) (by rw[aAw,←hl];exact h1) (by simpa using ew) ⟨rfl,fin⟩) hs
theorem Yz:IxR X acG:=by
 intro value slice pins s σ H x y v u Q I rx ry h hs
 obtain⟨z,i,c,rfl,rfl,hz,he,q⟩:=h
 obtain⟨t,rfl⟩:=rx
 obtain⟨t',rfl⟩:=ry
 obtain⟨j,h1,h2,h3,h4,h5⟩:=SF he
 have hl:z.cps.toList.length=z.length:=by simp[Str.length]
 rw[hl] at h1 h4 h5
 have hn:=So
 exact tail_any (typeIs_str s z t) slot_str_getitem.lookup (getItem_str (c:=c) (by
  have e1:decide (i < -(2 ^ 63:Int))=false:=aA1 (by omega)
  have e2:decide (i≥2 ^ 63)=false:=aA1 (by omega)
  rw[e1,e2,Bool.or_false]) (by rw[h1];simpa using h2) ⟨.str ⟨#[c]⟩,H,I.tok _,⟨_,rfl⟩,q⟩) hs
theorem Inv.lst{pins:List (Addr×Obj)}{σ:St}{H:Hp}{s:Shared}{p:Addr}{xs:List V}(I:Inv X pins σ H s)(h:H p=some (.lst xs)) :
 ∃(its:List Value) (n:Nat),Vals xs its∧s.heap.get? p=some { cls:=.type "list",data:=.seq its.toArray n }∧xs.length≤sizeLine:=by
 obtain⟨z,its,n,r,e⟩:=I.hok p _ h
 exact ⟨its,n,r,e,z⟩
theorem RY(lo hi:Option Int)(n:Nat):(sliceBounds lo hi none n).1=((HT.sIx n 0 lo:Nat):Int)∧(sliceBounds lo hi none n).2.1=((HT.sIx n n hi:Nat):Int)∧(sliceBounds lo hi none n).2.2=1:=by
 refine ⟨?_,?_,rfl⟩
 · cases lo with
   | none=>simp[sliceBounds,HT.sIx]
   | some i=>
     simp only[sliceBounds,HT.sIx,Option.getD_none,show (1:Int) > 0 by decide,aDs]
     by_cases h:i < 0
     · simp only[h,aDs] <;> omega
     · simp only[h,aBJ] <;> omega
 · cases hi with
   | none=>simp[sliceBounds,HT.sIx]
   | some i=>
     simp only[sliceBounds,HT.sIx,Option.getD_none,show (1:Int) > 0 by decide,aDs]
     by_cases h:i < 0
     · simp only[h,aDs] <;> omega
     · simp only[h,aBJ] <;> omega
theorem QF(its:List Value)(lo hi:Option Int):slicePick its.toArray lo hi none=((its.drop (HT.sIx its.length 0 lo)).take (HT.sIx its.length its.length hi - HT.sIx its.length 0 lo)).toArray:=by
 obtain⟨h1,h2,h3⟩:=RY lo hi its.toArray.size
 unfold slicePick
 rw[h1,h2,h3]
 simp only[sliceRange_one,pick_run,aAw] <;> rfl
def abR(K:W.Frag):V→Option Int→Option Int→Hp→VK→Prop:=fun x lo hi H Q=>∃a xs,x=.ref a∧SqL K H a xs∧∀p,H p=none→Q (.ref p) (Hq H p (.lst (SB xs lo hi)))
theorem Zj:SlR X (abR X.K):=by
 intro pins s σ H x v vl vu lo hi sl Q I rx hs pl pu h
 obtain⟨a,xs,rfl,hx,q⟩:=h
 cases rx
 obtain⟨its,r,ht,hz⟩:=I.list hx
 have hlen:=r.length
 refine ⟨"list",_,slot_list_getitem.lookup,ht.isList.typeIs,?_⟩
 refine wpAny_getItem_list_slice ht.isList hs pl pu .none (by simp) ?_ (by rw[aAw] <;> omega)
 rw[QF,←hlen]
 refine ⟨.ref s.heap.objs.size,_,I.laid (t':=s.toks) (o:=.lst (SB xs lo hi)) (fun b ob q=>aAe _ q) (aAh _) ?_,rfl,q _ (I.hok.fresh (aAh _))⟩
 exact ⟨aBh (T9 xs lo hi) hz,_,0,(r.drop (HT.sIx xs.length 0 lo)).take (HT.sIx xs.length xs.length hi - HT.sIx xs.length 0 lo),aAo _ rfl⟩
def Mz:V→Bool
 | .non=>true
 | .bl _=>true
 | .int _=>true
 | .str _=>true
 | _=>false
def YS:V→V→Bool
 | .non,.non=>true
 | .bl a,.bl b=>a == b
 | .bl a,.int b=>(if a then 1 else 0) == b
 | .int a,.bl b=>a == (if b then 1 else 0)
 | .int a,.int b=>a == b
 | .str a,.str b=>a == b
 | _,_=>false
theorem Vf{A:Around}{s:Shared}{y x:V}{u v:Value}(ry:RelV y u)(rx:RelV x v)(fy:Mz y=true)(fx:Mz x=true):SeqAt.EqAt A s u v (YS y x):=by
 cases y with
 | non=>
   cases ry
   cases x with
   | non=>cases rx;exact SeqAt.EqAt.same _
   | bl b=>cases rx;exact SeqAt.EqAt.none_bool b
   | int b=>obtain⟨t,rfl⟩:=rx;exact SeqAt.EqAt.none_int b t
   | str b=>obtain⟨t,rfl⟩:=rx;exact SeqAt.EqAt.none_str b t
   | _=>exact absurd (show false=true from fx) aAK
 | bl a=>
   cases ry
   cases x with
   | non=>cases rx;exact SeqAt.EqAt.bool_none a
   | bl b=>cases rx;exact SeqAt.EqAt.bool_bool a b
   | int b=>obtain⟨t,rfl⟩:=rx;exact SeqAt.EqAt.bool_int a b t
   | str b=>obtain⟨t,rfl⟩:=rx;exact SeqAt.EqAt.bool_str a b t
   | _=>exact absurd (show false=true from fx) aAK
 | int a=>
   obtain⟨t',rfl⟩:=ry
   cases x with
   | non=>cases rx;exact SeqAt.EqAt.int_none a t'
   | bl b=>cases rx;exact SeqAt.EqAt.int_bool a t' b
   | int b=>obtain⟨t,rfl⟩:=rx;exact SeqAt.EqAt.int_int a t' b t
   | str b=>obtain⟨t,rfl⟩:=rx;exact SeqAt.EqAt.int_str a t' b t
   | _=>exact absurd (show false=true from fx) aAK
 | str a=>
   obtain⟨t',rfl⟩:=ry
   cases x with
   | non=>cases rx;exact SeqAt.EqAt.str_none a t'
   | bl b=>cases rx;exact SeqAt.EqAt.str_bool a t' b
   | int b=>obtain⟨t,rfl⟩:=rx;exact SeqAt.EqAt.str_int a t' b t
   | str b=>obtain⟨t,rfl⟩:=rx;exact SeqAt.EqAt.str_str a t' b t
   | _=>exact absurd (show false=true from fx) aAK
 | _=>exact absurd (show false=true from fy) aAK
def SJ(x:V)(u:Value):Bool:=match u with
 | .none=>YS .non x
 | .bool b=>YS (.bl b) x
 | .int i _=>YS (.int i) x
 | .str z _=>YS (.str z) x
 | _=>false
theorem YT{x y:V}{u:Value}(r:RelV y u)(f:Mz y=true):SJ x u=YS y x:=by
 cases y with
 | non=>cases r;rfl
 | bl b=>cases r;rfl
 | int i=>obtain⟨t,rfl⟩:=r;rfl
 | str z=>obtain⟨t,rfl⟩:=r;rfl
 | _=>exact absurd (show false=true from f) aAK
theorem Nt{x:V}:∀{xs:List V} {us:List Value},Vals xs us→xs.all Mz=true→us.any (SJ x)=xs.any fun y=>YS y x
 | _,_,.nil,_=>rfl
 | y :: xs,u :: us,.cons r t,f=>by
   rw[aCM,aAR] at f
   rw[aBt,aBt,YT r f.1,Nt t f.2]
theorem Lw{A:Around}{s:Shared}{x:V}{v:Value}(rx:RelV x v)(fx:Mz x=true):∀{xs:List V} {us:List Value},Vals xs us→xs.all Mz=true→∀u∈us,SeqAt.EqAt A s u v (SJ x u)
 | _,_,.nil,_=>fun u hu=>by cases hu
 | y :: xs,u :: us,.cons r t,f=>fun u' hu=>by
   rw[aCM,aAR] at f
   rcases aAg.mp hu with rfl | hu
   · rw[YT r f.1];exact Vf r rx f.1 fx
   · exact Lw rx fx t f.2 u' hu
def W9(x:V)(xs:List V):Bool:=xs.any fun y=>YS y x
def rIn(K:W.Frag)(neg:Bool):R2:=fun x y H Q=>∃p xs,y=.ref p∧(SqL K H p xs∨SqT K H p xs)∧Mz x=true∧xs.all Mz=true∧Q (.bl (if neg then !W9 x xs else W9 x xs)) H
theorem Wr:Mu X (compareOp .In) (rIn X.K false):=by
 intro pins s σ H x y v u Q I rx ry h
 obtain⟨p,xs,rfl,hq,fx,fs,q⟩:=h
 cases ry
 rcases hq with hq | hq
 · obtain⟨its,r,pl,hz⟩:=I.list hq
   refine SeqAt.in_listAt (SJ x) pl.isList (fun w hw=>Lw rx fx r fs w (by simpa using hw)) ⟨.bl _,H,I,rfl,?_⟩
   rw[show its.toArray.any (SJ x)=its.any (SJ x) by simp,Nt r fs]
   exact q
 · obtain⟨its,r,pl,hz⟩:=I.tuple hq
   refine SeqAt.in_tupleAt (SJ x) pl (fun w hw=>Lw rx fx r fs w (by simpa using hw)) ⟨.bl _,H,I,rfl,?_⟩
   rw[show its.toArray.any (SJ x)=its.any (SJ x) by simp,Nt r fs]
   exact q
theorem Sb:Mu X (compareOp .NotIn) (rIn X.K true):=by
 intro pins s σ H x y v u Q I rx ry h
 obtain⟨p,xs,rfl,hq,fx,fs,q⟩:=h
 cases ry
 rcases hq with hq | hq
 · obtain⟨its,r,pl,hz⟩:=I.list hq
   refine SeqAt.notIn_listAt (SJ x) pl.isList (fun w hw=>Lw rx fx r fs w (by simpa using hw)) ⟨.bl _,H,I,rfl,?_⟩
   rw[show its.toArray.any (SJ x)=its.any (SJ x) by simp,Nt r fs]
   exact q
 · obtain⟨its,r,pl,hz⟩:=I.tuple hq
   refine SeqAt.notIn_tupleAt (SJ x) pl (fun w hw=>Lw rx fx r fs w (by simpa using hw)) ⟨.bl _,H,I,rfl,?_⟩
   rw[show its.toArray.any (SJ x)=its.any (SJ x) by simp,Nt r fs]
   exact q
theorem SD:Kr X (.builtin "len") (fun xs H Q=>∃p ys,xs=[.ref p]∧(SqL X.K H p ys∨SqT X.K H p ys)∧Q (.int ys.length) H):=by
 intro pins s σ H xs us Q I r h
 obtain⟨p,ys,rfl,hq,q⟩:=h
 obtain⟨u,rfl,rx⟩:=Q5 r
 cases rx
 have hn:=So
 rcases hq with hq | hq
 · obtain⟨its,r',pl,hz⟩:=I.list hq
   have hlen:=r'.length
   exact Calls.call_len_list pl.isList (by simp only[aAw] <;> omega) ⟨.int ys.length,H,I.tok _,⟨s.toks + 1,by rw[aAw,hlen]⟩,q⟩
 · obtain⟨its,r',pl,hz⟩:=I.tuple hq
   have hlen:=r'.length
   exact len_tuple pl (by simp only[aAw] <;> omega) ⟨.int ys.length,H,I.tok _,⟨s.toks + 1,by rw[aAw,hlen]⟩,q⟩
theorem SC:Kr X (.type "list") (fun xs H Q=>∃p ys,xs=[.ref p]∧(SqL X.K H p ys∨SqT X.K H p ys)∧∀l,H l=none→Q (.ref l) (Hq H l (.lst ys))):=by
 intro pins s σ H xs us Q I r h
 obtain⟨p,ys,rfl,hq,q⟩:=h
 obtain⟨u,rfl,rx⟩:=Q5 r
 cases rx
 have fin:∀(its:List Value),Vals ys its→ys.length≤sizeLine→∀(h':Heap) (c':Nat),(∀b o',s.heap.get? b=some o'→h'.get? b=some o')→
  h'.get? s.heap.objs.size=some { cls:=.type "list",dict:=none,data:=.seq its.toArray c',slots:=#[] }→EP X pins σ Q (.ref s.heap.objs.size) { s with heap:=h' }:=fun its r' hz h' c' kp e=>
  ⟨.ref s.heap.objs.size,_,I.laid (t':=s.toks) kp (aAh _) (show ObjOk X.prog X.w _ h' _ (.lst ys) from ⟨hz,its,c',r',e⟩),rfl,q _ (I.hok.fresh (aAh _))⟩
 rcases hq with hq | hq
 · obtain⟨its,r',pl,hz⟩:=I.list hq
   have hlen:=r'.length
   obtain⟨o,ho,hc,n,hd⟩:=pl.isList
   exact call_list_seq p (.inl rfl) ho hc hd (fun h' c' kp e=>fin its r' hz h' c' kp e) (by simp only[aAw] <;> omega)
 · obtain⟨its,r',pl,hz⟩:=I.tuple hq
   have hlen:=r'.length
   obtain⟨o,ho,hc,n,hd⟩:=pl
   exact call_list_seq p (.inr rfl) ho hc hd (fun h' c' kp e=>fin its r' hz h' c' kp e) (by simp only[aAw] <;> omega)
def tyV(K:W.Frag)(T:String)(x:V)(H:Hp):Prop:=match x with
 | .str _=>T = "str"
 | .int _=>T = "int"
 | .ref p=>(T = "list"∧∃xs,SqL K H p xs)∨(T = "tuple"∧∃o,K.lookup p=some o∧o.cls=.type "tuple"∧o.dict=none)∨
  (T = "dict"∧((∃kvs,H p=some (.dK kvs))∨∃kvs,H p=some (.dT kvs)))∨(T = "set"∧∃S n,H p=some (.set S n))
 | _=>False
theorem Xc{pins:List (Addr×Obj)}{σ:St}{H:Hp}{s:Shared}{T:String}{x:V}{v:Value}(I:Inv X pins σ H s)(r:RelV x v)(ty:tyV X.K T x H) :
 s.TypeIs v T∧∀a,v=.ref a→∃ob,s.heap.get? a=some ob∧ob.dict=none:=by
 cases x with
 | str z=>
   obtain⟨t,rfl⟩:=r
   cases (show T = "str" from ty)
   exact ⟨typeIs_str s z t,fun _ e=>nomatch e⟩
 | int i=>
   obtain⟨t,rfl⟩:=r
   cases (show T = "int" from ty)
   exact ⟨typeIs_int s i t,fun _ e=>nomatch e⟩
 | ref p=>
   cases r
   rcases ty with ⟨rfl,xs,hq⟩ | ⟨rfl,o,hk,hc,hd⟩ | ⟨rfl,hk⟩ | ⟨rfl,S,n,hk⟩
   · obtain⟨its,_,pl,_⟩:=I.list hq
     refine ⟨pl.isList.typeIs,fun a e=>?_⟩
     cases e
     obtain⟨o,n,e,c,hd,_⟩:=pl
     exact ⟨o,e,hd⟩
   · refine ⟨⟨o,I.kIn p o hk,hc⟩,fun a e=>?_⟩
     cases e
     exact ⟨o,I.kIn _ o hk,hd⟩
   · have z:∃o,s.heap.get? p=some o∧o.ExactDict:=by
      rcases hk with ⟨kvs,hk⟩ | ⟨kvs,hk⟩
      · obtain⟨_,_,_,_,o,_,_,e,ex,_⟩:=I.hok p _ hk
        exact ⟨o,e,ex⟩
      · obtain⟨_,_,_,_,o,_,_,e,ex,_⟩:=I.hok p _ hk
        exact ⟨o,e,ex⟩
     obtain⟨o,e,ex⟩:=z
     refine ⟨⟨o,e,ex.1⟩,fun a e2=>?_⟩
     cases e2
     exact ⟨o,e,ex.2.1⟩
   · obtain⟨o,_,_,_,e,ex,_⟩:=I.hok p _ hk
     refine ⟨⟨o,e,ex.1⟩,fun a e2=>?_⟩
     cases e2
     exact ⟨o,e,ex.2.1⟩
 | _=>exact False.elim ty
def abN(K:W.Frag)(T:String)(r:V→List V→Hp→VK→Prop)(to:TE):TE:=fun σ H Q=>to σ H fun x H1=>tyV K T x H1∧r x [] H1 Q
def tBM(K:W.Frag)(T:String)(r:V→List V→Hp→VK→Prop)(to:TE)(t:TA):TE:=fun σ H Q=>to σ H fun x H1=>tyV K T x H1∧t σ H1 fun xs H2=>r x xs H2 Q
variable{o e:Expr}{es:List Expr}{to:TE}{t:TA}{name:Str}{apos cpos:Pos}{T id:String}{r:V→List V→Hp→VK→Prop}
theorem aa1(pa:PlainAttrs T)(slot:Slot T name id)(hty:typeOf (.builtin id)=pure (.type "method_descriptor"))(hm:MtR X id r)(ho:PE X o to)
 (hbase:attributeBase o name X.env (eval o X.env)=eval o X.env:=by rfl)(hline:(apos.endLine == cpos.line)=true:=by rfl):PE X (.Call (.Attribute o name apos) [] [] cpos) (abN X.K T r to):=by
 intro pins s σ H Q I h
 refine wpAny_Call_method0_late hbase hline (Ix (ho pins s σ H _ I h) fun v s1 ⟨x,H1,I1,r1,ty,q1⟩=>?_)
 obtain⟨h1,h2⟩:=Xc I1 r1 ty
 exact ⟨T,id,pa,slot,hty,h1,h2,aB9 rfl (PySem.evalArgs_none (hm pins s1 σ H1 x [] v [] Q I1 r1 .nil q1))⟩
theorem abY(pa:PlainAttrs T)(slot:Slot T name id)(hty:typeOf (.builtin id)=pure (.type "method_descriptor"))(hm:MtR X id r)(ho:PE X o to)(ha:PA X (e :: es) t)
 (hbase:attributeBase o name X.env (eval o X.env)=eval o X.env:=by rfl)
 (hfew:((backTo cpos (starEach (e :: es) X.env)).all (fun x=>!x.1) && (backToKw cpos (keywordEach [] X.env)).all (fun x=>x.1.isSome)
  && decide ((e :: es).length + ([]:List Keyword).length + (if ([]:List Keyword).isEmpty then 0 else 1) < 30))=true:=by rfl)
 (hline:(apos.endLine == cpos.line)=true:=by rfl)(hs:starEach (e :: es) X.env=(false,eval e X.env) :: starEach es X.env:=by rfl)(hplain:(backTo cpos (starEach es X.env)).any (·.1)=false:=by rfl) :
 PE X (.Call (.Attribute o name apos) (e :: es) [] cpos) (tBM X.K T r to t):=by
 intro pins s σ H Q I h
 refine wpAny_Call_method_late hbase hfew hline rfl (Ix (ho pins s σ H _ I h) fun v s1 ⟨x,H1,I1,r1,ty,q1⟩=>?_)
 obtain⟨h1,h2⟩:=Xc I1 r1 ty
 refine ⟨T,id,pa,slot,hty,h1,h2,?_⟩
 have hA:=ha cpos pins s1 σ H1 _ I1 q1
 rw[hs] at hA ⊢
 refine aB9 (by show (false || (backTo cpos (starEach es X.env)).any (·.1))=false;rw[hplain] <;> rfl) (aBW ?_)
 exact Ix hA fun us s2 ⟨vs,H2,I2,r2,q2⟩=>hm pins s2 σ H2 x vs v us Q I2 r1 r2 q2
end
end L2
namespace L2
open PySem PySem.Spec PyProof.Rows
def MtM(X:Cx)(id:String)(r:V→List V→Hp→VK→Prop):Prop:=
 ∀ (pins:List (Addr×Obj)) (s:Shared) (σ:St) (H:Hp) (x:V) (xs:List V) (v:Value) (us:List Value) (Q:VK),Inv X pins σ H s→RelV x v→Vals xs us→r x xs H Q→
   wpAny (model X.prog X.w) X.A (call (.builtin id) (v :: us)) (EP X pins σ Q) X.xe s
theorem Vals.one:∀{x:V} {us:List Value},Vals [x] us→∃u,us=[u]∧RelV x u
 | _,_,.cons r .nil=>⟨_,rfl,r⟩
theorem Vals.zero:∀{us:List Value},Vals [] us→us=[]
 | _,.nil=>rfl
theorem Vals.eraseIdx:∀{xs:List V} {us:List Value} (i:Nat),Vals xs us→Vals (xs.eraseIdx i) (us.eraseIdx i)
 | _,_,_,.nil=>.nil
 | _,_,0,.cons _ t=>t
 | _,_,i + 1,.cons r t=>.cons r (Vals.eraseIdx i t)
theorem Vals.reverse{xs:List V}{us:List Value}(h:Vals xs us):Vals xs.reverse us.reverse:=by
 induction h with
 | nil=>exact .nil
 | cons r t ih=>rw[aC2,aC2];exact Vals.append ih (.cons r .nil)
theorem Rq{α:Type}:∀(l:List α) (i:Nat),(l.eraseIdx i).length≤l.length
 | [],_=>aAh _
 | _ :: _,0=>Nat.le_succ _
 | _ :: r,i + 1=>Nat.succ_le_succ (Rq r i)
section
variable{X:Cx}{pins:List (Addr×Obj)}{σ:St}{H:Hp}{s:Shared}{l b:Addr}{xs ys zs:List V}
theorem Inv.lset{its its':List Value}{n:Nat}{f:Array Value→Array Value}{t':Nat}(I:Inv X pins σ H s)(hH:H l=some (.lst xs))
 (e:s.heap.get? l=some { cls:=.type "list",data:=.seq its.toArray n })(hf:f its.toArray=its'.toArray)(hv:Vals ys its')(hz:ys.length≤sizeLine) :
 Inv X pins σ (Hq H l (.lst ys)) { s with heap:=s.heap.update l (Obj.mapSeq f),toks:=t' }:=by
 have q:=PySem.IsL.update e f
 rw[hf] at q
 refine I.write (x:=l) (e:=l) (by rw[hH];exact trivial) (.inl rfl) (fun b' u hb hu=>(aAt s.heap (Obj.mapSeq f) (aBg hb)).trans hu) ⟨_,q⟩ ?_
 exact ⟨hz,its',_,hv,q⟩
theorem Inv.lnew{its:List Value}{t':Nat}(I:Inv X pins σ H s)(hv:Vals ys its)(hz:ys.length≤sizeLine) :
 Inv X pins σ (Hq H s.heap.objs.size (.lst ys)) { s with heap:=s.heap.push { cls:=.type "list",data:=.seq its.toArray },toks:=t' }:=
 I.laid (fun _ _ q=>aAe _ q) (aAh _) ⟨hz,its,0,hv,aAo _ rfl⟩
theorem Inv.fresh(I:Inv X pins σ H s):H s.heap.objs.size=none:=I.hok.fresh (aAh _)
theorem Inv.lstM(I:Inv X pins σ H s)(hH:H l=some (.lst xs)):xs.length≤sizeLine∧∃(its:List Value) (n:Nat),Vals xs its∧xs.length=its.length∧s.heap.get? l=some { cls:=.type "list",data:=.seq its.toArray n }:=by
 obtain⟨z,its,n,r,e⟩:=I.hok l _ hH
 exact ⟨z,its,n,r,r.length,e⟩
theorem Yb{n:Nat}(h:n≤sizeLine):Builtin.List.listTooLong n=false:=by
 unfold Builtin.List.listTooLong
 exact aA1 (by omega)
end
section
variable{X:Cx}
def Zu:V→List V→Hp→VK→Prop:=fun x vs H Q=>∃l xs y,x=.ref l∧vs=[y]∧H l=some (.lst xs)∧xs.length < sizeLine∧Q .non (Hq H l (.lst (xs ++ [y])))
theorem Jc:MtM X "list.append" Zu:=by
 intro pins s σ H x vs v us Q I rx rv h
 obtain⟨l,xs,y,rfl,rfl,hH,hz,q⟩:=h
 cases rx
 obtain⟨u,rfl,ru⟩:=rv.one
 obtain⟨z,its,n,r,hl,e⟩:=I.lstM hH
 refine aDg F.slot_list_append ⟨_,e,rfl⟩ F.entry_list_append (F.args_list_append_2 _ _) (PySem.list_append l its.toArray n u (by rw[aAw];omega)) ⟨e,?_⟩
 refine ⟨.non,_,I.lset (its':=its ++ [u]) hH e (by simp) (r.append (.cons ru .nil)) ?_,rfl,q⟩
 rw[aAk,aAT]
 omega
def Zt:V→List V→Hp→VK→Prop:=fun x vs H Q=>∃l b xs zs,x=.ref l∧vs=[.ref b]∧H l=some (.lst xs)∧H b=some (.lst zs)∧xs.length + zs.length≤sizeLine∧Q .non (Hq H l (.lst (xs ++ zs)))
theorem N4:MtM X "list.extend" Zt:=by
 intro pins s σ H x vs v us Q I rx rv h
 obtain⟨l,b,xs,zs,rfl,rfl,hH,hB,hz,q⟩:=h
 cases rx
 obtain⟨u,rfl,ru⟩:=rv.one
 cases ru
 obtain⟨z,its,n,r,hl,e⟩:=I.lstM hH
 obtain⟨z2,its2,n2,r2,hl2,e2⟩:=I.lstM hB
 have hsz:its.toArray.size + its2.toArray.size≤sizeLine:=by rw[aAw,aAw];omega
 have hlong:¬(!its.toArray.isEmpty && Builtin.List.listTooLong (its.toArray.size + its2.toArray.size))=true:=by
  rw[Yb hsz,Bool.and_false]
  exact aAK
 refine aDg F.slot_list_extend ⟨_,e,rfl⟩ F.entry_list_extend (F.args_list_extend_2 _ _)
  (AutoSeq1.list_extend_list_list_0 l its.toArray n b its2.toArray n2 hlong (by rw[aAw];omega) (by omega)) ⟨e,e2,?_⟩
 refine ⟨.non,_,I.lset (its':=its ++ its2) hH e (by simp) (r.append r2) ?_,rfl,q⟩
 rw[aAk]
 omega
def aaU:V→List V→Hp→VK→Prop:=fun x vs H Q=>∃l xs i k y,x=.ref l∧vs=[.int i]∧H l=some (.lst xs)∧-(2 ^ 63)≤i∧i < 2 ^ 63∧seqIndex? i xs.length=some k∧xs[k]?=some y∧Q y (Hq H l (.lst (xs.eraseIdx k)))
theorem Yg:MtM X "list.pop" aaU:=by
 intro pins s σ H x vs v us Q I rx rv h
 obtain⟨l,xs,i,k,y,rfl,rfl,hH,h1,h2,hk,hy,q⟩:=h
 cases rx
 obtain⟨u,rfl,ru⟩:=rv.one
 obtain⟨t,rfl⟩:=ru
 obtain⟨z,its,n,r,hl,e⟩:=I.lstM hH
 obtain⟨w,hw,rw'⟩:=r.get hy
 refine aDg F.slot_list_pop ⟨_,e,rfl⟩ F.entry_list_pop (F.args_list_pop_2 _ _)
  (MeetsSeq.list_pop_at l its.toArray n i t k w (fitsIndex_both h1 h2) (by rw[aAw,←hl];exact hk) (by rw[←aCH];exact hw) (by rw[aAw];omega)) ⟨e,?_⟩
 refine ⟨y,_,I.lset (its':=its.eraseIdx k) hH e ?_ (r.eraseIdx k) ?_,rw',q⟩
 · show its.toArray.eraseIdxIfInBounds k=(its.eraseIdx k).toArray
   rw[List.eraseIdxIfInBounds_toArray]
 · have:=Rq xs k
   omega
def Xy:V→List V→Hp→VK→Prop:=fun x vs H Q=>∃l xs,x=.ref l∧vs=[]∧H l=some (.lst xs)∧Q .non (Hq H l (.lst xs.reverse))
theorem P9:MtM X "list.reverse" Xy:=by
 intro pins s σ H x vs v us Q I rx rv h
 obtain⟨l,xs,rfl,rfl,hH,q⟩:=h
 cases rx
 have hus:=rv.zero
 subst hus
 obtain⟨z,its,n,r,hl,e⟩:=I.lstM hH
 refine aDg F.slot_list_reverse ⟨_,e,rfl⟩ F.entry_list_reverse (F.args_list_reverse_1 _) (AutoSeq1.list_reverse_list_0 l its.toArray n (by rw[aAw];omega)) ⟨e,?_⟩
 refine ⟨.non,_,I.lset (its':=its.reverse) hH e (by simp) r.reverse ?_,rfl,q⟩
 rw[List.length_reverse]
 omega
def acJ:R2:=fun x y H Q=>∃l b xs zs,x=.ref l∧y=.ref b∧H l=some (.lst xs)∧H b=some (.lst zs)∧xs.length + zs.length≤sizeLine∧∀p,H p=none→Q (.ref p) (Hq H p (.lst (xs ++ zs)))
theorem MK:Mu X (binaryOp .Add) acJ:=by
 intro pins s σ H x y v u Q I rx ry h
 obtain⟨l,b,xs,zs,rfl,rfl,hH,hB,hz,q⟩:=h
 cases rx
 cases ry
 obtain⟨z,its,n,r,hl,e⟩:=I.lstM hH
 obtain⟨z2,its2,n2,r2,hl2,e2⟩:=I.lstM hB
 refine PySem.P.add_list e e2 ?_ (by rw[aAw,aAw];omega)
 have ea:its.toArray ++ its2.toArray=(its ++ its2).toArray:=by simp
 rw[ea]
 exact ⟨.ref _,_,I.lnew (t':=s.toks) (r.append r2) (by rw[aAk];omega),rfl,q _ I.fresh⟩
end
end L2
namespace L2
open PySem PySem.Spec PyProof.Rows
section
variable{κ:Type} [DecidableEq κ]
def Jh(kvs:List (κ×V))(k:κ):Option V:=(kvs.find? fun kv=>decide (kv.1=k)).map (·.2)
def Ir(kvs:List (κ×V))(k:κ)(v:V):List (κ×V):=
 if (kvs.any fun kv=>decide (kv.1=k))=true then kvs.map (fun kv=>if kv.1=k then (kv.1,v) else kv) else kvs ++ [(k,v)]
def Kp(kvs:List (κ×V))(k:κ):List (κ×V):=kvs.filter fun kv=>decide (kv.1≠k)
theorem J1{p:κ×V}{r:List (κ×V)}{k:κ}(e:p.1=k):Jh (p :: r) k=some p.2:=by simp[Jh,aBI,e]
theorem IT{p:κ×V}{r:List (κ×V)}{k:κ}(e:¬p.1=k):Jh (p :: r) k=Jh r k:=by simp[Jh,aBI,e]
theorem Pa(k:κ):∀kvs:List (κ×V),(kvs.any fun kv=>decide (kv.1=k))=(Jh kvs k).isSome
 | []=>rfl
 | p :: r=>by
   rw[aBt]
   by_cases e:p.1=k
   · simp only[J1 e,aAD e,Bool.true_or,Option.isSome_some]
   · rw[IT e,aA1 e,Bool.false_or];exact Pa k r
theorem Mb(kvs:List (κ×V))(k:κ)(v:V):(Ir kvs k v).length≤kvs.length + 1:=by
 unfold Ir
 split
 · rw[aAf];omega
 · rw[aAk,aAL,aDj];omega
theorem PM{kvs:List (κ×V)}{k:κ}(v:V)(h:Jh kvs k=none):Ir kvs k v=kvs ++ [(k,v)]:=by
 unfold Ir
 rw[Pa,h]
 exact aAz (by decide)
theorem RelO.isSome_eq{o:Option V}{u:Option Value}(r:RelO o u):o.isSome=u.isSome:=by
 cases o with
 | none=>cases u with
   | none=>rfl
   | some _=>exact (show False from r).elim
 | some _=>cases u with
   | none=>exact (show False from r).elim
   | some _=>rfl
theorem RelO.getD{o:Option V}{u:Option Value}{d:V}{d':Value}(r:RelO o u)(rd:RelV d d'):RelV (o.getD d) (u.getD d'):=by
 cases o with
 | none=>cases u with
   | none=>exact rd
   | some _=>exact (show False from r).elim
 | some _=>cases u with
   | none=>exact (show False from r).elim
   | some _=>exact r
theorem KV.val{kvs:List (κ×V)}{vs:List (κ×Value)}(r:KV kvs vs)(k:κ):RelO (Jh kvs k) (valueAt vs k):=by
 unfold KV at r
 induction r with
 | nil=>exact True.intro
 | @cons p q ps qs h t ih=>
   obtain⟨h1,h2⟩:=h
   by_cases e:p.1=k
   · have e':q.1=k:=h1.symm.trans e
     have b:valueAt (q :: qs) k=some q.2:=by simp[valueAt,aBI,e']
     rw[J1 e,b];exact h2
   · have e':¬q.1=k:=fun z=>e (h1.trans z)
     have b:valueAt (q :: qs) k=valueAt qs k:=by simp[valueAt,aBI,e']
     rw[IT e,b];exact ih
theorem KV.any{kvs:List (κ×V)}{vs:List (κ×Value)}(r:KV kvs vs)(k:κ):(kvs.any fun kv=>decide (kv.1=k))=vs.any fun kv=>decide (kv.1=k):=by
 unfold KV at r
 induction r with
 | nil=>rfl
 | cons h t ih=>rw[aBt,aBt,ih,h.1]
theorem KV.repl{kvs:List (κ×V)}{vs:List (κ×Value)}(r:KV kvs vs)(k:κ){y:V}{u:Value}(ry:RelV y u) :
 KV (kvs.map fun kv=>if kv.1=k then (kv.1,y) else kv) (vs.map fun kv=>if kv.1=k then (kv.1,u) else kv):=by
 unfold KV at r ⊢
 induction r with
 | nil=>exact .nil
 | @cons p q ps qs h t ih=>
   rw[aAr,aAr]
   refine .cons ?_ ih
   obtain⟨h1,h2⟩:=h
   by_cases e:p.1=k
   · rw[aAE e,aAE (h1.symm.trans e)];exact ⟨h1,ry⟩
   · rw[aAz e,aAz (fun z=>e (h1.trans z))];exact ⟨h1,h2⟩
theorem KV.put{kvs:List (κ×V)}{vs:List (κ×Value)}(r:KV kvs vs)(k:κ){y:V}{u:Value}(ry:RelV y u):KV (Ir kvs k y) (stored vs k u):=by
 unfold Ir stored
 rw[r.any k]
 by_cases e:(vs.any fun kv=>decide (kv.1=k))=true
 · rw[aAE e,aAE e];exact r.repl k ry
 · rw[aAz e,aAz e];exact Paired.snoc r ⟨rfl,ry⟩
theorem KV.drop{kvs:List (κ×V)}{vs:List (κ×Value)}(r:KV kvs vs)(k:κ):KV (Kp kvs k) (without vs k):=by
 unfold KV at r ⊢
 unfold Kp without
 induction r with
 | nil=>exact .nil
 | @cons p q ps qs h t ih=>
   obtain⟨h1,h2⟩:=h
   rw[aBO,aBO]
   by_cases e:p.1=k
   · have a:¬decide (p.1≠k)=true:=by simp[e]
     have b:¬decide (q.1≠k)=true:=by simp[h1.symm.trans e]
     rw[aAz a,aAz b];exact ih
   · have e':¬q.1=k:=fun z=>e (h1.trans z)
     have a:decide (p.1≠k)=true:=by simp[e]
     have b:decide (q.1≠k)=true:=by simp[e']
     rw[aAE a,aAE b];exact .cons ⟨h1,h2⟩ ih
theorem KV.keys{kvs:List (κ×V)}{vs:List (κ×Value)}(r:KV kvs vs):kvs.map (·.1)=vs.map (·.1):=by
 unfold KV at r
 induction r with
 | nil=>rfl
 | cons h t ih=>rw[aAr,aAr,ih,h.1]
theorem KV.length{kvs:List (κ×V)}{vs:List (κ×Value)}(r:KV kvs vs):kvs.length=vs.length:=aAV r
theorem YU(kvs:List (κ×V))(k:κ):(Kp kvs k).length≤kvs.length:=aAX _ _
end
theorem Os{P:Program}{w:World}{k:HX}{u:Value}(r:RelV (kV k) u):(HK P w).is k u=true:=by
 cases k with
 | inl i=>obtain⟨t,e⟩:=(show ∃t,u=Value.int i t from r);subst e;exact TL P w i t
 | inr x=>obtain⟨t,e⟩:=(show ∃t,u=Value.str x t from r);subst e;exact TK P w x t
theorem Rt{P:Program}{w:World}:∀{ks:List HX} {us:List Value},Vals (ks.map kV) us→ItemsAre (HK P w) ks us
 | [],_,r=>by rw[aBV] at r;cases r;exact .nil
 | k :: ks,_,r=>by
   rw[aAr] at r
   cases r with
   | cons h t=>exact .cons (Os h) (Rt t)
abbrev KT(H:Hp):List (List HX×V)→List (List HX×Addr×Value)→Prop:=Paired fun p q=>p.1=q.1∧H q.2.1=some (.tup (p.1.map kV))∧RelV p.2 q.2.2
theorem KT.val{H:Hp}{kvs:List (List HX×V)}{xs:List (List HX×Addr×Value)}(r:KT H kvs xs)(k:List HX):RelO (Jh kvs k) ((atKey xs k).map (·.2)):=by
 induction r with
 | nil=>exact True.intro
 | @cons p q ps qs h t ih=>
   obtain⟨h1,_,h2⟩:=h
   by_cases e:p.1=k
   · have e':q.1=k:=h1.symm.trans e
     have b:atKey (q :: qs) k=some q.2:=by simp[atKey,aBI,e']
     rw[J1 e,b];exact h2
   · have e':¬q.1=k:=fun z=>e (h1.trans z)
     have b:atKey (q :: qs) k=atKey qs k:=by simp[atKey,aBI,e']
     rw[IT e,b];exact ih
theorem KT.repl{H:Hp}{kvs:List (List HX×V)}{xs:List (List HX×Addr×Value)}(r:KT H kvs xs)(k:List HX){y:V}{u:Value}(ry:RelV y u) :
 KT H (kvs.map fun kv=>if kv.1=k then (kv.1,y) else kv) (xs.map (putAt k u)):=by
 induction r with
 | nil=>exact .nil
 | @cons p q ps qs h t ih=>
   rw[aAr,aAr]
   refine .cons ?_ ih
   obtain⟨h1,h2,h3⟩:=h
   unfold putAt
   by_cases e:p.1=k
   · rw[aAE e,aAE (h1.symm.trans e)];exact ⟨h1,h2,ry⟩
   · rw[aAz e,aAz (fun z=>e (h1.trans z))];exact ⟨h1,h2,h3⟩
theorem KT.put{H:Hp}{kvs:List (List HX×V)}{xs:List (List HX×Addr×Value)}(r:KT H kvs xs)(k:List HX){b:Addr}{y:V}{u:Value}(hb:H b=some (.tup (k.map kV)))(ry:RelV y u) :
 KT H (Ir kvs k y) (storedH xs k b u):=by
 have e:(kvs.any fun kv=>decide (kv.1=k))=(atKey xs k).isSome:=by
  rw[Pa,(r.val k).isSome_eq,aC3]
 unfold Ir storedH
 rw[e]
 by_cases q:(atKey xs k).isSome=true
 · rw[aAE q,aAE q];exact r.repl k ry
 · rw[aAz q,aAz q];exact Paired.snoc r ⟨rfl,hb,ry⟩
theorem KT.keeps{H H':Hp}{kvs:List (List HX×V)}{xs:List (List HX×Addr×Value)}(r:KT H kvs xs)(ht:∀b ys,H b=some (.tup ys)→H' b=some (.tup ys)):KT H' kvs xs:=
 Paired.mapP r fun _ _ z=>⟨z.1,ht _ _ z.2.1,z.2.2⟩
section
variable{P:Program}{w:World}{H:Hp}{h:Heap}{a:Addr}
theorem aam{u:HO}(ok:HOk P w H h)(e:Rd H a u):ObjOk P w H h a u:=e.ok ok
theorem Qp{kvs:List (HX×V)}(ok:HOk P w H h)(e:Rd H a (.dK kvs)):kvs.length≤sizeLine∧(a == sysModules)=false∧∃vs,KV kvs vs∧h.DictOf (HK P w) a vs:=
 show ObjOk P w H h a (.dK kvs) from aam ok e
theorem MA{kvs:List (HX×V)}(ok:HOk P w H h)(e:H a=some (.dK kvs)):kvs.length≤sizeLine∧(a == sysModules)=false∧∃vs,KV kvs vs∧h.DictOf (HK P w) a vs:=Qp ok (.inl e)
theorem N9{ks:List HX}(ok:HOk P w H h)(e:H a=some (.tup (ks.map kV))):(tupleKind (HK P w)).is h ks a:=by
 obtain⟨_,its,r,o,h1,h2,n,h3⟩:=(show ObjOk P w H h a (.tup (ks.map kV)) from ok a _ e)
 exact ⟨o,its.toArray,n,h1,h2,h3,by simpa using Rt r⟩
theorem Ql{kvs:List (List HX×V)}(ok:HOk P w H h)(e:Rd H a (.dT kvs)):kvs.length≤sizeLine∧(a == sysModules)=false∧
 ∃xs,KT H kvs xs∧h.DictOfH (tupleKind (HK P w)) a xs:=by
 obtain⟨z,y,xs,r,o,es,ep,h1,h2,h3,h4,h5⟩:=(show ObjOk P w H h a (.dT kvs) from aam ok e)
 refine ⟨z,y,xs,r,o,es,ep,h1,h2,h3,h4,fun x hx=>?_,h5⟩
 have all:∀{l:List (List HX×V)} {m:List (List HX×Addr×Value)},KT H l m→∀x∈m,(tupleKind (HK P w)).is h x.1 x.2.1:=by
  intro l m q
  induction q with
  | nil=>intro x hx;exact nomatch hx
  | @cons p q ps qs hq t ih=>
    intro x hx
    rcases aAg.mp hx with e | hx
    · subst e
      exact N9 ok (by rw[←hq.1];exact hq.2.1)
    · exact ih x hx
 exact all r x hx
theorem acb{kvs:List (List HX×V)}(ok:HOk P w H h)(e:H a=some (.dT kvs)):kvs.length≤sizeLine∧(a == sysModules)=false∧
 ∃xs,KT H kvs xs∧h.DictOfH (tupleKind (HK P w)) a xs:=Ql ok (.inl e)
end
def DGet(H:Hp)(a:Addr)(y:V)(r:Option V):Prop:=
 (∃kvs k,Rd H a (.dK kvs)∧y=kV k∧r=Jh kvs k)∨∃kvs k b,Rd H a (.dT kvs)∧y=.ref b∧H b=some (.tup (k.map kV))∧r=Jh kvs k
def DPut(H:Hp)(a:Addr)(y v:V)(H':Hp):Prop:=
 (∃kvs k,H a=some (.dK kvs)∧y=kV k∧kvs.length < sizeLine∧H'=Hq H a (.dK (Ir kvs k v)))∨
 ∃kvs k b,H a=some (.dT kvs)∧y=.ref b∧H b=some (.tup (k.map kV))∧kvs.length < sizeLine∧H'=Hq H a (.dT (Ir kvs k v))
theorem DGet.k{H:Hp}{a:Addr}{kvs:List (HX×V)}{k:HX}(e:H a=some (.dK kvs)):DGet H a (kV k) (Jh kvs k):=.inl ⟨kvs,k,.inl e,rfl,rfl⟩
theorem DPut.k{H:Hp}{a:Addr}{kvs:List (HX×V)}{k:HX}{v:V}(e:H a=some (.dK kvs))(hl:kvs.length < sizeLine):DPut H a (kV k) v (Hq H a (.dK (Ir kvs k v))):=.inl ⟨kvs,k,e,rfl,hl,rfl⟩
section
variable{X:Cx}{pins:List (Addr×Obj)}{σ:St}{H:Hp}{s:Shared}{a:Addr}{y v:V}{u r:Value}{o:Option V}{A:Around}{E:Value→Shared→Prop}
theorem Inv.big(I:Inv X pins σ H s):sysModules < s.heap.objs.size:=by
 have h:mainGlobals < s.heap.objs.size:=(I.mod.glob.keeps I.bk).lt
 exact aCX (by decide) h
theorem WQ{Q:Value→Shared→Prop}(hu:A.units + 1 < cLine)(I:Inv X pins σ H s)(g:DGet H a y (some v))(ry:RelV y u)(h:∀w' s',Inv X pins σ H s'→RelV v w'→Q w' s') :
 wpAny (model X.prog X.w) A (getItem (.ref a) u) Q E s:=by
 rcases g with ⟨kvs,k,e,ey,l⟩ | ⟨kvs,k,b,e,ey,eb,l⟩
 · subst ey
   obtain⟨z,hd,vs,rel,dd⟩:=Qp I.hok e
   obtain⟨w',hw,rw'⟩:=RelO.some_of (v:=v) (o:=valueAt vs k) (by rw[l];exact rel.val k)
   exact wpAny_getItem_of (Os ry) dd.mapOf hw (h w' _ (I.tok _) rw')
 · subst ey
   cases (show u=Value.ref b from ry)
   obtain⟨z,hd,xs,rel,dd⟩:=Ql I.hok e
   obtain⟨w',hw,rw'⟩:=RelO.some_of (v:=v) (o:=(atKey xs k).map (·.2)) (by rw[l];exact rel.val k)
   obtain⟨p,hp,hp2⟩:=Option.map_eq_some_iff.mp hw
   refine wpAny_getItem_heap (aCa hu) (N9 I.hok eb) dd hp ?_
   rw[hp2]
   exact h w' _ (I.tok _) rw'
theorem acX{Q:Value→Shared→Prop}(hu:A.units + 1 < cLine)(I:Inv X pins σ H s)(g:DGet H a y o)(ry:RelV y u)(h:∀s',Inv X pins σ H s'→Q (.bool o.isSome) s') :
 wpAny (model X.prog X.w) A (compareOp .In u (.ref a)) Q E s:=by
 rcases g with ⟨kvs,k,e,ey,l⟩ | ⟨kvs,k,b,e,ey,eb,l⟩
 · subst ey
   obtain⟨z,hd,vs,rel,dd⟩:=Qp I.hok e
   refine wpAny_in_of (Os ry) hd dd.mapOf ?_
   rw[←(rel.val k).isSome_eq,←l]
   exact h _ (I.tok _)
 · subst ey
   cases (show u=Value.ref b from ry)
   obtain⟨z,hd,xs,rel,dd⟩:=Ql I.hok e
   refine wpAny_in_heap (aCa hu) (N9 I.hok eb) hd dd ?_
   have q:=(rel.val k).isSome_eq
   rw[aC3] at q
   rw[←q,←l]
   exact h _ (I.tok _)
theorem aaa{Q:Value→Shared→Prop}(hu:A.units + 1 < cLine)(I:Inv X pins σ H s)(g:DGet H a y o)(ry:RelV y u)(h:∀s',Inv X pins σ H s'→Q (.bool (!o.isSome)) s') :
 wpAny (model X.prog X.w) A (compareOp .NotIn u (.ref a)) Q E s:=by
 rcases g with ⟨kvs,k,e,ey,l⟩ | ⟨kvs,k,b,e,ey,eb,l⟩
 · subst ey
   obtain⟨z,hd,vs,rel,dd⟩:=Qp I.hok e
   refine wpAny_notIn_of (Os ry) hd dd.mapOf ?_
   rw[←(rel.val k).isSome_eq,←l]
   exact h _ (I.tok _)
 · subst ey
   cases (show u=Value.ref b from ry)
   obtain⟨z,hd,xs,rel,dd⟩:=Ql I.hok e
   refine wpAny_notIn_heap (aCa hu) (N9 I.hok eb) hd dd ?_
   have q:=(rel.val k).isSome_eq
   rw[aC3] at q
   rw[←q,←l]
   exact h _ (I.tok _)
theorem O6{h':Heap}{t':Nat}{ob:HO}(I:Inv X pins σ H s)(mu:Mut (H a))(hs:Heap.SameBut a s.heap h')(he:∃q,h'.get? a=some q)(new:ObjOk X.prog X.w (Hq H a ob) h' a ob) :
 Inv X pins σ (Hq H a ob) { s with heap:=h',toks:=t' }:=
 I.write (x:=a) (e:=a) mu (.inl rfl) (fun b q hb z=>(hs.2 b hb).trans z) he new
theorem Vg{P:Program}{w:World}{H':Hp}{h':Heap}{kvs:List (HX×V)}{vs:List (HX×Value)}(z:kvs.length≤sizeLine)(hd:(a == sysModules)=false)(rel:KV kvs vs)(dd:h'.DictOf (HK P w) a vs) :
 ObjOk P w H' h' a (.dK kvs):=⟨z,hd,vs,rel,dd⟩
theorem WP{H':Hp}{Q:Unit→Shared→Prop}(hu:A.units + 1 < cLine)(I:Inv X pins σ H s)(g:DPut H a y v H')(ry:RelV y u)(rv:RelV v r)(h:∀s',Inv X pins σ H' s'→Q () s') :
 wpAny (model X.prog X.w) A (setItem (.ref a) u r) Q E s:=by
 rcases g with ⟨kvs,k,e,ey,l,eH⟩ | ⟨kvs,k,b,e,ey,eb,l,eH⟩
 · subst ey eH
   obtain⟨z,hd,vs,rel,dd⟩:=MA I.hok e
   have hz:vs.length≤sizeLine:=by rw[←rel.length];exact z
   have hl:(Ir kvs k v).length≤sizeLine:=by have:=Mb kvs k v;omega
   refine wpAny_setItem_pairs (hsz:=hz) (Os ry) dd fun h' dd' hs=>h _ ?_
   have he:∃q,h'.get? a=some q:=let ⟨q,_,_,hq,_⟩:=dd';⟨q,hq⟩
   exact O6 I (by rw[e];exact True.intro) hs he (Vg hl hd (rel.put k rv) dd')
 · subst ey eH
   cases (show u=Value.ref b from ry)
   obtain⟨z,hd,xs,rel,dd⟩:=acb I.hok e
   have hz:xs.length≤sizeLine:=by rw[←aAV rel];exact z
   have hl:(Ir kvs k v).length≤sizeLine:=by have:=Mb kvs k v;omega
   refine wpAny_setItem_heap (hsz:=hz) (aCa hu) (N9 I.hok eb) dd fun h' dd' hs=>h _ ?_
   obtain⟨q,es,ep,hq,h2,h3,h4,_,h5⟩:=dd'
   refine O6 I (by rw[e];exact True.intro) hs ⟨q,hq⟩ ⟨hl,hd,_,(rel.put k eb rv).keeps fun c ys ec=>?_,q,es,ep,hq,h2,h3,h4,h5⟩
   rw[GY (HY ec e (fun z=>nomatch z))]
   exact ec
end
section
variable{X:Cx}{pins:List (Addr×Obj)}{σ:St}{H:Hp}{s:Shared}{a:Addr}{kvs:List (HX×V)}{k:HX}{u:Value}{A:Around}{E:Value→Shared→Prop}
theorem acf{v:V}{more:List Value}{Q:Value→Shared→Prop}(I:Inv X pins σ H s)(e:H a=some (.dK kvs))(ry:RelV (kV k) u)(l:Jh kvs k=some v)(hm:more=[]∨∃x,more=[x])
 (h:∀w' s',Inv X pins σ (Hq H a (.dK (Kp kvs k))) s'→RelV v w'→Q w' s'):wpAny (model X.prog X.w) A (call (.builtin "dict.pop") (.ref a :: u :: more)) Q E s:=by
 obtain⟨z,hd,vs,rel,dd⟩:=MA I.hok e
 obtain⟨w',hw,rw'⟩:=RelO.some_of (v:=v) (o:=valueAt vs k) (by rw[←l];exact rel.val k)
 have hp:(keyPart u).isSome=true:=by
  cases k with
  | inl i=>obtain⟨t,q⟩:=(show ∃t,u=Value.int i t from ry);subst q;rfl
  | inr x=>obtain⟨t,q⟩:=(show ∃t,u=Value.str x t from ry);subst q;rfl
 have ha:argsOk "dict.pop" ⟨.ref a :: u :: more,[]⟩:=by
  rcases hm with q | ⟨x,q⟩
  · subst q;exact PySem.F.args_dict_pop_2 _ _
  · subst q;exact PySem.F.args_dict_pop_3 _ _ _
 refine aCb PySem.F.slot_dict_pop dd.typeIs PySem.F.entry_dict_pop ha (meets_dict_pop_there (HK X.prog X.w) a (Os ry) more hm hp)
  ⟨vs,w',dd,by rw[←rel.length];exact z,hw,fun h' dd' hs=>h w' _ ?_ rw'⟩
 have he:∃q,h'.get? a=some q:=let ⟨q,_,_,hq,_⟩:=dd';⟨q,hq⟩
 exact O6 I (by rw[e];exact True.intro) hs he (Vg (aBh (YU kvs k) z) hd (rel.drop k) dd')
end
def ack(i:Expr):Prop:=∀ov iv,subscripted i false ov iv=operate [ov,iv] (getItem ov iv)
theorem Zg{prog:Program}{w:World}{A:Around}{E:Value→Shared→Prop}{s:Shared}{env:Env}{value slice:Expr}{pos:Pos}{T id:String}{Q:Value→Shared→Prop}
 (hl:typeLookup (.type T) "__getitem__" = pure (some (.builtin id)))(hs:ack slice)
 (h:wpAny (model prog w) A (eval value env) (fun o s₁=>wpAny (model prog w) A (eval slice env) (fun i s₂=>s₂.TypeIs o T∧wpAny (model prog w) A (getItem o i) Q E s₂) E s₁) E s) :
 wpAny (model prog w) A (eval (.Subscript value slice pos) env) Q E s:=by
 refine Subscript_ (aA9 h (fun o s₁ h₁=>aA9 h₁ (fun i s₂ h₂=>?_) fun _ _ x=>x) fun _ _ x=>x)
 obtain⟨hT,h₂⟩:=h₂
 unfold subscriptTail
 refine aAb ?_
 rw[getitemInPython_of_ne hT.not_modules]
 refine aAb (wpAny_specialOf hT hl ?_)
 have fin:wpAny (model prog w) A (subscripted slice false o i) (fun r s₃=>wpAny (model prog w) A (letTemporaryGo value o r >>= fun _=>pure r) Q E s₃) E s₂:=by
  rw[hs o i]
  exact wpAny_operating (aA9 h₂ (fun r s₃ h₃=>aAb (wpAny_letTemporaryGo (aAm h₃))) fun _ _ x=>x)
 first
  | exact aAm (aAb fin)
  | exact aAb (aAm (aAb fin))
  | exact aAb fin
theorem T7{X:Cx}{pins:List (Addr×Obj)}{σ:St}{H:Hp}{s:Shared}{a:Addr}{y:V}{o:Option V}(I:Inv X pins σ H s)(g:DGet H a y o):s.TypeIs (.ref a) "dict":=by
 rcases g with ⟨kvs,k,e,_,_⟩ | ⟨kvs,k,b,e,_,_,_⟩
 · obtain⟨_,_,vs,_,dd⟩:=Qp I.hok e
   exact dd.typeIs
 · obtain⟨_,_,xs,_,dd⟩:=Ql I.hok e
   exact dd.typeIs
def abL(td ty:TE):TE:=fun σ H Q=>td σ H fun x H1=>ty σ H1 fun y H2=>∃a v,x=.ref a∧DGet H2 a y (some v)∧Q v H2
def acC(ty td:TE):TE:=fun σ H Q=>ty σ H fun y H1=>td σ H1 fun x H2=>∃a o,x=.ref a∧DGet H2 a y o∧Q (.bl o.isSome) H2
def Zd(ty td:TE):TE:=fun σ H Q=>ty σ H fun y H1=>td σ H1 fun x H2=>∃a o,x=.ref a∧DGet H2 a y o∧Q (.bl (!o.isSome)) H2
def abQ(td ty tv:TE):TS:=fun D σ H=>tv σ H fun v H1=>td σ H1 fun x H2=>ty σ H2 fun y H3=>∃a H4,x=.ref a∧DPut H3 a y v H4∧D.nx σ H4
section
variable{X:Cx}{o i e value:Expr}{pos pos' tpos:Pos}{td ty tv:TE}
theorem Na(hu:X.A.units + 1 < cLine)(ho:PE X o td)(hi:PE X i ty)(hs:ack i):PE X (.Subscript o i pos) (abL td ty):=by
 intro pins s σ H Q I h
 refine Zg PySem.F.slot_dict_getitem.lookup hs (Ix (ho pins s σ H _ I h) fun u s1 ⟨x,H1,I1,rx,q1⟩=>Ix (hi pins s1 σ H1 _ I1 q1) fun iv s2 ⟨y,H2,I2,ry,a,v,ex,g,q2⟩=>?_)
 subst ex
 obtain rfl:u=Value.ref a:=rx
 exact ⟨T7 I2 g,WQ hu I2 g ry fun w' s3 I3 rw'=>⟨v,H2,I3,rw',q2⟩⟩
theorem XW(hu:X.A.units + 1 < cLine)(hi:PE X i ty)(ho:PE X o td):PC X .In i o (acC ty td):=by
 intro pins s σ H Q I h
 refine Ix (hi pins s σ H _ I h) fun iv s1 ⟨y,H1,I1,ry,q1⟩=>Ix (ho pins s1 σ H1 _ I1 q1) fun u s2 ⟨x,H2,I2,rx,a,ov,ex,g,q2⟩=>?_
 subst ex
 obtain rfl:u=Value.ref a:=rx
 exact acX hu I2 g ry fun s3 I3=>⟨.bl ov.isSome,H2,I3,rfl,q2⟩
theorem NQ(hu:X.A.units + 1 < cLine)(hi:PE X i ty)(ho:PE X o td):PC X .NotIn i o (Zd ty td):=by
 intro pins s σ H Q I h
 refine Ix (hi pins s σ H _ I h) fun iv s1 ⟨y,H1,I1,ry,q1⟩=>Ix (ho pins s1 σ H1 _ I1 q1) fun u s2 ⟨x,H2,I2,rx,a,ov,ex,g,q2⟩=>?_
 subst ex
 obtain rfl:u=Value.ref a:=rx
 exact aaa hu I2 g ry fun s3 I3=>⟨.bl (!ov.isSome),H2,I3,rfl,q2⟩
theorem J6(hu:X.A.units + 1 < cLine)(ho:PE X o td)(hi:PE X i ty)(hv:PE X value tv)(hs:swapsWith value (some (.Subscript o i pos')) pos.line X.env=pure false) :
 PS X (.Assign [.Subscript o i pos'] value pos) (abQ td ty tv):=by
 intro pins s σ H D I h
 refine wpAny_Assign_Subscript (Ix (hv pins s σ H _ I h) fun r s1 ⟨v,H1,I1,rv,q1⟩=>Ix (ho pins s1 σ H1 _ I1 q1) fun u s2 ⟨x,H2,I2,rx,q2⟩=>Ix (hi pins s2 σ H2 _ I2 q2) fun iv s3 ⟨y,H3,I3,ry,a,H4,ex,g,q3⟩=>?_) hs
 subst ex
 obtain rfl:u=Value.ref a:=rx
 exact WP hu I3 g ry rv fun s4 I4=>⟨σ,H4,I4,q3⟩
end
theorem T6{P:Program}{w:World}{H:Hp}(h:Heap)(hb:sysModules < h.objs.size):ObjOk P w H (h.push { cls:=.type "dict",data:=.dict #[] }) h.objs.size (.dK []):=
 ⟨aAJ _,aA7.mpr (aBg (aAB hb)),[],.nil,Heap.DictOf.new h⟩
def aaM:TE:=fun _ H Q=>∀p,H p=none→Q (.ref p) (Hq H p (.dK []))
section
variable{X:Cx}{pos:Pos}
theorem JN:PE X (.Dict [] [] pos) aaM:=fun pins s σ H Q I h=>
 wpAny_Dict_empty ⟨.ref s.heap.objs.size,_,I.laid (a:=s.heap.objs.size) (o:=.dK []) (t':=s.toks) (fun _ _ q=>aAe _ q) (aAh _) (T6 s.heap I.big),rfl,h _ (I.hok.fresh (aAh _))⟩
end
def Ux:List (TE×TE)→St→Hp→(List (V×V)→Hp→Prop)→Prop
 | [],_,H,Q=>Q [] H
 | (tk,tv) :: r,σ,H,Q=>tk σ H fun x H1=>tv σ H1 fun y H2=>Ux r σ H2 fun ps H3=>Q ((x,y) :: ps) H3
abbrev VV:List (V×V)→List (Value×Value)→Prop:=Paired fun p q=>RelV p.1 q.1∧RelV p.2 q.2
def PPs(X:Cx)(pos:Pos)(keys:List (Option Expr))(values:List Expr)(trs:List (TE×TE)):Prop:=
 ∀ (pins:List (Addr×Obj)) (s:Shared) (σ:St) (H:Hp) (Q:List (V×V)→Hp→Prop),Inv X pins σ H s→Ux trs σ H Q→
   wpAny (model X.prog X.w) X.A (evalPairs (pairTrees keys values X.env pos)) (fun vs s'=>∃ps H',Inv X pins σ H' s'∧VV ps vs∧Q ps H') X.xe s
theorem Zw{X:Cx}{pos:Pos}:PPs X pos [] [] []:=fun pins s σ H Q I h=>pairTrees_nil_walk ⟨[],H,I,.nil,h⟩
theorem XI{X:Cx}{pos:Pos}{k v:Expr}{ks:List (Option Expr)}{vs:List Expr}{tk tv:TE}{trs:List (TE×TE)}(hk:PE X k tk)(hv:PE X v tv)(hr:PPs X pos ks vs trs) :
 PPs X pos (some k :: ks) (v :: vs) ((tk,tv) :: trs):=fun pins s σ H Q I h=>
 pairTrees_cons_walk (Ix (hk pins s σ H _ I h) fun u s1 ⟨x,H1,I1,rx,q1⟩=>Ix (hv pins s1 σ H1 _ I1 q1) fun w2 s2 ⟨y,H2,I2,ry,q2⟩=>
  Ix (hr pins s2 σ H2 _ I2 q2) fun ws s3 ⟨ps,H3,I3,rel,q3⟩=>⟨(x,y) :: ps,H3,I3,.cons ⟨rx,ry⟩ rel,q3⟩)
def N6(kvs more:List (HX×V)):List (HX×V):=more.foldl (fun acc kv=>Ir acc kv.1 kv.2) kvs
theorem KV.merge:∀{more:List (HX×V)} {rs:List (HX×Value)} {kvs:List (HX×V)} {vs:List (HX×Value)},KV more rs→KV kvs vs→KV (N6 kvs more) (merged vs rs):=by
 intro more rs kvs vs r
 unfold KV at r
 induction r generalizing kvs vs with
 | nil=>intro q;exact q
 | @cons p q ps qs h t ih=>
   intro r0
   have e:KV (Ir kvs p.1 p.2) (stored vs q.1 q.2):=by
    have:=r0.put p.1 h.2
    rw[←h.1];exact this
   exact ih e
theorem Mx:∀(more kvs:List (HX×V)),(N6 kvs more).length≤kvs.length + more.length
 | [],kvs=>by show kvs.length≤kvs.length + 0;omega
 | p :: r,kvs=>by
   have h1:=Mx r (Ir kvs p.1 p.2)
   have h2:=Mb kvs p.1 p.2
   show (N6 (Ir kvs p.1 p.2) r).length≤_
   rw[aAL];omega
theorem Qr{P:Program}{w:World}:∀{kvs:List (HX×V)} {ws:List (Value×Value)},VV (kvs.map fun kv=>(kV kv.1,kv.2)) ws→∃rs,Carries (HK P w) ws rs∧KV kvs rs
 | [],_,r=>by rw[aBV] at r;cases r;exact ⟨[],True.intro,.nil⟩
 | p :: kvs,_,r=>by
   rw[aAr] at r
   cases r with
   | @cons a b as bs h t=>
     obtain⟨rs,c,q⟩:=Qr (P:=P) (w:=w) t
     obtain⟨b1,b2⟩:=b
     exact ⟨(p.1,b2) :: rs,⟨Os h.1,rfl,c⟩,.cons ⟨rfl,h.2⟩ q⟩
def abK(trs:List (TE×TE)):TE:=fun σ H Q=>∀p,H p=none→Ux trs σ (Hq H p (.dK [])) fun ps H2=>H2 p=some (.dK [])∧∃kvs:List (HX×V),ps=kvs.map (fun kv=>(kV kv.1,kv.2))∧kvs.length≤15∧Q (.ref p) (Hq H2 p (.dK (N6 [] kvs)))
theorem ZC{X:Cx}{pos:Pos}{keys:List (Option Expr)}{values:List Expr}{trs:List (TE×TE)}(h:PPs X pos keys values trs)(hall:keys.all (·.isSome)=true)(hl:keys.length=values.length)(h0:keys≠[])
 (h15:keys.length≤15):PE X (.Dict keys values pos) (abK trs):=by
 intro pins s σ H Q I q
 have hn:=I.hok.fresh (aAh s.heap.objs.size)
 have I1:=I.laid (a:=s.heap.objs.size) (o:=.dK []) (h':=s.heap.push { cls:=.type "dict",data:=.dict #[] }) (t':=s.toks) (fun _ _ q=>aAe _ q) (aAh _) (T6 s.heap I.big)
 refine wpAny_Dict_walk (knd:=HK X.prog X.w) hall hl h0 h15 (Ix (h pins _ σ _ _ I1 (q _ hn)) fun ws s2 ⟨ps,H2,I2,rel,e,kvs,ep,lk,q2⟩=>?_)
 subst ep
 obtain⟨rs,c,rk⟩:=Qr (P:=X.prog) (w:=X.w) rel
 obtain⟨z,hd,vs0,r0,dd⟩:=MA I2.hok e
 cases r0
 refine ⟨rs,c,dd,fun h' dd' hs=>⟨.ref s.heap.objs.size,_,?_,rfl,q2⟩⟩
 have hz:(N6 [] kvs).length≤sizeLine:=by
  have h1:=Mx kvs []
  rw[aDj] at h1
  rw[aAs];omega
 have he:∃q,h'.get? s.heap.objs.size=some q:=let ⟨q,_,_,hq,_⟩:=dd';⟨q,hq⟩
 exact O6 I2 (by rw[e];exact True.intro) hs he (Vg hz hd (rk.merge .nil) dd')
structure M1(X:Cx)(o:Expr)(m:Str)(apos:Pos)(e:Expr)(cpos:Pos):Prop where
 base:attributeBase o m X.env (eval o X.env)=eval o X.env
 few:((backTo cpos (starEach [e] X.env)).all (fun x=>!x.1) && (backToKw cpos (keywordEach [] X.env)).all (fun x=>x.1.isSome)
  && decide (([e]:List Expr).length + ([]:List Keyword).length + (if ([]:List Keyword).isEmpty then 0 else 1) < 30))=true
 line:(apos.endLine == cpos.line)=true
 trees:backTo cpos (starEach [e] X.env)=[(false,eval e X.env)]
structure M2(X:Cx)(o:Expr)(m:Str)(apos:Pos)(e f:Expr)(cpos:Pos):Prop where
 base:attributeBase o m X.env (eval o X.env)=eval o X.env
 few:((backTo cpos (starEach [e,f] X.env)).all (fun x=>!x.1) && (backToKw cpos (keywordEach [] X.env)).all (fun x=>x.1.isSome)
  && decide (([e,f]:List Expr).length + ([]:List Keyword).length + (if ([]:List Keyword).isEmpty then 0 else 1) < 30))=true
 line:(apos.endLine == cpos.line)=true
 trees:backTo cpos (starEach [e,f] X.env)=[(false,eval e X.env),(false,eval f X.env)]
def IsD(H:Hp)(a:Addr):Prop:=(∃kvs,Rd H a (.dK kvs))∨∃kvs,Rd H a (.dT kvs)
theorem YA{X:Cx}{pins:List (Addr×Obj)}{σ:St}{H:Hp}{s:Shared}{a:Addr}(I:Inv X pins σ H s)(d:IsD H a) :
 s.TypeIs (.ref a) "dict"∧(∀b,Value.ref a=.ref b→∃ob,s.heap.get? b=some ob∧ob.dict=none)∧(a == sysModules)=false:=by
 rcases d with ⟨kvs,e⟩ | ⟨kvs,e⟩
 · obtain⟨_,hd,vs,_,dd⟩:=Qp I.hok e
   refine ⟨dd.typeIs,fun b q=>?_,hd⟩
   cases q
   obtain⟨ob,_,_,h1,h2,_⟩:=dd
   exact ⟨ob,h1,h2.2.1⟩
 · obtain⟨_,hd,xs,_,dd⟩:=Ql I.hok e
   refine ⟨dd.typeIs,fun b q=>?_,hd⟩
   cases q
   obtain⟨ob,_,_,h1,h2,_⟩:=dd
   exact ⟨ob,h1,h2.2.1⟩
section
variable{X:Cx}{pins:List (Addr×Obj)}{σ:St}{H:Hp}{s:Shared}{a:Addr}{y d:V}{u r:Value}{o:Option V}{A:Around}{E:Value→Shared→Prop}
theorem abm{Q:Value→Shared→Prop}(hu:A.units + 1 < cLine)(I:Inv X pins σ H s)(g:DGet H a y o)(ry:RelV y u)(rd:RelV d r)(h:∀w' s',Inv X pins σ H s'→RelV (o.getD d) w'→Q w' s') :
 wpAny (model X.prog X.w) A (call (.builtin "dict.get") [.ref a,u,r]) Q E s:=by
 rcases g with ⟨kvs,k,e,ey,l⟩ | ⟨kvs,k,b,e,ey,eb,l⟩
 · subst ey
   obtain⟨z,hd,vs,rel,dd⟩:=Qp I.hok e
   refine aCb aCI dd.typeIs PySem.F.entry_dict_get (PySem.F.args_dict_get_3 _ _ _) (meets_dict_get_default (HK X.prog X.w) a (Os ry) hd r) ⟨_,dd.mapOf,h _ _ (I.tok _) ?_⟩
   rw[l]
   exact (rel.val k).getD rd
 · subst ey
   cases (show u=Value.ref b from ry)
   obtain⟨z,hd,xs,rel,dd⟩:=Ql I.hok e
   refine aCb aCI dd.typeIs PySem.F.entry_dict_get (PySem.F.args_dict_get_3 _ _ _) (meetsH_dict_get_default (tupleKind (HK X.prog X.w)) a b hd r) ⟨aCa hu,k,xs,N9 I.hok eb,dd,h _ _ (I.tok _) ?_⟩
   rw[l]
   exact (rel.val k).getD rd
end
def aaN(td ty tx:TE):TE:=fun σ H Q=>td σ H fun x H1=>∃a,x=.ref a∧IsD H1 a∧ty σ H1 fun y H2=>tx σ H2 fun z H3=>∃o,DGet H3 a y o∧Q (o.getD z) H3
def aaL(td ty:TE):TE:=fun σ H Q=>td σ H fun x H1=>∃a,x=.ref a∧IsD H1 a∧ty σ H1 fun y H2=>∃kvs k v,H2 a=some (.dK kvs)∧y=kV k∧Jh kvs k=some v∧Q v (Hq H2 a (.dK (Kp kvs k)))
section
variable{X:Cx}{o e f:Expr}{apos cpos:Pos}{td ty tx:TE}
theorem M9(hu:X.A.units + 1 < cLine)(ho:PE X o td)(he:PE X e ty)(hf:PE X f tx)(m:M2 X o "get" apos e f cpos):PE X (.Call (.Attribute o "get" apos) [e,f] [] cpos) (aaN td ty tx):=by
 intro pins s σ H Q I h
 refine wpAny_Call_method m.base m.few m.line aBD aCI PySem.F.type_dict_get (Ix (ho pins s σ H _ I h) fun u s1 ⟨x,H1,I1,rx,a,ex,d,q1⟩=>?_)
 subst ex
 obtain rfl:u=Value.ref a:=rx
 obtain⟨t1,t2,_⟩:=YA I1 d
 refine ⟨t1,t2,?_⟩
 rw[m.trees]
 refine aB9 rfl (aBW (aBP (Ix (he pins s1 σ H1 _ I1 q1) fun iv s2 ⟨y,H2,I2,ry,q2⟩=>
  aBP (Ix (hf pins s2 σ H2 _ I2 q2) fun fv s3 ⟨z,H3,I3,rz,ov,g,q3⟩=>aCg ?_))))
 exact abm hu I3 g ry rz fun w' s4 I4 rw'=>⟨_,H3,I4,rw',q3⟩
theorem PQ(ho:PE X o td)(he:PE X e ty)(m:M1 X o "pop" apos e cpos):PE X (.Call (.Attribute o "pop" apos) [e] [] cpos) (aaL td ty):=by
 intro pins s σ H Q I h
 refine wpAny_Call_method m.base m.few m.line aBD PySem.F.slot_dict_pop PySem.F.type_dict_pop (Ix (ho pins s σ H _ I h) fun u s1 ⟨x,H1,I1,rx,a,ex,d,q1⟩=>?_)
 subst ex
 obtain rfl:u=Value.ref a:=rx
 obtain⟨t1,t2,_⟩:=YA I1 d
 refine ⟨t1,t2,?_⟩
 rw[m.trees]
 refine aB9 rfl (aBW (aBP (Ix (he pins s1 σ H1 _ I1 q1) fun iv s2 ⟨y,H2,I2,ry,kvs,k,v,ea,ey,l,q2⟩=>aCg ?_)))
 subst ey
 exact acf I2 ea ry l (.inl rfl) fun w' s3 I3 rw'=>⟨v,_,I3,rw',q2⟩
end
end L2
namespace Att
open PySem PySem.W PySem.Calls PyProof.Rows
theorem OO{P:Params}{h:Heap}:∀(ns:List Int) (vs:List Value),WellAll P h vs (ns.map WData.int)→IntsAre vs ns:=by
 intro ns
 induction ns with
 | nil=>
   intro vs w
   rw[aBV] at w
   cases w
   exact .nil
 | cons n ns ih=>
   intro vs w
   rw[aAr] at w
   cases w with
   | cons a b=>
     cases a
     exact .cons _ _ (ih _ b)
theorem Wl{l:OpenLaw}{n:Nat}(hn:l.most=some n){P:Params}{h:Heap}{args:List WData}{vals:List Value}
 (hpre:l.row.toRowW.claim.pre args=true)(hwl:WellAll P h vals args) :
 ∃a vs ns,vals=[Value.ref a]∧args=[WData.list (ns.map WData.int)]∧h.get? a=some { cls:=.type "list",data:=.seq vs.toArray }∧IntsAre vs ns∧ns.length≤n:=by
 have hsh:WShape.hasAll [] args [.list .int]=true:=(pre_splitW hpre).1
 have hc:l.pre.holds [] { args:=args }=true:=(pre_splitW hpre).2
 obtain⟨d,r,rfl,h1,h2⟩:=hasAllW_cons hsh
 obtain rfl:=hasAllW_nil h2
 obtain⟨xs,rfl,h3⟩:=hasW_list h1
 obtain⟨ns,rfl⟩:=items_int h3
 have hlen:ns.length≤n:=by
  unfold OpenLaw.pre at hc
  have h4:(WTm.not (.lt (.lit (.int (n:Int))) (.len (.arg 0)))).holds [] { args:=[.list (ns.map .int)] }=true:=by
   have h4:=(holds_andW hc).1
   rw[hn] at h4
   exact h4
  have h5:=condW_of h4 (w_not (w_lt w_lit (w_len_list (w_arg rfl))))
  rw[aAf] at h5
  refine Nat.le_of_not_lt fun q=>?_
  have q':(n:Int) < ((ns.length:Nat):Int):=by omega
  first
   | (rw[aAD q'] at h5;exact absurd h5 (by decide))
   | (simp at h5;omega)
 cases hwl with
 | cons w1 w2=>
   cases w2
   cases w1 with
   | list ho hall=>exact ⟨_,_,ns,rfl,rfl,ho,OO ns _ hall,hlen⟩
theorem Wp(l:OpenLaw)(args:List WData):l.row.toRowW.claim.post args (.bool true) args=true:=
 postW_of (r:=l.row.toRowW) (X:=(true == true))
  (show WShape.has [] (.bool true) .bool=true by first | rfl | decide | simp[WShape.has,WShape.arms,WShape.armsAll])
  (show (WTm.eq .res (.lit (.bool true))).value [] { args:=args,res:=some (.bool true),after:=args }=some (.bool (true == true)) from w_eq_bool (w_res rfl) w_lit) rfl
theorem attach_call{l:OpenLaw}{n:Nat}{q:Program}{loose:List Str}{XP:(Str→Option Value)→Heap→Prop}{YP:World→Heap→Prop}{d:DefRec}
 (hn:l.most=some n)(hdf:d.params.defaults=[])
 (call:∀(w:World) (s₀ s₁:Shared) (mg mb:Str→Option Value) (fa:Addr) (o:Obj) (pm cd doc:Value) (a:Addr) (vs:List Value) (ns:List Int),
  Ground q loose [] XP w s₀ mg mb s₁.heap→YP w s₁.heap→
  s₁.heap.get? fa=some o→o.data=.func (docDef d.name d.params d.body d.scope pm cd doc)→s₁.heap.CodeRec cd d.name→mg d.name=some (.ref fa)→
  s₁.heap.get? a=some { cls:=.type "list",data:=.seq vs.toArray }→IntsAre vs ns→ns.length≤n→s₁.gens = #[]→
  codeAny (model l.prog w) callerA (.call (.ref fa) ⟨[.ref a],[]⟩) (fun r s'=>r=.ok (.ret (.bool true))∧OldK s₁.heap s'.heap∧s'.os=s₁.os∧AllBare s'.gens) s₁) :
 WalkO q loose XP YP l.row.toRowW d [] (fun f vs=>PySem.call f vs):=by
 intro w s₀ s₁ mg mb G Y fa o pm cd doc dV kV ho hd hcd hD hmg hg args vals as hpre hlay hrd hwl hlo
 obtain rfl:dV=.none:=Dflts.none hD hdf
 obtain rfl:kV=.none:=Dflts.noKw hD
 obtain⟨a,vs,ns,rfl,rfl,hobj,hints,hlen⟩:=Wl hn hpre hwl
 refine enter_call (aBU (call w s₀ s₁ mg mb fa o pm cd doc a vs ns G Y ho (fd_plain hd) hcd hmg hobj hints hlen hg) fun r s' hq=>?_)
 obtain⟨rfl,h2,h3,h4⟩:=hq
 exact ⟨.inl ⟨.bool true,.bool true,[],rfl,fun _=>rfl,.bool true,Wp l _,fun _=>⟨List.Pairwise.nil,fun _ hm=>(nomatch hm)⟩⟩,h2,h3,h4⟩
end Att
namespace L2
open PySem PySem.Spec PyProof.Rows
theorem Q4:∀{vs:List Value} {ns:List Int},IntsAre vs ns→Vals (ns.map V.int) vs
 | _,_,.nil=>.nil
 | _,_,.cons n t h=>.cons ⟨t,rfl⟩ (Q4 h)
def abu(H:Hp):Prop:=∀b,H b=none∨∃o xs,H b=some (.frz o (.lst xs))
theorem Yt{P:Program}{w:World}{K:W.Frag}{mg mb:Str→Option Value}{CX:RF}{k:Nat}{fa a:Addr}{fd:FuncData}{x:Str}{sp:Sp}{s₁:Shared}{vs:List Value}{ns:List Int}
 (KX:K.In s₁.heap)(hns:s₁.heap.Ns mainGlobals mg)(hb:s₁.heap.Ns builtinsNs mb)(hbb:∀x:Str,x≠"__name__"→mb x=bootBuiltins x)(hlim:s₁.heap.NoLimit)(hg:s₁.gens = #[])
 (ha:s₁.heap.get? a=some { cls:=.type "list",data:=.seq vs.toArray })(hi:IntsAre vs ns)(hl:ns.length≤sizeLine)(hr:Room k callerA)
 (F:∀base:Heap,K.In base→base.Ns mainGlobals mg→FnOkS P w K mg base CX k fa fd [x] sp)(hbind:∀(s:Shared) (u:Value),BindsTo s fd ⟨[u],[]⟩ [(x,u)])
 (hsp:∀H:Hp,abu H→SqL K H a (ns.map V.int)→sp [.ref a] H (fun v _=>v=.bl true) fun _ _ _=>False)
 (hCX:∀H e s',CX [] H s₁ (fun _ _ _=>False) e s'→False) :
 codeAny (model P w) callerA (.call (.ref fa) ⟨[.ref a],[]⟩) (fun r s'=>r=.ok (.ret (.bool true))∧OldK s₁.heap s'.heap∧s'.os=s₁.os∧AllBare s'.gens) s₁:=by
 have rv:=Q4 hi
 have lenV:=hi.length
 have core:∀H:Hp,abu H→SqL K H a (ns.map V.int)→HOk P w H s₁.heap→(∀b,H b≠none→b=a)→(H a≠none→K.lookup a=none)→
  codeAny (model P w) callerA (.call (.ref fa) ⟨[.ref a],[]⟩) (fun r s'=>r=.ok (.ret (.bool true))∧OldK s₁.heap s'.heap∧s'.os=s₁.os∧AllBare s'.gens) s₁:=by
  intro H hO hS hok hA hK
  have base_of:∀{b:Addr} {o:Obj},s₁.heap.get? b=some o→H b=none→(Sy s₁.heap H).get? b=some o:=fun e n=>YD e n
  have noA:∀{b:Addr} {o:Obj} {es:Array DictEntry} {ep:Nat},s₁.heap.get? b=some o→o.data=.dict es ep→H b=none:=fun {b o es ep} e d=>by
   cases q:H b with
   | none=>rfl
   | some u=>
     have e':b=a:=hA b (by rw[q];simp)
     subst e'
     rw[ha] at e;cases e
     have d':Data.seq vs.toArray _=Data.dict es ep:=d
     cases d'
  have nsK:∀{b:Addr} {m:Str→Option Value},s₁.heap.Ns b m→(Sy s₁.heap H).Ns b m:=fun {b m} ⟨o,es,ep,e,d,r⟩=>⟨o,es,ep,base_of e (noA e d),d,r⟩
  have hKb:K.In (Sy s₁.heap H):=fun b o e=>base_of (KX b o e) (by
   cases q:H b with
   | none=>rfl
   | some u=>
     have e':b=a:=hA b (by rw[q];simp)
     subst e'
     rw[hK (by rw[q];simp)] at e;cases e)
  have hM:Mod K mg (Sy s₁.heap H):=⟨hKb,nsK hns,⟨mb,nsK hb,hbb⟩,let ⟨mc,h1,h2⟩:=hlim;⟨mc,nsK h1,h2⟩⟩
  have e0:Env0 P w K mg (Sy s₁.heap H) callerA [] s₁ H:=⟨rfl,hM,fun b o e=>ZI e,Nat.le_of_eq (WJ _ _),trivial,fun b hb=>absurd (show b∈([]:List Addr) from hb) (by simp),hok,.of_eq hg,.inl rfl⟩
  refine aBU ((F _ hKb (nsK hns)).run callerA [] s₁ H ⟨[.ref a],[]⟩ [.ref a] [.ref a] _ _ rfl hr e0 (hbind s₁ (.ref a)) (.cons rfl .nil) (hsp H hO hS)) fun r s' h=>?_
  cases r with
  | error e=>exact (hCX H e s' h).elim
  | ok fl =>
    cases fl with
    | next=>exact False.elim h
    | brk=>exact False.elim h
    | cont=>exact False.elim h
    | ret u=>
      obtain⟨v,H',os,bare,un,hok',r',q⟩:=h
      have q':v=.bl true:=q
      subst q'
      obtain rfl:u=Value.bool true:=r'
      refine ⟨rfl,OldK.of_keep fun b o e=>?_,os,bare⟩
      cases q:H b with
      | none=>exact un.keep b o e q (by intro z;exact absurd (show b∈([]:List Addr) from z) (by simp)) (by simp)
      | some u=>
        rcases hO b with z | ⟨ob,xs,z⟩
        · rw[q] at z;cases z
        · have z2:=un.frzs b ob _ z
          obtain⟨e1,_⟩:=hok b _ z
          obtain⟨e2,_⟩:=hok' b _ z2
          rw[e] at e1;cases e1
          exact e2
 cases hk:K.lookup a with
 | some o=>
   have e:=KX a o hk
   rw[ha] at e
   cases e
   refine core (fun _=>none) (fun _=>.inl rfl) (.inr ⟨_,vs.toArray,_,hk,rfl,rfl,rfl,by rw[aAw,lenV];exact hl,by simpa using rv⟩) (fun b u z=>by have z':(none:Option HO)=some u:=z;cases z') (fun b z=>absurd rfl z) fun z=>absurd rfl z
 | none=>
   refine core (fun b=>if b=a then some (.frz { cls:=.type "list",data:=.seq vs.toArray } (.lst (ns.map V.int))) else none) (fun b=>?_) (.inl (.inr ⟨{ cls:=.type "list",data:=.seq vs.toArray },aAE rfl⟩)) (fun b u z=>?_) (fun b z=>?_) fun _=>hk
   · by_cases hb:b=a
     · exact .inr ⟨_,_,aAE hb⟩
     · exact .inl (aAz hb)
   · by_cases hb:b=a
     · have z':=(aAE hb).symm.trans z
       cases z'
       subst hb
       exact ⟨ha,by rw[aAf];exact hl,vs,_,rv,ha⟩
     · have z':=(aAz hb).symm.trans z
       cases z'
   · by_cases hb:b=a
     · exact hb
     · exact absurd (aAz hb) z
end L2
namespace L2
open PySem PySem.Spec PyProof.Rows
theorem walk_of{l:W.OpenLaw}{n k:Nat}{q:Program}{loose:List Str}{XP:(Str→Option Value)→Heap→Prop}{YP:World→Heap→Prop}{d:DefRec}{K:Params→W.Frag}{CX:World→RF}{sp:World→Sp}{x:Str}
 (hn:l.most=some n)(hn2:n≤sizeLine)(hdf:d.params.defaults=[])(hr:Room k callerA)
 (hY:∀(w:World) (h:Heap),YP w h→(K w.params).In h)
 (F : ∀(w:World) (mg:Str→Option Value) (fa:Addr) (h:Heap),(K w.params).In h→h.Ns mainGlobals mg→mg d.name=some (.ref fa)→
  ∃ fd:FuncData,(∀(s:Shared) (u:Value),BindsTo s fd ⟨[u],[]⟩ [(x,u)])∧
    ∀base:Heap,(K w.params).In base→base.Ns mainGlobals mg→FnOkS l.prog w (K w.params) mg base (CX w) k fa fd [x] (sp w))
 (hsp:∀(w:World) (H:Hp) (a:Addr) (ns:List Int),ns.length≤n→abu H→SqL (K w.params) H a (ns.map V.int)→sp w [.ref a] H (fun v _=>v=.bl true) fun _ _ _=>False)
 (hCX:∀(w:World) (H:Hp) (s:Shared) (e:Value) (s':Shared),CX w [] H s (fun _ _ _=>False) e s'→False) :
 W.WalkO q loose XP YP l.row.toRowW d [] (fun f vs=>PySem.call f vs):=by
 refine Att.attach_call hn hdf fun w s₀ s₁ mg mb fa o pm cd doc a vs ns G Y ho hd hcd hmg hobj hints hlen hg=>?_
 have KX:=hY w _ Y
 obtain⟨fd,hb,hF⟩:=F w mg fa _ KX G.T.g hmg
 exact Yt KX G.T.g G.T.b G.T.builtins G.T.nolimit hg hobj hints (aBh hlen hn2) hr hF hb (fun H hO hS=>hsp w H a ns hlen hO hS) fun H e s'=>hCX w H s₁ e s'
end L2
namespace L2
open PySem PySem.Spec PyProof.Rows
def Hk(s:Stmt)(j:Nat):Stmt:=match s with
 | .ClassDef _ _ _ body _ _ _ _ _ _ _=>body.getD j (.Pass ⟨0,0,0,0⟩)
 | _=>.Pass ⟨0,0,0,0⟩
def G8(s:Stmt):Arguments:=match s with
 | .FunctionDef _ a _ _ _ _ _ _ _ _=>a
 | _=>{ posonlyargs:=[],args:=[],vararg:=none,kwonlyargs:=[],kw_defaults:=[],kwarg:=none,defaults:=[] }
def G6(s:Stmt):List Stmt:=match s with
 | .FunctionDef _ _ b _ _ _ _ _ _ _=>b
 | _=>[]
def GV(s:Stmt):Scope:=match s with
 | .FunctionDef _ _ _ _ _ _ sc _ _ _=>sc
 | _=>{ kind:=.function,names:=[],isGenerator:=false,isCoroutine:=false }
abbrev Jg:RF:=fun _ _ _ _ _ _=>False
abbrev E0:XK:=fun _ _ _=>False
theorem Rk{X:Cx}:La Jg X E0:=⟨fun _ _ _ _ _ _ _ _ _ h=>h,fun _ _ _ _ _ _ _ h=>h.elim⟩
structure Fun(K:W.Frag)(x qual:Str)(st:Stmt)(f:Addr)(fd:FuncData):Prop where
 ex:∃(oc:Value) (od:Option Addr) (kV doc pm:Value) (an:Option Addr) (cdv ct:Value) (osl:Array (Option Value)),
  fd=W.fnOf x qual (G8 st) (G6 st) (GV st) .none kV doc pm an cdv ct∧K.lookup f=some ⟨oc,od,.func fd,osl⟩∧W.codeIn K cdv qual=true
 kp:W.keepIn K (.ref f)=true
section
variable{P:Program}{w:World}{K:W.Frag}{mg:Str→Option Value}{base:Heap}
theorem Fun.ok{x qual:Str}{st:Stmt}{f:Addr}{fd:FuncData}{N ps:List Str}{k:Nat}{sp:Sp}(F:Fun K x qual st f fd)(S:FnScope N ps (GV st))(len:∀vs H Q E,sp vs H Q E→vs.length=ps.length)
 (hbody:∀(cdv:Value) (A:Around) (outer:List Env) (s:Shared) (H:Hp) (vs:List V) (Q:VK) (E:XK),Room k (A.deeper (envOfC qual (GV st) s.heap.objs.size f cdv))→sp vs H Q E→
  ∃t,PSs (LW Jg P w K mg base N qual (GV st) f cdv A outer s H E).nox (G6 st) t∧t { nx:=fun _ H'=>Q .non H',rt:=Q } (start N vs) H):FnOk P w K mg base Jg (k + 1) f fd ps sp:=by
 obtain⟨oc,od,kV,doc,pm,an,cdv,ct,osl,rfl,lk,hcd⟩:=F.ex
 refine aaz lk hcd S len fun A outer s H vs Q E hr hsp=>?_
 obtain⟨t,h,q⟩:=hbody cdv A outer s H vs Q E hr hsp
 exact ⟨t,h.nox,q⟩
theorem Fun.okS{x qual:Str}{st:Stmt}{f:Addr}{fd:FuncData}{N ps:List Str}{k:Nat}{sp:Sp}(F:Fun K x qual st f fd)(S:FnScope N ps (GV st))(len:∀vs H Q E,sp vs H Q E→vs.length=ps.length)
 (hbody:∀(cdv:Value) (A:Around) (outer:List Env) (s:Shared) (H:Hp) (vs:List V) (Q:VK) (E:XK),Room k (A.deeper (envOfC qual (GV st) s.heap.objs.size f cdv))→sp vs H Q E→
  ∃t,PSs (T8 Jg P w K mg base N qual (GV st) f cdv A outer s H E).nox (G6 st) t∧t { nx:=fun _ H'=>Q .non H',rt:=Q } (start N vs) H):FnOkS P w K mg base Jg (k + 1) f fd ps sp:=by
 obtain⟨oc,od,kV,doc,pm,an,cdv,ct,osl,rfl,lk,hcd⟩:=F.ex
 refine abh lk hcd S len fun A outer s H vs Q E hr hsp=>?_
 obtain⟨t,h,q⟩:=hbody cdv A outer s H vs Q E hr hsp
 exact ⟨t,h.nox,q⟩
theorem Fun.binds{x qual:Str}{st:Stmt}{f:Addr}{fd:FuncData}{ps:List Str}(F:Fun K x qual st f fd)
 (h:∀(kV doc pm:Value) (an:Option Addr) (cdv ct:Value) (us:List Value),us.length=ps.length→bindArgs (W.fnOf x qual (G8 st) (G6 st) (GV st) .none kV doc pm an cdv ct) ⟨us,[]⟩=pure (ps.zip us)):Binds K fd ps []:=by
 obtain⟨oc,od,kV,doc,pm,an,cdv,ct,osl,rfl,lk,hcd⟩:=F.ex
 exact .all (h kV doc pm an cdv ct)
theorem He{x qual:Str}{st:Stmt}{f:Addr}{oc:Value}{od an:Option Addr}{osl:Array (Option Value)}{kV doc pm cdv ct:Value}(l:K.lookup f=some ⟨oc,od,.func (W.fnOf x qual (G8 st) (G6 st) (GV st) .none kV doc pm an cdv ct),osl⟩)
 (c:W.codeIn K cdv qual=true)(k:W.keepIn K (.ref f)=true):Fun K x qual st f (W.fnOf x qual (G8 st) (G6 st) (GV st) .none kV doc pm an cdv ct):=⟨⟨oc,od,kV,doc,pm,an,cdv,ct,osl,rfl,l,c⟩,k⟩
end
theorem Jk{A:Around}{k:Nat}(hr:Room k A):A.units + 1 < cLine:=Nat.lt_of_le_of_lt (Nat.add_le_add_left (by decide:1≤64) _) hr.units
section
variable{X:Cx}
theorem pv(i:Nat){x:Str}{pos:Pos}(hN:X.N[i]?=some x:=by rfl)(hv:Vis X.env.scope x:=by first | exact Or.inl rfl | exact Or.inr (Or.inl rfl) | exact Or.inr (Or.inr rfl))(hd:(x == ("__debug__" : Str))=false:=by decide)
 (hcd:(x == ("__classdict__" : Str))=false:=by decide):PE X (.Name x pos) (aaJ i):=aaX hN hv hd hcd
end
theorem Jj{A B:Prop}(h:B):if false=true then A else B:=by
 rw[aAz aAK]
 exact h
theorem Lb{A B:Prop}(h:A):if true=true then A else B:=by
 rw[aAE rfl]
 exact h
theorem Kk{c A B:Prop} [Decidable c](h1:c→A)(h2:¬c→B):if c then A else B:=by
 by_cases h:c
 · rw[aAE h]
   exact h1 h
 · rw[aAz h]
   exact h2 h
def Same(H H':Hp):Prop:=∀b o,H b=some o→H' b=some o
theorem Same.refl(H:Hp):Same H H:=fun _ _ h=>h
theorem Same.trans{H H1 H2:Hp}(a:Same H H1)(b:Same H1 H2):Same H H2:=fun c o h=>b c o (a c o h)
theorem Same.free{H H':Hp}(e:Same H H'){l:Addr}(h:H' l=Option.none):H l=Option.none:=by
 cases q:H l with
 | none=>rfl
 | some o=>
   rw[e l o q] at h
   cases h
theorem Same.seq{K:W.Frag}{H H':Hp}{a:Addr}{xs:List V}(e:Same H H')(h:SqL K H a xs):SqL K H' a xs:=by
 rcases h with (h | ⟨o,h⟩) | h
 · exact .inl (.inl (e _ _ h))
 · exact .inl (.inr ⟨o,e _ _ h⟩)
 · exact .inr h
end L2
set_option maxHeartbeats 4000000
namespace L2
open PySem PySem.Spec PyProof.Rows
def Kq(cells:List (Str×Addr)):List (Str×NameKind)→List (Str×Addr)→List (Str×Addr)
 | [],acc=>acc
 | (n,k) :: r,acc=>if k == .free then Kq cells r ((n,(cells.lookup n).getD 0) :: acc) else Kq cells r acc
theorem Vh{env:Env}{names:List (Str×NameKind)}(h:∀n,(n,NameKind.free)∈names→∃c,env.cells.lookup n=some c) :
 ∀ acc,(forIn names acc fun (x:Str×NameKind) (cs:List (Str×Addr))=>(match x with
   | (name,kind)=>if (kind == NameKind.free)=true then do let c ←cellOf env name;pure (ForInStep.yield ((name,c) :: cs)) else pure (ForInStep.yield cs):Sem (ForInStep (List (Str×Addr)))))=pure (Kq env.cells names acc):=by
 induction names with
 | nil=>intro acc;rfl
 | cons x r ih=>
   intro acc
   obtain⟨n,k⟩:=x
   have ih':=ih fun m hm=>h m (aAq _ hm)
   rw[List.forIn_cons]
   by_cases hk:k=.free
   · subst hk
     obtain⟨c,hc⟩:=h n aAp
     have e:cellOf env n=pure c:=by unfold cellOf;rw[hc]
     simp only[aBz,aDs,e,pure_bind]
     rw[ih']
     show _=pure (Kq env.cells r ((n,(env.cells.lookup n).getD 0) :: acc))
     rw[hc];rfl
   · have hb:(k == NameKind.free)=false:=by simpa using hk
     simp only[hb,aAY,aBJ,pure_bind]
     rw[ih']
     show _=pure (if (k == NameKind.free)=true then _ else Kq env.cells r acc)
     rw[hb];rfl
theorem QO{scope:Scope}{env:Env}(h:∀n,(n,NameKind.free)∈scope.names→∃c,env.cells.lookup n=some c):closureFor scope env=pure (Kq env.cells scope.names []):=by
 have e:=Vh h []
 unfold closureFor
 simp only[bind_pure_comp] at *
 first
  | exact e
  | (rw[show (forIn scope.names ([]:List (Str×Addr)) _)=_ from e];rfl)
theorem Vi{cells:List (Str×Addr)}:∀{names:List (Str×NameKind)} {acc:List (Str×Addr)},(∀n,(n,NameKind.free)∈names→∃c,cells.lookup n=some c)→(∀x c,acc.lookup x=some c→cells.lookup x=some c)→
 ∀x c,(Kq cells names acc).lookup x=some c→cells.lookup x=some c
 | [],_,_,ha,x,c,e=>ha x c e
 | (n, k) :: r,acc,h,ha,x,c,e=>by
   by_cases hk:k=.free
   · subst hk
     obtain⟨d,hd⟩:=h n aAp
     refine Vi (names:=r) (acc:=(n,(cells.lookup n).getD 0) :: acc) (fun m hm=>h m (aAq _ hm)) (fun y z q=>?_) x c e
     rw[aBd] at q
     by_cases hy:y=n
     · subst hy
       simp only[aBz,hd,Option.getD_some] at q
       rw[hd];exact q
     · have hb:(y == n)=false:=aA7.mpr hy
       simp only[hb] at q
       exact ha y z q
   · have hb:(k == NameKind.free)=false:=by simpa using hk
     have e':(Kq cells r acc).lookup x=some c:=by
      have:Kq cells ((n,k) :: r) acc=Kq cells r acc:=by show (if (k == NameKind.free)=true then _ else _)=_;rw[hb];rfl
      rw[←this];exact e
     exact Vi (names:=r) (fun m hm=>h m (aAq _ hm)) ha x c e'
theorem Vj{cells:List (Str×Addr)}:∀{names:List (Str×NameKind)} {acc:List (Str×Addr)} {x:Str},((x,NameKind.free)∈names∨∃c,acc.lookup x=some c)→∃c,(Kq cells names acc).lookup x=some c
 | [],_,_,h=>by
   rcases h with h | h
   · simp at h
   · exact h
 | (n, k) :: r,acc,x,h=>by
   by_cases hk:k=.free
   · subst hk
     show ∃c,(Kq cells r ((n,(cells.lookup n).getD 0) :: acc)).lookup x=some c
     refine Vj (names:=r) ?_
     by_cases hx:x=n
     · subst hx
       exact .inr ⟨_,by rw[aBd];simp only[aBz];rfl⟩
     · have hb:(x == n)=false:=aA7.mpr hx
       rcases h with h | ⟨c,h⟩
       · rcases aAg.mp h with q | q
         · exact absurd (Prod.mk.inj q).1 hx
         · exact .inl q
       · exact .inr ⟨c,by rw[aBd];simp only[hb];exact h⟩
   · have hb:(k == NameKind.free)=false:=by simpa using hk
     have:Kq cells ((n,k) :: r) acc=Kq cells r acc:=by show (if (k == NameKind.free)=true then _ else _)=_;rw[hb];rfl
     rw[this]
     refine Vj (names:=r) ?_
     rcases h with h | h
     · rcases aAg.mp h with q | q
       · exact absurd (Prod.mk.inj q).2.symm hk
       · exact .inl q
     · exact .inr h
def QH(env:Env)(x:Str)(k:NameKind):NameKind:=if (k == NameKind.free && env.scope.kind == .function && env.kindOf x == some .cell)=true then .cell else k
theorem L4{env:Env}{x:Str}:∀{names:List (Str×NameKind)},
 (names.map fun (n,k)=>if (k == NameKind.free && env.scope.kind == .function && env.kindOf n == some .cell) then (n,NameKind.cell) else (n,k)).lookup x=(names.lookup x).map (QH env x)
 | []=>rfl
 | (n,k) :: r=>by
   have ih:=@L4 env x r
   show List.lookup x ((if (k == NameKind.free && env.scope.kind == .function && env.kindOf n == some .cell)=true then (n,NameKind.cell) else (n,k)) :: _)=_
   by_cases hx:x=n
   · subst hx
     rw[aBd]
     unfold QH
     by_cases hc:(k == NameKind.free && env.scope.kind == .function && env.kindOf x == some .cell)=true
     · rw[aAE hc,aBd];simp only[aBz,aDk];rw[aAE hc]
     · rw[aAz hc,aBd];simp only[aBz,aDk];rw[aAz hc]
   · have hb:(x == n)=false:=aA7.mpr hx
     rw[aBd (k:=n)]
     by_cases hc:(k == NameKind.free && env.scope.kind == .function && env.kindOf n == some .cell)=true
     · rw[aAE hc,aBd];simp only[hb];exact ih
     · rw[aAz hc,aBd];simp only[hb];exact ih
theorem mem_of_lookup{κ β:Type} [BEq κ] [LawfulBEq κ]{x:κ}{b:β}:∀{l:List (κ×β)},l.lookup x=some b→(x,b)∈l
 | [],h=>by simp at h
 | (n,k) :: r,h=>by
   rw[aBd] at h
   cases hb:x == n with
   | true=>
     rw[hb] at h
     have e1:=LawfulBEq.eq_of_beq hb
     have e2:k=b:=by simpa using h
     subst e1 e2
     exact aAp
   | false=>
     rw[hb] at h
     exact aAq _ (mem_of_lookup h)
def Cx.blk(X:Cx)(scope:Scope)(N':List Str)(C:Addr)(s₂:Shared)(H₂:Hp)(ex:List Addr):Cx:=
 { X with N:=N',s₀:=s₂,H₀:=H₂,env:=compEnvC scope (Kq X.env.cells scope.names []) C X.env,outer:=X.stack,stack:=X.stack,ex:=ex,fn:=fun _=>false,pn:=[],xe:=fun _ _=>False }
structure CompScope(X:Cx)(scope:Scope)(N':List Str)(ix:List (Option Nat)):Prop where
 kind:scope.kind=.function
 cell:∀y∈scope.names,y.2≠.cell
 own:∀y∈scope.names,y.2=.local→scope.names.lookup y.1=some .local
 free:∀y∈scope.names,y.2=.free→(X.env.kindOf y.1=some .cell∨X.env.kindOf y.1=some .free)
 once:∀x,(x,NameKind.local)∈scope.names→(x,NameKind.free)∈scope.names→False
 len:ix.length=N'.length
 out:∀(i j:Nat),ix[i]?=some (some j)→X.N[j]?=N'[i]?∧∀x,N'[i]?=some x→(x,NameKind.free)∈scope.names∧Vis X.env.scope x
def Ol(ix:List (Option Nat))(σ:St):St:=ix.map fun o=>o.bind fun j=>(σ[j]?).join
section
variable{X:Cx}{pins:List (Addr×Obj)}{σ:St}{H:Hp}{s:Shared}{scope:Scope}{N':List Str}{ix:List (Option Nat)}{fp:List Addr}
theorem Uc(I:Inv X pins σ H s)(S:CompScope X scope N' ix):∀n,(n,NameKind.free)∈scope.names→∃c,X.env.cells.lookup n=some c:=fun n hn=>I.ok.has n (S.free _ hn rfl)
theorem Mq(I:Inv X pins σ H s)(S:CompScope X scope N' ix):∀x c,(Kq X.env.cells scope.names []).lookup x=some c→X.env.cells.lookup x=some c:=
 Vi (Uc I S) fun x c e=>by simp at e
theorem V9(I:Inv X pins σ H s)(S:CompScope X scope N' ix){x:Str}(h:(x,NameKind.free)∈scope.names):∃c,(Kq X.env.cells scope.names []).lookup x=some c∧X.env.cells.lookup x=some c:=by
 obtain⟨c,e⟩:=Vj (cells:=X.env.cells) (acc:=[]) (.inl h)
 exact ⟨c,e,Mq I S x c e⟩
theorem Ub{C:Addr}(x:Str):(compEnvC scope (Kq X.env.cells scope.names []) C X.env).kindOf x=(scope.names.lookup x).map (QH X.env x):=L4
theorem abp{C:Addr}(I:Inv X pins σ H s)(S:CompScope X scope N' ix)(hC:s.heap.objs.size≤C)(hf:∀b∈fp,J0 X pins H b)(hfo:∀b∈fp,b < C):(X.blk scope N' C s H fp).Ok where
 mod:=I.ok.mod
 kind:=S.kind
 glob:=I.ok.glob
 blt:=I.ok.blt
 above:=hC
 inj:=fun x y c h1 h2=>I.ok.inj x y c (Mq I S x c h1) (Mq I S y c h2)
 has :=fun x hx=>by
  have hx':(scope.names.lookup x).map (QH X.env x)=some .cell∨(scope.names.lookup x).map (QH X.env x)=some .free:=by
   rw[←Ub (C:=C)];exact hx
  cases e:scope.names.lookup x with
  | none=>rw[e] at hx';rcases hx' with z | z <;> cases z
  | some k=>
    have hm:=mem_of_lookup e
    have hk:k=.free:=by
     rw[e] at hx'
     have h1:=S.cell _ hm
     unfold QH at hx'
     by_cases hc:(k == NameKind.free && X.env.scope.kind == .function && X.env.kindOf x == some .cell)=true
     · simp only[aAR,aB8] at hc
       exact hc.1.1
     · simp only[aDk,hc,aBJ,aAY] at hx'
       rcases hx' with z | z
       · exact absurd (aAi z) h1
       · exact aAi z
    subst hk
    obtain⟨c,h1,_⟩:=V9 I S hm
    exact ⟨c,h1⟩
 cab:=fun x c h=>by cases h
 hd:=I.ok.hd
 frames:=I.ok.frames
 stk:=.inl rfl
 exf:=fun b hb=>⟨aAB (hfo b hb),fun x c e=>(hf b hb).2.2.2.2.1 x c (Mq I S x c e)⟩
 bs:=I.bs
 bsz:=aBh I.ok.bsz I.sz
 noex:=fun b o e hb=>by
  rcases (hf b hb).2.2.2.1 with z | z
  · exact I.ok.noex b o e z
  · exact absurd (aAC (aAl e) (aBh I.ok.bsz z)) (aAU _)
 exfs:=fun b hb z=>by
  rcases aAg.mp (I.stkSub b z) with q | q
  · exact (hf b hb).2.1 q
  · exact (hf b hb).2.2.1 q
 funs:=I.stack
 frf:=I.stkFree
 hld:=by
  rcases I.ok.hld with z | ⟨a,o,vs,e,d,z,g⟩
  · exact .inl z
  rcases I.heldO with z' | ⟨a',o',vs',e',d',z',g1,g2,g3⟩
  · rw[e] at z';cases z'
  rw[e] at e';cases e'
  refine .inr ⟨a,o',vs',e,d',z',.inl ⟨g1,g2,g3,fun m=>?_⟩⟩
  obtain⟨_,_,_,f4,_,f6⟩:=hf a m
  rcases g with ⟨g,_,_,x⟩ | g
  · rcases f4 with y | y
    · exact x y
    · exact aAU _ (aAC (aAl g) y)
  · exact f6 (a,o) (aAj _ g) rfl
 ez:=I.ok.ez
theorem aab{C:Addr}{h':Heap}{t':Nat}{m:Str→Option Value}(I:Inv X pins σ H s)(S:CompScope X scope N' ix)(hC:s.heap.objs.size≤C)(hf:∀b∈fp,J0 X pins H b)(hfo:∀b∈fp,b < C)
 (k:∀b o,s.heap.get? b=some o→h'.get? b=some o)(hn:h'.Ns C m):Inv (X.blk scope N' C s H fp) [] (Ol ix σ) H { s with heap:=h',toks:=t' } where
 ok:=abp I S hC hf hfo
 os:=rfl
 bare:=I.bare
 base:=Un.kept k
 loc := ⟨m, hn,fun i x v e1 e2 e3=>by
  have e2':(ix[i]?).map (fun o=>o.bind fun j=>(σ[j]?).join)=some (some v):=by rw[←aAH];exact e2
  cases q:ix[i]? with
  | none=>rw[q] at e2';cases e2'
  | some o=>
    rw[q] at e2'
    cases o with
    | none=>cases e2'
    | some j=>
      have e2'':(σ[j]?).join=some v:=by simpa using e2'
      have e4:σ[j]?=some (some v):=by
       cases z:σ[j]? with
       | none=>rw[z] at e2'';cases e2''
       | some y=>rw[z] at e2'';exact aA2 some e2''
      obtain⟨o1,o2⟩:=S.out i j q
      have e1':N'[i]?=some x:=e1
      obtain⟨o3,o4⟩:=o2 x e1'
      obtain⟨m0,hn0,hl⟩:=I.loc
      obtain⟨u,r,l⟩:=hl j x v (o1.trans e1') e4 o4
      refine ⟨u,r,.inr ?_⟩
      obtain⟨c,c1,c2⟩:=V9 I S o3
      have fk:=S.free _ o3 rfl
      have hcell:h'.IsCell c (some u):=by
       rcases l with ⟨lk,_⟩ | ⟨_,c',lc,lz⟩
       · rcases fk with z | z <;> (rw[lk] at z;cases z)
       · rw[c2] at lc;cases lc
         exact lz.keeps k
      refine ⟨?_,c,c1,hcell⟩
      have hkd:(scope.names.lookup x).map (QH X.env x)=some (QH X.env x ((scope.names.lookup x).getD .free)):=by
       cases z:scope.names.lookup x with
       | none =>
         exfalso
         have : ∀{l:List (Str×NameKind)},(x,NameKind.free)∈l→l.lookup x≠none:=by
          intro l
          induction l with
          | nil=>intro h;simp at h
          | cons y r ih=>
            intro h
            rw[aBd]
            rcases aAg.mp h with q | q
            · rw[←q];simp
            · cases hb:x == y.1 with
              | true=>simp
              | false=>exact ih q
         exact this o3 z
       | some k=>rfl
      have hvis:Vis (compEnvC scope (Kq X.env.cells scope.names []) C X.env).scope x:=e3
      have hkx:(compEnvC scope (Kq X.env.cells scope.names []) C X.env).kindOf x=some .local∨(compEnvC scope (Kq X.env.cells scope.names []) C X.env).kindOf x=some .cell∨(compEnvC scope (Kq X.env.cells scope.names []) C X.env).kindOf x=some .free:=hvis
      rcases hkx with z | z
      · exfalso
        rw[Ub] at z
        cases w:scope.names.lookup x with
        | none=>rw[w] at z;cases z
        | some k=>
          rw[w] at z
          have z':QH X.env x k=.local:=aAi z
          unfold QH at z'
          split at z'
          · cases z'
          · subst z'
            have:=S.once x (mem_of_lookup w) o3
            exact this
      · exact z⟩
 cell:=fun x c e=>by
  obtain⟨v,z⟩:=I.cell x c (Mq I S x c e)
  exact ⟨v,z.keeps k⟩
 free:=I.hok.fresh hC
 freeC:=fun x c e=>I.freeC x c (Mq I S x c e)
 pin:=fun p hp=>nomatch hp
 hok:=I.hok.kept k
 len:=by
  show (Ol ix σ).length=N'.length
  unfold Ol
  rw[aAf];exact S.len
theorem Ud{C D:Addr}{h':Heap}{s':Shared}{H':Hp}{σ':St}{pins':List (Addr×Obj)}{ys:List V}{its:List Value}{n:Nat}(I:Inv X pins σ H s)(hD:s.heap.objs.size≤D)(hDC:D < C)(hf:∀b∈fp,J0 X pins H b)
 (I':Inv (X.blk scope N' C s H (D :: fp)) pins' σ' H' s')(hs:Heap.SameBut C s'.heap h')(hDn:H' D=none)(hl:ys.length≤sizeLine)(rv:Vals ys its)(ho:s'.heap.get? D=some { cls:=.type "list",data:=.seq its.toArray n }) :
 Inv X pins σ (Hq H' D (.lst ys)) { s' with heap:=h' }:=by
 have nD:∀b o,s.heap.get? b=some o→b≠D:=fun b o e=>aAB (aAC (aAl e) hD)
 have nC:∀b o,s.heap.get? b=some o→b≠C:=fun b o e=>aAB (aCX (aAC (aAl e) hD) hDC)
 have nt:∀b o,H b=some o→b≠D:=fun b o e=>aAB (aAC (I.hok.lt e) hD)
 have nx:∀b o,s.heap.get? b=some o→b∉fp→b∉D :: fp:=fun b o e hb z=>by
  rcases aAg.mp z with q | q
  · exact nD b o e q
  · exact hb q
 have ho':h'.get? D=some { cls:=.type "list",data:=.seq its.toArray n }:=(hs.2 D (aAB hDC)).trans ho
 have hbase:Un (OP X.stack) (D :: fp) H H' s.heap s'.heap:=I'.base
 have hfreeC:H' C=none:=I'.free
 refine I.call' (ch:=fp) (s':={ s' with heap:=h' }) I'.os ⟨fun b o e n hb hx=>?_,fun b o e n hb hx=>?_,fun b o e n hx=>?_,fun b o e hx=>?_,fun b xs e=>?_,fun b o u e=>?_,fun b ps e=>?_⟩ (fun b u e=>?_) I'.bare (fun b hb=>?_)
 · exact (hs.2 b (nC b o e)).trans (hbase.keep b o e n hb (nx b o e hx))
 · obtain⟨sl,q⟩:=hbase.slot b o e n hb (nx b o e hx)
   exact ⟨sl,(hs.2 b (nC b o e)).trans q⟩
 · rw[GY (nD b o e)];exact hbase.free b o e n (nx b o e hx)
 · obtain⟨o',q⟩:=hbase.there b o e (nx b o e hx)
   exact ⟨o',(hs.2 b (nC b o e)).trans q⟩
 · rw[GY (nt b _ e)];exact hbase.tups b xs e
 · rw[GY (nt b _ e)];exact hbase.frzs b o u e
 · rw[GY (nt b _ e)];exact hbase.tbls b ps e
 · by_cases hb:b=D
   · subst hb
     rw[GU] at e;cases e
     exact ⟨hl,its,n,rv,ho'⟩
   · rw[GY hb] at e
     refine (I'.hok b u e).stay (fun c v hc q=>(hs.2 c ?_).trans q) (fun c q=>?_) fun c xs q=>?_
     · rintro rfl
       rcases hc with z | z
       · subst z;rw[hfreeC] at e;cases e
       · rw[hfreeC] at z;cases z
     · rw[GY (G5 q hDn)];exact q
     · rw[GY (G5 q hDn)];exact q
 · exact ⟨(hf b hb).2.2.2.1,(hf b hb).2.1,(hf b hb).2.2.2.2.1,(hf b hb).2.2.2.2.2⟩
end
def YZ(X:Cx)(ifs:List Expr)(tc:TT):Prop:=
 ∀ (pins:List (Addr×Obj)) (s:Shared) (σ:St) (H:Hp) (Q:Bool→Hp→Prop),Inv X pins σ H s→tc σ H Q→
   wpAny (model X.prog X.w) X.A (forIn ifs true fun c r=>if r=true then do let ok ←isTrue c X.env (eval c X.env);pure (ForInStep.yield ok) else pure (ForInStep.yield r)) (TP X pins σ Q) X.xe s
def aaH:TT:=fun _ H Q=>Q true H
theorem Lp{X:Cx}:YZ X [] aaH:=fun _ _ _ H _ I h=>wpAny_tests_nil ⟨H,I,h⟩
theorem KR{X:Cx}{c:Expr}{tc:TT}(hc:PT X c tc):YZ X [c] tc:=fun pins s σ H Q I h=>wpAny_tests_one (hc pins s σ H Q I h)
def Wb(g:TG)(own:List Nat):Prop:=∀v σ H (Q:St→Hp→Prop),g v σ H Q→g v σ H fun σ' H'=>Q σ' H'∧σ'.length=σ.length∧∀k,k∉own→σ'[k]?=σ[k]?
theorem Jb{i:Nat}:Wb (Qj i) [i]:=fun v σ H Q h=>⟨h,List.length_set,fun k hk=>aCi (fun e=>hk (by simp[e]))⟩
def VA(wi:TI)(ix:List (Option Nat))(g:TG)(tc:TT)(te:TE):TE:=fun σ H Q=>wi σ H fun J H1=>∃(n:Nat) (Pv:Nat→List V→Hp→Prop),n≤sizeLine∧Pv 0 [] H1∧
 (∀i ys H2,i < n→Pv i ys H2→J.go i H2∧∀x H3,J.yld i H2 x H3→g x (Ol ix σ) H3 fun σ4 H4=>tc σ4 H4 fun b H5=>if b=true then te σ4 H5 fun y H6=>Pv (i + 1) (ys ++ [y]) H6 else Pv (i + 1) ys H5)∧
 ∀ys H2,Pv n ys H2→J.stop n H2∧∀D,H2 D=none→Q (.ref D) (Hq H2 D (.lst ys))
section
variable{X:Cx}{elt iter tg:Expr}{ifs:List Expr}{scope:Scope}{pos:Pos}{N':List Str}{ix:List (Option Nat)}{own:List Nat}{wi:TI}{g:TG}{tc:TT}{te:TE}
theorem Rz{use:Option (Value→Sem Unit)}{QQ:Value→Shared→Prop}(hcalm:X.prog=X.prog)(S:CompScope X scope N' ix)(hown:∀k∈own,ix[k]?=some none)(hi:PI X tg iter wi)
 (hg:∀C s₂ H₂ ex,PG (X.blk scope N' C s₂ H₂ ex) tg g)(hgo:Wb g own)(hc:∀C s₂ H₂ ex,YZ (X.blk scope N' C s₂ H₂ ex) ifs tc)(he:∀C s₂ H₂ ex,PE (X.blk scope N' C s₂ H₂ ex) elt te)
 (hs:∀x,foldedSetIterable iter X.env x=pure x){pins:List (Addr×Obj)}{s:Shared}{σ:St}{H:Hp}{Q:VK}(I:Inv X pins σ H s)(h:VA wi ix g tc te σ H Q)
 (hend:∀(s2:Shared) (H2:Hp) (fp:List Addr) (C D:Addr) (s4:Shared) (H':Hp) (ys:List V) (its:List Value) (k:Nat) (pins':List (Addr×Obj)) (σ':St),Inv X pins σ H2 s2→s2.heap.objs.size≤D→D < C→(∀b∈fp,J0 X pins H2 b)→
  Inv (X.blk scope N' C s2 H2 (D :: fp)) pins' σ' H' s4→H' D=none→ys.length≤sizeLine→Vals ys its→s4.heap.get? D=some { cls:=.type "list",data:=.seq its.toArray k }→Q (.ref D) (Hq H' D (.lst ys))→
  compPost (model X.prog X.w) X.A X.xe use QQ (.ref D) C (.ok .next) s4)(p':Pos) :
 wpAny (model X.prog X.w) X.A (comprehension (.ListComp elt [⟨tg,iter,ifs,0⟩] scope pos) scope X.env p' (newList []) false (eval iter X.env) use) QQ X.xe s:=by
 refine wpAny_comprehension_free (use:=use) (cl:=Kq X.env.cells scope.names []) rfl hs (QO (Uc I S)) S.kind S.own ?_
 refine Ix (hi pins s σ H _ I h) fun v s1 h1=>Ix h1 fun itv s2 h2=>?_
 obtain⟨it,fp,tn,J,H2,e,I2,T,st2,f2,n,Pv,hn,p0,turn,fin⟩:=h2
 subst e
 refine aCz (wpAny_newFunctionEnv S.cell (by intro y hy;simp at hy) (fun h₁ hns₁ hsb₁=>?_) S.kind)
 dsimp only at hns₁ hsb₁ ⊢
 generalize hH2:s2.heap.push { cls:=.type "list",dict:=none,data:=.seq ([]:List Value).toArray }=G2 at hns₁ hsb₁ ⊢
 have hC:G2.objs.size=s2.heap.objs.size + 1:=by rw[←hH2,aBo]
 have hDC:s2.heap.objs.size < G2.objs.size:=by rw[hC];exact aBN _
 have hCle:s2.heap.objs.size≤G2.objs.size:=aCC hDC
 have old:∀b o,s2.heap.get? b=some o→h₁.get? b=some o:=fun b o e=>hsb₁.extBut b o (aAB (aCX (aAl e) hDC)) (aAe _ (hH2 ▸ aAe _ e))
 have hacc:h₁.get? s2.heap.objs.size=some { cls:=.type "list",data:=.seq #[] }:=hsb₁.extBut _ _ (aAB hDC) (aAe _ (hH2 ▸ aAo _ rfl))
 have hDn:H2 s2.heap.objs.size=none:=I2.hok.fresh (aAh _)
 have fD:∀b∈s2.heap.objs.size :: fp,J0 X pins H2 b:=fun b hb=>by
  rcases aAg.mp hb with q | q
  · rw[q];exact I2.fpOk (aAh _) hDn
  · exact f2 b q
 have lfp:∀b∈fp,b < s2.heap.objs.size:=fun b hb=>by
  obtain⟨o,ho,_⟩:=T.obj 0 _ st2 b hb
  exact aAl ho
 have lD:∀b∈s2.heap.objs.size :: fp,b < G2.objs.size:=fun b hb=>by
  rcases aAg.mp hb with q | q
  · rw[q];exact hDC
  · exact aCX (lfp b q) hDC
 have I3:Inv (X.blk scope N' G2.objs.size s2 H2 (s2.heap.objs.size :: fp)) [] (Ol ix σ) H2 { s2 with heap:=h₁,toks:=s2.toks + ([]:List (Str×Value)).length }:=aab I2 S hCle fD lD old hns₁
 have st3:tn 0 h₁:=T.keep 0 _ _ st2 fun b hb o e=>old b o e
 have noxE:∀{α:Type} {t:Sem α} {Q':α→Shared→Prop} {E':Value→Shared→Prop} {s':Shared},wpAny (model X.prog X.w) X.A t Q' (fun _ _=>False) s'→wpAny (model X.prog X.w) X.A t Q' E' s':=fun w=>aA9 w (fun _ _ q=>q) fun _ _ z=>False.elim z
 have fpB:∀{H':Hp} {pins':List (Addr×Obj)},(∀b∈s2.heap.objs.size :: fp,H' b=none)→pins'=[]→∀b∈s2.heap.objs.size :: fp,J0 (X.blk scope N' G2.objs.size s2 H2 (s2.heap.objs.size :: fp)) pins' H' b:=by
  intro H' pins' hn' hp b hb
  subst hp
  have ok:=I3.ok
  exact ⟨hn' b hb,(ok.exf b hb).1,ok.exfs b hb,.inl hb,(ok.exf b hb).2,fun p hp=>nomatch hp⟩
 have loop : ∀s3:Shared,s3={ s2 with heap:=h₁,toks:=s2.toks + ([]:List (Str×Value)).length }→
  codeAny (model X.prog X.w) X.A (.compLoop (.ListComp elt [⟨tg,iter,ifs,0⟩] scope pos) 0 (.ref it) (.ref s2.heap.objs.size) (compEnvC scope (Kq X.env.cells scope.names []) G2.objs.size X.env))
   (compPost (model X.prog X.w) X.A X.xe use QQ (.ref s2.heap.objs.size) G2.objs.size) s3:=by
  rintro s3 rfl
  refine codeAny_loop rfl (fun mm s'=>∃i ys its k H',mm=n - i∧i≤n∧ys.length≤i∧Inv (X.blk scope N' G2.objs.size s2 H2 (s2.heap.objs.size :: fp)) [] (Ol ix σ) H' s'∧tn i s'.heap∧
   (∀b∈s2.heap.objs.size :: fp,H' b=none)∧Vals ys its∧s'.heap.get? s2.heap.objs.size=some { cls:=.type "list",data:=.seq its.toArray k }∧Pv i ys H') ?_ n
   ⟨0,[],[],_,H2,rfl,aAJ _,aAh _,I3,st3,fun b hb=>(fD b hb).1,.nil,hacc,p0⟩
  rintro mm s' ⟨i,ys,its,k,H',rfl,hin,hyl,I',st',fr',rv,hob,pv⟩
  show wpAny _ X.A ((compTurn (.ListComp elt [⟨tg,iter,ifs,0⟩] scope pos) 0 (.ref it) (.ref s2.heap.objs.size) (compEnvC scope (Kq X.env.cells scope.names []) G2.objs.size X.env)).onRaise (fun x=>do noteFrame x (compEnvC scope (Kq X.env.cells scope.names []) G2.objs.size X.env);theTreesLotGoes x)) _ _ s'
  refine wpAny_noted ?_
  rw[compTurn_list]
  refine aAb (aCL (aAb ?_))
  have fpT:∀b∈fp,J0 (X.blk scope N' G2.objs.size s2 H2 (s2.heap.objs.size :: fp)) [] H' b:=fun b hb=>fpB fr' rfl b (aAq _ hb)
  by_cases hlt:i < n
  · obtain ⟨go,step⟩:=turn i ys H' hlt pv
    refine noxE (Ix (T.item (X.blk scope N' G2.objs.size s2 H2 (s2.heap.objs.size :: fp)) rfl rfl rfl hcalm i [(s2.heap.objs.size,({ cls:=.type "list",data:=.seq its.toArray k }:Obj))] s' _ H' (fun _ _=>False) (I'.pins_of fun p hp=>?_) (fun b hb=>?_) st' go) fun r s4 ⟨u,hr,h4⟩=>?_)
    · obtain rfl:=aAc.mp hp
      refine ⟨hob,fr' _ aAp,aAB hDC,?_,fun v z=>?_⟩
      · exact I3.ok.exfs _ aAp
      · have z':Data.seq _ _=Data.cell v:=z
        cases z'
    · obtain⟨f0,f1,f2',f3,f4,f5⟩:=fpT b hb
      refine ⟨f0,f1,f2',f3,f4,fun p hp=>?_⟩
      obtain rfl:=aAc.mp hp
      exact aBu (lfp b hb)
    · subst hr
      refine aAb (noxE (Ix h4 fun _ s5 ⟨x,H5,I5,r5,y5,st5,fr5⟩=>?_))
      have D5:=I5.pin (s2.heap.objs.size,({ cls:=.type "list",data:=.seq its.toArray k }:Obj)) (by simp[Cx.blk])
      have fr5':∀b∈s2.heap.objs.size :: fp,H5 b=none:=fun b hb=>by
       rcases aAg.mp hb with q | q
       · rw[q];exact D5.2.1
       · exact fr5 b q
      have I5':Inv (X.blk scope N' G2.objs.size s2 H2 (s2.heap.objs.size :: fp)) ([] ++ NO (s2.heap.objs.size :: fp) s5.heap) (Ol ix σ) H5 s5:=
       (I5.pins_of (pins':=[]) fun p hp=>nomatch hp).pinned (fpB fr5' rfl) fun b hb=>by
        rcases aAg.mp hb with q | q
        · subst q
          exact ⟨_,D5.1,D5.2.2.2.2⟩
        · exact T.obj _ _ st5 b q
      refine aAb (noxE (Ix (hg _ _ _ _ _ s5 _ H5 x u _ I5' r5 (hgo _ _ _ _ (step x H5 y5))) fun _ s6 ⟨σ6,H6,I6,q6,l6,k6⟩=>?_))
      refine aAb (noxE (Ix (hc _ _ _ _ _ s6 σ6 H6 _ I6 q6) fun ok s7 ⟨H7,I7,q7⟩=>?_))
      have back:∀{H8:Hp} {s8:Shared},Inv (X.blk scope N' G2.objs.size s2 H2 (s2.heap.objs.size :: fp)) ([] ++ NO (s2.heap.objs.size :: fp) s5.heap) σ6 H8 s8→
       Inv (X.blk scope N' G2.objs.size s2 H2 (s2.heap.objs.size :: fp)) [] (Ol ix σ) H8 s8∧tn (i + 1) s8.heap∧(∀b∈s2.heap.objs.size :: fp,H8 b=none)∧s8.heap.get? s2.heap.objs.size=some { cls:=.type "list",data:=.seq its.toArray k }:=by
       intro H8 s8 I8
       have hp:∀b∈s2.heap.objs.size :: fp,∀o,s5.heap.get? b=some o→s8.heap.get? b=some o∧H8 b=none:=fun b hb o e=>
        let z:=I8.pin (b,o) (aAu _ (aAu _ (ML hb e)))
        ⟨z.1,z.2.1⟩
       refine ⟨(I8.pins_of (pins':=[]) fun p hp=>nomatch hp).weak (by rw[l6]) (fun j v ej=>?_),T.keep _ _ _ st5 (fun b hb o e=>(hp b (aAq _ hb) o e).1),fun b hb=>?_,(hp _ aAp _ D5.1).1⟩
       · by_cases hj:j∈own
         · exfalso
           have e1:(ix[j]?).map (fun o=>o.bind fun j=>(σ[j]?).join)=some (some v):=by rw[←aAH];exact ej
           rw[hown j hj] at e1
           cases e1
         · rw[k6 j hj];exact ej
       · rcases aAg.mp hb with q | q
         · rw[q];exact (hp _ aAp _ D5.1).2
         · obtain⟨o,ho,_⟩:=T.obj _ _ st5 b q
           exact (hp b hb o ho).2
      cases ok with
      | false=>
        have q7':Pv (i + 1) ys H7:=by simpa using q7
        obtain⟨b1,b2,b3,b4⟩:=back I7
        exact aAm ⟨rfl,n - (i + 1),by omega,i + 1,ys,its,k,H7,rfl,hlt,Nat.le_succ_of_le hyl,b1,b2,b3,rv,b4,q7'⟩
      | true=>
        have q7':te σ6 H7 fun y H6=>Pv (i + 1) (ys ++ [y]) H6:=by simpa using q7
        refine aAb (aAb (noxE (Ix (he _ _ _ _ _ s7 σ6 H7 _ I7 q7') fun z s8 ⟨y,H8,I8,r8,q8⟩=>?_)))
        obtain⟨b1,b2,b3,b4⟩:=back I8
        have hsz:its.toArray.size≤sizeLine:=by rw[aAw,←rv.length];omega
        refine aAb (append_at (hsz:=hsz) b4 fun h9 hs9 hD9=>?_)
        · refine aAm (aAm ⟨rfl,n - (i + 1),by omega,i + 1,ys ++ [y],its ++ [z],k + 1,H8,rfl,hlt,?_,?_,?_,b3,?_,?_,q8⟩)
          · rw[aAk,aAT];exact Nat.succ_le_succ hyl
          · have fd:=fpB b3 rfl _ aAp
            exact b1.turned (t':=s8.toks) (fun b o hb e=>hs9.extBut b o hb e) fd.1 fd.2.1 fd.2.2.2.1 fd.2.2.2.2.1 fd.2.2.2.2.2
          · exact T.keep _ _ _ b2 fun b hb o e=>hs9.extBut b o (aAB (lfp b hb)) e
          · exact rv.append (.cons r8 .nil)
          · rw[hD9];simp
  · have hieq:i=n:=by omega
    subst hieq
    obtain⟨stop,qf⟩:=fin ys H' pv
    refine noxE (Ix (T.done (X.blk scope N' G2.objs.size s2 H2 (s2.heap.objs.size :: fp)) rfl rfl rfl hcalm i [(s2.heap.objs.size,({ cls:=.type "list",data:=.seq its.toArray k }:Obj))] s' _ H' (fun _ _=>False) (I'.pins_of fun p hp=>?_) (fun b hb=>?_) st' stop) fun r s4 ⟨hr,I4⟩=>?_)
    · obtain rfl:=aAc.mp hp
      refine ⟨hob,fr' _ aAp,aAB hDC,?_,fun v z=>?_⟩
      · exact I3.ok.exfs _ aAp
      · have z':Data.seq _ _=Data.cell v:=z
        cases z'
    · obtain⟨f0,f1,f2',f3,f4,f5⟩:=fpT b hb
      refine ⟨f0,f1,f2',f3,f4,fun p hp=>?_⟩
      obtain rfl:=aAc.mp hp
      exact aBu (lfp b hb)
    · subst hr
      have D4:=I4.pin (s2.heap.objs.size,({ cls:=.type "list",data:=.seq its.toArray k }:Obj)) (by simp[Cx.blk])
      refine aAm ?_
      exact hend s2 H2 fp _ _ s4 H' ys its k _ _ I2 (aAh _) hDC f2 I4 D4.2.1 (aBh hyl hn) rv D4.1 (qf _ D4.2.1)
 refine codeAny_compStart_list (loop _ rfl) (T.self X.A 0 _ _ _ st3 (loop _ rfl))
theorem Km(hcalm:X.prog=X.prog)(S:CompScope X scope N' ix)(hown:∀k∈own,ix[k]?=some none)(hi:PI X tg iter wi)
 (hg:∀C s₂ H₂ ex,PG (X.blk scope N' C s₂ H₂ ex) tg g)(hgo:Wb g own)(hc:∀C s₂ H₂ ex,YZ (X.blk scope N' C s₂ H₂ ex) ifs tc)(he:∀C s₂ H₂ ex,PE (X.blk scope N' C s₂ H₂ ex) elt te)
 (hs:∀x,foldedSetIterable iter X.env x=pure x:=by intro _;rfl) :
 PE X (.ListComp elt [⟨tg,iter,ifs,0⟩] scope pos) (VA wi ix g tc te):=by
 intro pins s σ H Q I h
 rw[eval_ListComp]
 refine Rz (use:=none) hcalm S hown hi hg hgo hc he hs I h (fun s2 H2 fp C D s4 H' ys its k pins' σ' I2 hD hDC f2 I4 hDn hl rv ho q=>?_) _
 obtain⟨m4,hn4,_⟩:=id I4.loc
 exact ⟨m4,hn4,fun h' hs'=>⟨.ref D,Hq H' D (.lst ys),Ud I2 hD hDC f2 I4 hs' hDn hl rv ho,rfl,q⟩⟩
theorem Sa{i:Nat}{y:Str}{py spos:Pos}(hN:X.N.Nodup)(hyi:X.N[i]?=some y)(hyl:Loc X.env.scope y)(hcalm:X.prog=X.prog)(S:CompScope X scope N' ix)(hown:∀k∈own,ix[k]?=some none)(hi:PI X tg iter wi)
 (hg:∀C s₂ H₂ ex,PG (X.blk scope N' C s₂ H₂ ex) tg g)(hgo:Wb g own)(hc:∀C s₂ H₂ ex,YZ (X.blk scope N' C s₂ H₂ ex) ifs tc)(he:∀C s₂ H₂ ex,PE (X.blk scope N' C s₂ H₂ ex) elt te)
 (hsw:swapsWith (.ListComp elt [⟨tg,iter,ifs,0⟩] scope pos) (some (.Name y py)) spos.line X.env=pure true:=by rfl)
 (hs:∀x,foldedSetIterable iter X.env x=pure x:=by intro _;rfl)(hf:X.fn y=true∨X.env.scope.names.lookup y=some .local:=by first | exact .inl rfl | exact .inr rfl | assumption) :
 PS X (.Assign [.Name y py] (.ListComp elt [⟨tg,iter,ifs,0⟩] scope pos) spos) (Ze (VA wi ix g tc te) (Qj i)):=by
 intro pins s σ H D0 I h
 rw[exec_Assign_Name_used _ _ _ _ hsw]
 refine aAb (aCL (aAb ?_))
 show wpAny _ X.A (do let _ ←comprehension (.ListComp elt [⟨tg,iter,ifs,0⟩] scope pos) scope X.env _ (newList []) false (eval iter X.env) (some (assign (.Name y py) X.env))) _ _ s
 refine aAb (aA9 (Rz (use:=some (assign (.Name y py) X.env)) (QQ:=fun _ s'=>SP X pins D0 .next s') hcalm S hown hi hg hgo hc he hs I h (fun s2 H2 fp C D s4 H' ys its k pins' σ' I2 hD hDC f2 I4 hDn hl rv ho q=>?_) _) (fun _ s' hq=>aAm (aAm hq)) fun _ _ e=>e)
 have J4:Inv X pins σ (Hq H' D (.lst ys)) s4:=Ud I2 hD hDC f2 I4 (Heap.SameBut.refl C s4.heap) hDn hl rv ho
 obtain⟨m4,hn4,_⟩:=id I4.loc
 have hCs:s2.heap.objs.size≤C:=aCC (Nat.lt_of_le_of_lt hD hDC)
 have cL:C≠X.env.locals:=aBu (aAC I2.lt hCs)
 have cC:∀x c,X.env.cells.lookup x=some c→c≠C:=fun x c e=>by
  obtain⟨v,q⟩:=I2.cell x c e
  exact aAB (aAC q.lt hCs)
 have cH:Hq H' D (.lst ys) C=none:=by rw[GY (aBu hDC)];exact I4.free
 show wpAny _ X.A (assign (.Name y py) X.env (.ref D)) _ _ s4
 refine wpAny_assign_Name (Q9 (v:=.ref D) J4 hN hyi hyl rfl (fun s5 I5 ⟨a,sb,ha⟩=>?_) hf)
 have ca:C≠a:=by
  rcases ha with z | z
  · rw[z];exact cL
  · exact fun w=>cC _ _ z w.symm
 refine ⟨m4,hn4.sameBut sb ca,fun h' hs'=>?_⟩
 refine ⟨σ.set i (some (.ref D)),Hq H' D (.lst ys),?_,q⟩
 exact I5.turned (t':=s5.toks) (fun b o hb e=>hs'.extBut b o hb e) cH cL (.inr (aBh I2.sz hCs)) cC (fun p hp z=>by
  have:=aAl (I2.pin p hp).1
  rw[z] at this
  exact absurd (aAC this hCs) (aAU _))
end
end L2
namespace L2
open PySem PySem.Spec PyProof.Rows
mutual
def Has(H:Hp):V→PyData→Prop
 | v,.none=>v=.non
 | v,.bool b=>v=.bl b
 | v,.int i=>v=.int i
 | v,.str x=>v=.str x
 | v,.list ds=>∃a xs,v=.ref a∧H a=some (.lst xs)∧HasL H xs ds
 | v,.tuple ds=>∃a xs,v=.ref a∧H a=some (.tup xs)∧HasL H xs ds
 | _,.dict _=>False
def HasL(H:Hp):List V→List PyData→Prop
 | xs,[]=>xs=[]
 | xs,d :: ds=>∃x r,xs=x :: r∧Has H x d∧HasL H r ds
end
mutual
theorem Has.same{H H':Hp}(e:Same H H'):∀{v:V} {d:PyData},Has H v d→Has H' v d
 | v,.none,h=>by unfold Has at h ⊢;exact h
 | v,.bool b,h=>by unfold Has at h ⊢;exact h
 | v,.int i,h=>by unfold Has at h ⊢;exact h
 | v,.str x,h=>by unfold Has at h ⊢;exact h
 | v,.list ds,h=>by
   unfold Has at h ⊢
   obtain⟨a,xs,h1,h2,h3⟩:=h
   exact ⟨a,xs,h1,e _ _ h2,HasL.same e h3⟩
 | v,.tuple ds,h=>by
   unfold Has at h ⊢
   obtain⟨a,xs,h1,h2,h3⟩:=h
   exact ⟨a,xs,h1,e _ _ h2,HasL.same e h3⟩
 | v,.dict kvs,h=>by unfold Has at h;exact h.elim
theorem HasL.same{H H':Hp}(e:Same H H'):∀{xs:List V} {ds:List PyData},HasL H xs ds→HasL H' xs ds
 | xs,[],h=>by unfold HasL at h ⊢;exact h
 | xs,d :: ds,h=>by
   unfold HasL at h ⊢
   obtain⟨x,r,h1,h2,h3⟩:=h
   exact ⟨x,r,h1,Has.same e h2,HasL.same e h3⟩
end
theorem HasL.length{H:Hp}:∀{xs:List V} {ds:List PyData},HasL H xs ds→xs.length=ds.length
 | xs,[],h=>by unfold HasL at h;subst h;rfl
 | xs,d :: ds,h=>by
   unfold HasL at h
   obtain⟨x,r,rfl,h2,h3⟩:=h
   simp[HasL.length h3]
theorem HasL.get{H:Hp}:∀{xs:List V} {ds:List PyData} {i:Nat} {d:PyData},HasL H xs ds→ds[i]?=some d→∃x,xs[i]?=some x∧Has H x d
 | xs,[],i,d,h,e=>by simp at e
 | xs,d' :: ds,0,d,h,e=>by
   unfold HasL at h
   obtain⟨x,r,rfl,h2,h3⟩:=h
   simp at e;subst e
   exact ⟨x,rfl,h2⟩
 | xs,d' :: ds,i + 1,d,h,e=>by
   unfold HasL at h
   obtain⟨x,r,rfl,h2,h3⟩:=h
   obtain⟨y,h4,h5⟩:=HasL.get (i:=i) h3 (by simpa using e)
   exact ⟨y,by simpa using h4,h5⟩
theorem HasL.append{H:Hp}:∀{xs ys:List V} {ds es:List PyData},HasL H xs ds→HasL H ys es→HasL H (xs ++ ys) (ds ++ es)
 | xs,ys,[],es,h,h'=>by unfold HasL at h;subst h;simpa using h'
 | xs,ys,d :: ds,es,h,h'=>by
   unfold HasL at h
   obtain⟨x,r,rfl,h2,h3⟩:=h
   show HasL H (x :: (r ++ ys)) (d :: (ds ++ es))
   unfold HasL
   exact ⟨x,r ++ ys,rfl,h2,HasL.append h3 h'⟩
theorem HH{H:Hp}:HasL H [] []:=by unfold HasL;rfl
theorem Hi{H:Hp}{x:V}{xs:List V}{d:PyData}{ds:List PyData}(h:Has H x d)(t:HasL H xs ds):HasL H (x :: xs) (d :: ds):=by unfold HasL;exact ⟨x,xs,rfl,h,t⟩
theorem T2{H:Hp}(b:Bool):Has H (.bl b) (.bool b):=by unfold Has;rfl
theorem IS{H:Hp}(i:Int):Has H (.int i) (.int i):=by unfold Has;rfl
theorem Kw{H:Hp}(x:Str):Has H (.str x) (.str x):=by unfold Has;rfl
theorem Ic{H:Hp}{a:Addr}{xs:List V}{ds:List PyData}(h:H a=some (.lst xs))(t:HasL H xs ds):Has H (.ref a) (.list ds):=by unfold Has;exact ⟨a,xs,rfl,h,t⟩
theorem Mn{H:Hp}{a:Addr}{xs:List V}{ds:List PyData}(h:H a=some (.tup xs))(t:HasL H xs ds):Has H (.ref a) (.tuple ds):=by unfold Has;exact ⟨a,xs,rfl,h,t⟩
section
variable{X:Cx}{pins:List (Addr×Obj)}{σ:St}{H:Hp}{s:Shared}
mutual
theorem Kl(I:Inv X pins σ H s):∀{v:V} {d:PyData} {u:Value},Has H v d→RelV v u→∃as,Reads s.heap u d as
 | v,.none,u,h,r=>by unfold Has at h;subst h;cases (show u=Value.none from r);exact ⟨_,.none⟩
 | v,.bool b,u,h,r=>by unfold Has at h;subst h;cases (show u=Value.bool b from r);exact ⟨_,.bool b⟩
 | v,.int i,u,h,r=>by unfold Has at h;subst h;obtain⟨t,rfl⟩:=r;exact ⟨_,.int i t⟩
 | v,.str x,u,h,r=>by unfold Has at h;subst h;obtain⟨t,rfl⟩:=r;exact ⟨_,.str x t⟩
 | v,.list ds,u,h,r=>by
   unfold Has at h
   obtain⟨a,xs,rfl,h2,h3⟩:=h
   cases (show u=Value.ref a from r)
   obtain⟨z,its,n,rv,e⟩:=(show ObjOk X.prog X.w H s.heap a (.lst xs) from I.hok a _ h2)
   obtain⟨as,ra⟩:=MO I h3 rv
   exact ⟨_,.list e rfl rfl (by simpa using ra)⟩
 | v,.tuple ds,u,h,r=>by
   unfold Has at h
   obtain⟨a,xs,rfl,h2,h3⟩:=h
   cases (show u=Value.ref a from r)
   obtain⟨z,its,rv,p⟩:=(show ObjOk X.prog X.w H s.heap a (.tup xs) from I.hok a _ h2)
   obtain⟨o,e,c,n,d⟩:=p
   obtain⟨as,ra⟩:=MO I h3 rv
   exact ⟨_,.tuple e c d (by simpa using ra)⟩
 | v,.dict kvs,u,h,r=>by unfold Has at h;exact h.elim
theorem MO(I:Inv X pins σ H s):∀{xs:List V} {ds:List PyData} {us:List Value},HasL H xs ds→Vals xs us→∃as,ReadsAll s.heap us ds as
 | xs,[],us,h,r=>by
   unfold HasL at h
   subst h
   cases Vals.zero r
   exact ⟨_,.nil⟩
 | xs,d :: ds,us,h,r=>by
   unfold HasL at h
   obtain⟨x,rr,rfl,h2,h3⟩:=h
   cases r with
   | cons r1 r2=>
     obtain⟨as,a1⟩:=Kl I h2 r1
     obtain⟨bs,a2⟩:=MO I h3 r2
     exact ⟨_,.cons a1 a2⟩
end
def acI:R2:=fun x y H Q=>∃d e,Has H x d∧Has H y e∧SeqAt.shaped d=true∧SeqAt.shaped e=true∧Q (.bl (PyData.eqv d e)) H
def Zp:R2:=fun x y H Q=>∃d e,Has H x d∧Has H y e∧SeqAt.shaped d=true∧SeqAt.shaped e=true∧Q (.bl (!PyData.eqv d e)) H
theorem XZ(hu:X.A.units + 64 < cLine):Mu X (compareOp .Eq) acI:=by
 rintro pins s σ H x y v u Q I rx ry ⟨d,e,h1,h2,s1,s2,q⟩
 obtain⟨as,r1⟩:=Kl I h1 rx
 obtain⟨bs,r2⟩:=Kl I h2 ry
 exact eq_dataH r1 r2 s1 s2 hu ⟨.bl _,H,I,rfl,q⟩
theorem NR(hu:X.A.units + 64 < cLine):Mu X (compareOp .NotEq) Zp:=by
 rintro pins s σ H x y v u Q I rx ry ⟨d,e,h1,h2,s1,s2,q⟩
 obtain⟨as,r1⟩:=Kl I h1 rx
 obtain⟨bs,r2⟩:=Kl I h2 ry
 exact ne_dataH r1 r2 s1 s2 hu ⟨.bl _,H,I,rfl,q⟩
end
structure Callee(P:Program)(w:World)(K:W.Frag)(mg:Str→Option Value)(base:Heap)(k:Nat)(x:Str)(ps:List Str)(sp:Sp):Prop where
 ex:∃f fd,FnOk P w K mg base Jg k f fd ps sp∧mg x=some (.ref f)∧W.keepIn K (.ref f)=true∧Binds K fd ps []
section
variable{X:Cx}{k:Nat}{x:Str}{ps:List Str}{sp:Sp}{e:Expr}{es:List Expr}{t:TA}{p pos:Pos}
theorem abX(C:Callee X.prog X.w X.K X.mg X.base k x ps sp)(hr:Room k X.A)(ha:PA X (e :: es) t)(hg:Gl X x:=by rfl)(hdb:(x == ("__debug__" : Str))=false:=by decide)
 (he:starEach (e :: es) X.env=(false,eval e X.env) :: starEach es X.env:=by rfl)(hpl:(backTo pos (starEach es X.env)).any (·.1)=false:=by rfl) :
 PE X (.Call (.Name x p) (e :: es) [] pos) (SW sp [] E0 t):=by
 obtain⟨f,fd,F,hm,hk,hb⟩:=C.ex
 exact ZD F hr hg hm hk hb .nil Rk ha hdb he hpl
end
def abB(o:Option NameKind):Bool:=o == some .local || o == some .cell || o == some .free
def YW(osc:Scope)(ON:List Str)(scope:Scope)(N':List Str)(ix:List (Option Nat)):Bool:=
 scope.kind == .function && scope.names.all (fun y=>y.2 != .cell) && scope.names.all (fun y=>y.2 != .local || scope.names.lookup y.1 == some .local) &&
 scope.names.all (fun y=>y.2 != .free || (osc.names.lookup y.1 == some .cell || osc.names.lookup y.1 == some .free)) &&
 scope.names.all (fun y=>y.2 != .local || !(scope.names.any fun z=>z.1 == y.1 && z.2 == .free)) && ix.length == N'.length &&
 (List.range ix.length).all fun i=>match ix[i]? with
  | some (some j)=>ON[j]? == N'[i]? && (match N'[i]? with | some x=>(scope.names.any fun z=>z.1 == x && z.2 == .free) && abB (osc.names.lookup x) | none=>true)
  | _=>true
theorem LA{X:Cx}{osc:Scope}{ON:List Str}{scope:Scope}{N':List Str}{ix:List (Option Nat)}(h1:X.env.scope=osc)(h2:X.N=ON)(h:YW osc ON scope N' ix=true):CompScope X scope N' ix:=by
 unfold YW at h
 simp only[aAR] at h
 obtain⟨⟨⟨⟨⟨⟨a1,a2⟩,a3⟩,a4⟩,a5⟩,a6⟩,a7⟩:=h
 rw[List.all_eq_true] at a2 a3 a4 a5 a7
 refine ⟨eq_of_beq a1,fun y hy=>by simpa using a2 y hy,fun y hy hl=>?_,fun y hy hl=>?_,fun x h3 h4=>?_,eq_of_beq a6,fun i j hij=>?_⟩
 · have:=a3 y hy
   rw[hl] at this
   simpa using this
 · have:=a4 y hy
   rw[hl] at this
   have e:X.env.kindOf y.1=osc.names.lookup y.1:=by rw[←h1];rfl
   rw[e]
   simpa using this
 · have:=a5 _ h3
   simp only[aC4,Bool.false_or,aC5] at this
   rw[List.any_eq_false] at this
   have z:=this _ h4
   simp at z
 · have hi:i < ix.length:=(aAn.mp hij).1
   have:=a7 i (List.mem_range.mpr hi)
   rw[hij] at this
   simp only[aAR] at this
   obtain⟨b1,b2⟩:=this
   refine ⟨by rw[h2];exact eq_of_beq b1,fun x hx=>?_⟩
   rw[hx] at b2
   simp only[aAR] at b2
   obtain⟨c1,c2⟩:=b2
   obtain⟨z,hz,hz2⟩:=aB4.mp c1
   simp only[aAR,aB8] at hz2
   obtain⟨z1,z2⟩:=z
   obtain⟨rfl,rfl⟩:=hz2
   refine ⟨hz,?_⟩
   unfold abB at c2
   simp only[Bool.or_eq_true,aB8] at c2
   unfold Vis
   rw[h1]
   rcases c2 with (c2 | c2) | c2
   · exact .inl c2
   · exact .inr (.inl c2)
   · exact .inr (.inr c2)
theorem Same.new{H:Hp}{p:Addr}{o:HO}(h:H p=none):Same H (Hq H p o):=fun b u e=>by rw[GY (G5 e h)];exact e
theorem Same.tup{K:W.Frag}{H H':Hp}(e:Same H H'){a:Addr}{xs:List V}(h:SqT K H a xs):SqT K H' a xs:=by
 rcases h with (h | ⟨o,h⟩) | h
 · exact .inl (.inl (e _ _ h))
 · exact .inl (.inr ⟨o,e _ _ h⟩)
 · exact .inr h
theorem SqT.ofT{K:W.Frag}{H:Hp}{a:Addr}{xs:List V}(h:H a=some (.tup xs)):SqT K H a xs:=.inl (.inl h)
theorem SqL.ofL{K:W.Frag}{H:Hp}{a:Addr}{xs:List V}(h:H a=some (.lst xs)):SqL K H a xs:=.inl (.inl h)
theorem R6{σ:St}{H:Hp}{Q:Bool→Hp→Prop}(h:Q true H):aaH σ H Q:=h
theorem HN{i:Nat}{v:V}{σ:St}{H:Hp}{Q:St→Hp→Prop}(h:Q (σ.set i (some v)) H):Qj i v σ H Q:=h
end L2
namespace L2
open PySem PySem.Spec PyProof.Rows
section
variable{X:Cx}
def abW(K:W.Frag):R2:=fun x y H Q=>∃a b xs,x=.ref a∧y=.ref b∧SqL K H a xs∧SqL K H b []∧Q (.bl xs.isEmpty) H
def abS(K:W.Frag):R2:=fun x y H Q=>∃a b xs,x=.ref a∧y=.ref b∧SqL K H a xs∧SqL K H b []∧Q (.bl (!xs.isEmpty)) H
theorem aa5(hu:X.A.units < cLine):Mu X (compareOp .Eq) (abW X.K):=by
 rintro pins s σ H x y v u Q I rx ry ⟨a,b,xs,rfl,rfl,ha,hb,q⟩
 cases rx;cases ry
 obtain⟨its,r1,p1,_⟩:=I.list ha
 obtain⟨its2,r2,p2,_⟩:=I.list hb
 cases Vals.zero r2
 by_cases h:xs=[]
 · subst h
   cases Vals.zero r1
   exact SeqAt.RcAt.lists (e:=fun _=>true) p1.isList p2.isList rfl hu (fun j h1 _=>absurd h1 (by simp)) _ _ _ _ ⟨.bl true,H,I,rfl,q⟩
 · have e:xs.isEmpty=false:=by simpa using h
   rw[e] at q
   have hl:=r1.length
   refine SeqAt.RcAt.lists_lengths p1.isList p2.isList ?_ hu _ _ _ _ ⟨.bl false,H,I,rfl,q⟩
   have:xs.length≠0:=fun z=>h (aBE.mp z)
   simp;intro z;subst z;simp at hl;exact this (by simpa using hl)
theorem aa2(hu:X.A.units < cLine):Mu X (compareOp .NotEq) (abS X.K):=by
 rintro pins s σ H x y v u Q I rx ry ⟨a,b,xs,rfl,rfl,ha,hb,q⟩
 cases rx;cases ry
 obtain⟨its,r1,p1,_⟩:=I.list ha
 obtain⟨its2,r2,p2,_⟩:=I.list hb
 cases Vals.zero r2
 by_cases h:xs=[]
 · subst h
   cases Vals.zero r1
   exact SeqAt.RcNeAt.lists (e:=fun _=>true) p1.isList p2.isList rfl hu (fun j h1 _=>absurd h1 (by simp)) _ _ _ _ ⟨.bl false,H,I,rfl,q⟩
 · have e:xs.isEmpty=false:=by simpa using h
   rw[e] at q
   have hl:=r1.length
   refine SeqAt.RcNeAt.lists_lengths p1.isList p2.isList ?_ hu _ _ _ _ ⟨.bl true,H,I,rfl,q⟩
   have:xs.length≠0:=fun z=>h (aBE.mp z)
   simp;intro z;subst z;simp at hl;exact this (by simpa using hl)
end
end L2
namespace L2
open PySem PySem.Spec PyProof.Rows
def PP:Expr→Bool
 | .Starred _ _=>false
 | _=>true
theorem Lc{e:Expr}{es:List Expr}{env:Env}(h:PP e=true):starEach (e :: es) env=(false,eval e env) :: starEach es env:=by
 cases e <;> first | rfl | (exact absurd (show false=true from h) aAK)
structure PAs(X:Cx)(es:List Expr)(t:TA):Prop where
 pa:PA X es t
 st:∀env,starEach es env=es.map fun e=>(false,eval e env)
section
variable{X:Cx}{e:Expr}{es:List Expr}{te:TE}{t:TA}{pos p:Pos}{x:Str}{k:Nat}{ps:List Str}{sp:Sp}{id T:String}{r:List V→Hp→VK→Prop}
theorem GZ:PAs X [] SS:=⟨IE,fun _=>rfl⟩
theorem GW(ha:PE X e te)(hr:PAs X es t)(hp:PP e=true:=by rfl):PAs X (e :: es) (SV te t):=
 ⟨HU ha hr.pa (Lc hp),fun env=>by rw[Lc hp,hr.st];rfl⟩
theorem JG(pos:Pos)(env:Env):∀es:List Expr,(backTo pos (es.map fun e=>(false,eval e env))).any (·.1)=false
 | []=>rfl
 | e :: es=>by
   show (false || (backTo pos (es.map fun e=>(false,eval e env))).any (·.1))=false
   rw[JG pos env es];rfl
theorem PAs.he(h:PAs X (e :: es) t)(ht:∀env,starEach es env=es.map fun e=>(false,eval e env)):starEach (e :: es) X.env=(false,eval e X.env) :: starEach es X.env:=by
 rw[h.st,ht];rfl
structure PAt(X:Cx)(e:Expr)(es:List Expr)(t:TA):Prop where
 all:PAs X (e :: es) t
 tl:∀env,starEach es env=es.map fun e=>(false,eval e env)
theorem G0(ha:PE X e te)(hr:PAs X es t)(hp:PP e=true:=by rfl):PAt X e es (SV te t):=⟨GW ha hr hp,hr.st⟩
theorem HJ(h:PAs X es t):PE X (.List es pos) (abH t):=aaZ h.pa
theorem Iw{x1}(h:PAs X es t):PE X (.Tuple es x1 pos) (abC t):=aaY h.pa
theorem HE(C:Callee X.prog X.w X.K X.mg X.base k x ps sp)(hr:Room k X.A)(ha:PAt X e es t)(hg:Gl X x:=by rfl)(hdb:(x == ("__debug__" : Str))=false:=by decide) :
 PE X (.Call (.Name x p) (e :: es) [] pos) (SW sp [] E0 t):=abX C hr ha.all.pa hg hdb (ha.all.he ha.tl) (by rw[ha.tl];exact JG _ _ _)
theorem Ij(hc:Kr X (.builtin id) r)(hg:Gl X x)(hm:X.mg x=none)(hv:bootBuiltins x=some (.builtin id))(ha:PAt X e es t)(hn:x≠"__name__":=by decide)(hdb:(x == ("__debug__" : Str))=false:=by decide) :
 PE X (.Call (.Name x p) (e :: es) [] pos) (tCB r t):=XU hc hg hm hv ha.all.pa hn hdb (ha.all.he ha.tl) (by rw[ha.tl];exact JG _ _ _)
theorem ID(hc:Kr X (.type T) r)(hg:Gl X x)(hm:X.mg x=none)(hv:bootBuiltins x=some (.type T))(ha:PAt X e es t)(hn:x≠"__name__":=by decide)(hdb:(x == ("__debug__" : Str))=false:=by decide) :
 PE X (.Call (.Name x p) (e :: es) [] pos) (tCB r t):=Wq hc hg hm hv ha.all.pa hn hdb (ha.all.he ha.tl) (by rw[ha.tl];exact JG _ _ _)
end
section
variable{X:Cx}{e a:Expr}{te:TE}{tg:Expr}(K:W.Frag)
theorem KL(h:X.K=K:=by rfl):SlR X (abR K):=h ▸ Zj
theorem KM(h:X.K=K:=by rfl):IxR X (abV K):=h ▸ ZY
theorem Jd(h:X.K=K:=by rfl):IxR X (abU K):=h ▸ abd
theorem Yy(h:X.K=K:=by rfl):Mu X (compareOp .In) (rIn K false):=h ▸ Wr
theorem TW(h:X.K=K:=by rfl):Mu X (compareOp .NotIn) (rIn K true):=h ▸ Sb
theorem Jx(h:X.K=K:=by rfl):Kr X (.builtin "len") (fun xs H Q=>∃p ys,xs=[.ref p]∧(SqL K H p ys∨SqT K H p ys)∧Q (.int ys.length) H):=h ▸ SD
theorem IP(h:X.K=K:=by rfl):Kr X (.type "list") (fun xs H Q=>∃p ys,xs=[.ref p]∧(SqL K H p ys∨SqT K H p ys)∧∀l,H l=none→Q (.ref l) (Hq H l (.lst ys))):=h ▸ SC
theorem aav(hu:X.A.units < cLine)(h:X.K=K:=by rfl):Mu X (compareOp .Eq) (abW K):=h ▸ aa5 hu
theorem aau(hu:X.A.units < cLine)(h:X.K=K:=by rfl):Mu X (compareOp .NotEq) (abS K):=h ▸ aa2 hu
theorem HQ(he:PE X e te)(h:X.K=K:=by rfl):PI X tg e (YB K te):=h ▸ Zy he
theorem Ho{f:Str}{pos:Pos}(he:PE X e te)(hb:attributeBase e f X.env (eval e X.env)=eval e X.env)(h:X.K=K:=by rfl):PE X (.Attribute e f pos) (abI K te f):=h ▸ aa0 he hb
theorem V0{es:List Expr}{k:Nat}{t:TGs}{n:Nat}{pos:Pos}(hc:X.prog=X.prog)(hs:PGs X es t)(h:X.K=K:=by rfl)
 (hn:(assignEach es X.env).length=n:=by rfl)(hst:(assignEach es X.env).findIdx? (·.1)=none:=by rfl):PG X (.Tuple es k pos) (ab7 K n t):=h ▸ aaW hc hs hn hst
theorem Mt{o:Expr}{es:List Expr}{to:TE}{t:TA}{name:Str}{apos cpos:Pos}{T id:String}{r:V→List V→Hp→VK→Prop}(pa:PlainAttrs T)(slot:Slot T name id)(hty:typeOf (.builtin id)=pure (.type "method_descriptor"))(hm:MtR X id r)(ho:PE X o to)(ha:PA X (e :: es) t)(h:X.K=K:=by rfl)
 (hbase:attributeBase o name X.env (eval o X.env)=eval o X.env:=by rfl)
 (hfew:((backTo cpos (starEach (e :: es) X.env)).all (fun x=>!x.1) && (backToKw cpos (keywordEach [] X.env)).all (fun x=>x.1.isSome)
  && decide ((e :: es).length + ([]:List Keyword).length + (if ([]:List Keyword).isEmpty then 0 else 1) < 30))=true:=by rfl)
 (hline:(apos.endLine == cpos.line)=true:=by rfl)(hs:starEach (e :: es) X.env=(false,eval e X.env) :: starEach es X.env:=by rfl)(hplain:(backTo cpos (starEach es X.env)).any (·.1)=false:=by rfl) :
 PE X (.Call (.Attribute o name apos) (e :: es) [] cpos) (tBM K T r to t):=h ▸ abY pa slot hty hm ho ha hbase hfew hline hs hplain
end
end L2
namespace L2
open PySem PySem.Spec PyProof.Rows
section
variable{X:Cx}{pins:List (Addr×Obj)}{σ:St}{H:Hp}{s:Shared}
theorem Inv.track{D:Addr}{o:HO}(I:Inv X pins σ H s)(f:J0 X pins H D)(ok:ObjOk X.prog X.w (Hq H D o) s.heap D o):Inv X pins σ (Hq H D o) s:=by
 obtain⟨f0,f1,f2,f3,f4,f5⟩:=f
 have nt:∀b u,H b=some u→b≠D:=fun b u e=>G5 e f0
 have r:=I.step (H':=Hq H D o) (h':=s.heap) (g':=s.gens) (d':=s.drawn) (t':=s.toks) (ch:=[D]) (fun b hb=>by
  obtain rfl:b=D:=by simpa using hb
  exact ⟨f3,f1,f4,f5⟩) (fun b ob _ _ _ e _=>e) (fun b ob _ _ _ e _=>⟨ob.slots,e⟩)
  (fun b ob hb _ n=>by rw[GY (fun z=>hb (by simp[z]))];exact n) (fun b ob _ e=>⟨ob,e⟩) (fun b xs e=>by rw[GY (nt b _ e)];exact e) (fun b ob u e=>by rw[GY (nt b _ e)];exact e)
  (fun b ps e=>⟨#[],by rw[GY (nt b _ e),e];simp⟩) (fun m hm=>hm) (fun b u e=>by
   by_cases hb:b=D
   · subst hb;rw[GU] at e;cases e;exact ok
   · rw[GY hb] at e
     exact (I.hok b u e).stay (fun c v _ q=>q) (fun c q=>by rw[GY (nt c _ q)];exact q) fun c xs q=>by rw[GY (nt c _ q)];exact q) I.bare
 exact r
theorem Inv.upd1{a:Addr}{f:Array Value→Array Value}{t':Nat}(I:Inv X pins σ H s)(fa:J0 X pins H a):Inv X pins σ H { s with heap:=s.heap.update a (Obj.mapSeq f),toks:=t' }:=
 I.turned (fun b o hb e=>(aCW s.heap a (Obj.mapSeq f)).extBut b o hb e) fa.1 fa.2.1 fa.2.2.2.1 fa.2.2.2.2.1 fa.2.2.2.2.2
theorem YK{b:Addr}{o:Obj}(f:J0 X pins H b)(e:s.heap.get? b=some o)(hd:∀v,o.data≠.cell v):s.heap.get? b=some o∧H b=none∧b≠X.env.locals∧b∉X.fs∧∀v,o.data≠.cell v:=⟨e,f.1,f.2.1,f.2.2.1,hd⟩
theorem Po{T:String}{xs:Array Value}{n:Nat}:∀v,(seqObj T xs n).data≠.cell v:=fun v z=>by
 have z':Data.seq xs n=Data.cell v:=z
 cases z'
end
section
variable{X:Cx}{pins:List (Addr×Obj)}{σ:St}{H:Hp}{s:Shared}{A:Around}{E:Value→Shared→Prop}{a kS:Addr}{vs:List Value}{kz:List Int}{keys:Array Value}{e e1:Nat}{P:PySem.Fin→Shared→Prop}
def O7(X:Cx)(pins:List (Addr×Obj))(σ:St)(H:Hp)(a:Addr)(kz:List Int)(vs:List Value)(P:PySem.Fin→Shared→Prop):Prop:=
 ∀(s':Shared) (out:Array Value) (c:Nat),Inv X pins σ H s'→s'.heap.get? a=some (seqObj "list" out c)→KskOut false kz vs out.toList→P (.done (.ret .none)) s'
theorem VI{st:SortSt}(I:Inv X pins σ H s)(hk1:s.heap.get? kS=some (seqObj "list" keys e))(ha1:s.heap.get? a=some (seqObj "list" #[] e1))(fk:J0 X pins H kS)(fa:J0 X pins H a)(hka:kS≠a)
 (hk:IntsAre keys.toList kz)(hlen:kz.length=vs.length)(h64:vs.length < 64)(hp:(arrOf st).Perm (keys.zip vs.toArray))(hs:SortedTo (arrOf st) (arrOf st).size)(hfl:failedOf st=none)
 (h:O7 X pins σ H a kz vs P):wpAny (model X.prog X.w) A (ksk_tail a false e1 (.ref kS) st) P E s:=by
 have hsz:keys.size=vs.length:=by
  have h1:=hk.length
  rw[aBe] at h1
  omega
 have hsz2:(arrOf st).size=vs.length:=by rw[hp.size_eq,Array.size_zip,hsz,aAw,Nat.min_self]
 have s1:=aCW s.heap kS (Obj.mapSeq fun _=>(#[]:Array Value))
 have na1:(s.heap.update kS (Obj.mapSeq fun _=>(#[]:Array Value))).get? a=some (seqObj "list" #[] e1):=(s1.2 a hka.symm).trans ha1
 obtain⟨c2,hc2⟩:∃c2,((s.heap.update kS (Obj.mapSeq fun _=>(#[]:Array Value))).update a (Obj.mapSeq fun _=>(arrOf st).map (·.2))).get? a=some (seqObj "list" ((arrOf st).map (·.2)) c2):=
  ⟨_,aCv na1 fun _=>(arrOf st).map (·.2)⟩
 unfold ksk_tail
 try dsimp only
 refine aAb (aCo hk1 rfl ?_ (by rw[hsz,aAs];omega) (aAJ _))
 refine aAb (aCN ?_)
 refine aAb (aDn na1 rfl ?_)
 refine aAb (aCo na1 rfl ?_ (aAJ _) (by simp only[aAY,aBJ,Array.size_map];rw[hsz2,aAs];omega))
 rw[hfl]
 simp only[aC4,aAY,aBJ]
 refine aAm (h _ _ c2 ?_ hc2 (ksk_out (b:=false) hk hp hs))
 exact (I.upd1 (t':=s.toks) fk).upd1 (t':=s.toks) fa
theorem aaR(I:Inv X pins σ H s)(hk1:s.heap.get? kS=some (seqObj "list" keys e))(ha1:s.heap.get? a=some (seqObj "list" #[] e1))(fk:J0 X pins H kS)(fa:J0 X pins H a)(hka:kS≠a)
 (hk:IntsAre keys.toList kz)(hlen:kz.length=vs.length)(h64:vs.length < 64)(h:O7 X pins σ H a kz vs P):wpAny (model X.prog X.w) A (ksk_end a false vs.toArray e1 (.ref kS) keys) P E s:=by
 have hsz:keys.size=vs.length:=by
  have h1:=hk.length
  rw[aBe] at h1
  omega
 have hzs:(keys.zip vs.toArray).size=vs.length:=by rw[Array.size_zip,hsz,aAw,Nat.min_self]
 unfold ksk_end
 try dsimp only
 simp only[aAY,aBJ]
 by_cases h2:vs.toArray.size < 2
 · rw[aAE h2,aAE h2]
   refine aAb (aAm ?_)
   rw[StateT.run_pure]
   refine aAb (aAm ?_)
   try dsimp only
   refine VI (st:=SortSt.mk' general' (keys.zip vs.toArray) #[] 7 none) I hk1 ha1 fk fa hka hk hlen h64 (Array.Perm.refl _) ?_ rfl h
   intro i j hij hj
   have hj2:j < (keys.zip vs.toArray).size:=hj
   rw[hzs] at hj2
   rw[aAw] at h2
   have:i=j:=by omega
   subst this
   exact aC6 _
 · rw[aAz h2,aAz h2]
   rw[aAw] at h2
   rw[ksk_kind hk (by rw[hsz];omega)]
   refine aAb (aAm ?_)
   refine aAb (aA9 (wpS_sortRuns (a₀:=keys.zip vs.toArray) (st:=SortSt.mk' oneType' (keys.zip vs.toArray) #[] 7 none)
    (Q:=fun _ st'=>(arrOf st').Perm (keys.zip vs.toArray)∧failedOf st'=none∧SortedTo (arrOf st') (keys.zip vs.toArray).size)
    (ksk_intKeys hk) ⟨Array.Perm.refl _,rfl,rfl,rfl⟩ (by rw[hzs];omega) (by rw[hzs];exact h64) fun st' a1 a2 a3=>⟨a1,a2,a3⟩) ?_ fun _ _ e=>e)
   rintro⟨⟨⟩,st'⟩ s' ⟨rfl,hp,hf,hs⟩
   try dsimp only
   exact VI I hk1 ha1 fk fa hka hk hlen h64 hp (by rw[hp.size_eq];exact hs) hf h
def O9(X:Cx)(σ:St)(H:Hp)(A:Around)(f:Value)(vs:List Value)(kz:List Int):Prop:=
 ∀(i:Nat) (v:Value) (k:Int) (pins:List (Addr×Obj)) (s:Shared),vs[i]?=some v→kz[i]?=some k→Inv X pins σ H s→wpAny (model X.prog X.w) A (call f [v]) (fun u s'=>(∃t,u=.int k t)∧Inv X pins σ H s') (fun _ _=>False) s
theorem Zi{f:Value}(I:Inv X pins σ H s)(hk1:s.heap.get? kS=some (seqObj "list" #[] 0))(ha1:s.heap.get? a=some (seqObj "list" #[] e1))(fk:J0 X pins H kS)(fa:J0 X pins H a)(hka:kS≠a)
 (hlen:kz.length=vs.length)(h64:vs.length < 64)(turn:O9 X σ H A f vs kz)(h:O7 X pins σ H a kz vs P):wpAny (model X.prog X.w) A (ksk_rest a f false vs.toArray e1 (.ref kS)) P E s:=by
 unfold ksk_rest
 refine aAb (aCY ?_)
 first
  | rw[List.forIn_toArray]
  | (rw[←Array.forIn_toList];simp only[List.toList_toArray])
  | rw[←Array.forIn_toList]
 refine aAb (ksk_fold (fun i s'=>∃kA e,Inv X pins σ H s'∧s'.heap.get? kS=some (seqObj "list" kA e)∧s'.heap.get? a=some (seqObj "list" #[] e1)∧IntsAre kA.toList (kz.take i)) vs 0 s
  ⟨#[],0,I,hk1,ha1,by simpa using IntsAre.nil⟩ ?step ?done)
 case step=>
  rintro j x s' hx ⟨kA,e,I',hk',ha',hk⟩
  simp only[Nat.zero_add] at hk ⊢
  have hj:j < vs.length:=(aAn.mp hx).1
  obtain⟨k,hkj⟩:∃k,kz[j]?=some k:=⟨_,aAd (by omega)⟩
  have hz:kA.size≤vs.length:=by
   have h1:=hk.length
   rw[aBe,aAM] at h1
   omega
  have Ip:Inv X (pins ++ [(kS,seqObj "list" kA e),(a,seqObj "list" #[] e1)]) σ H s':=I'.pins_of fun p hp=>by
   rcases aAx.mp hp with q | q
   · exact I'.pin p (aAu _ q)
   · rcases aAg.mp q with rfl | q
     · exact YK fk hk' Po
     · rw[aAc.mp q];exact YK fa ha' Po
  refine aAb (aCn (aA9 (turn j x k _ s' hx hkj Ip) (fun v s'' he=>?_) fun _ _ hF=>hF.elim))
  obtain⟨⟨t2,rfl⟩,I2⟩:=he
  try dsimp only
  have nk:=(I2.pin (kS,seqObj "list" kA e) (by simp)).1
  have na:=(I2.pin (a,seqObj "list" #[] e1) (by simp)).1
  have J2:Inv X pins σ H s'':=I2.unpinned
  obtain⟨c2,hc2⟩:∃c2,(s''.heap.update kS (Obj.mapSeq (·.push (.int k t2)))).get? kS=some (seqObj "list" (kA.push (.int k t2)) c2):=⟨_,aCv nk (·.push (.int k t2))⟩
  have ek:kz.take (j + 1)=kz.take j ++ [k]:=by rw[aAF,hkj];simp
  have ea:(kA.push (Value.int k t2)).toList=kA.toList ++ [Value.int k t2]:=by simp
  refine aAb (aCo nk rfl ?_ (by rw[aAs];omega) (aBh (Nat.le_of_eq (Array.size_push ..)) (by rw[aAs];omega)))
  refine aAm ⟨rfl,kA.push (.int k t2),c2,J2.upd1 (t':=s''.toks) fk,hc2,?_,by rw[ea,ek];exact ksk_snoc hk⟩
  exact ((aCW s''.heap kS (Obj.mapSeq (·.push (.int k t2)))).2 a hka.symm).trans na
 case done=>
  rintro s' ⟨kA,e,I',hk',ha',hk⟩
  have hk2:IntsAre kA.toList kz:=by
   have e3:kz.take (0 + vs.length)=kz:=aBm (by omega)
   rw[e3] at hk
   exact hk
  try dsimp only
  refine aAb (listItems_at hk' rfl ?_)
  exact aaR I' hk' ha' fk fa hka hk2 hlen h64 h
theorem Zh{f:Value}{n:Nat}(I:Inv X pins σ H s)(ho:s.heap.get? a=some (seqObj "list" vs.toArray n))(fa:J0 X pins H a)(hlen:kz.length=vs.length)(h64:vs.length < 64)
 (turn:O9 X σ H A f vs kz)(h:O7 X pins σ H a kz vs P):wpAny (model X.prog X.w) A (ksk_tree a f false) P E s:=by
 have ha:a < s.heap.objs.size:=aAl ho
 obtain⟨e1,ho1⟩:∃e1,(s.heap.update a (Obj.mapSeq fun _=>(#[]:Array Value))).get? a=some (seqObj "list" #[] e1):=⟨_,aCv ho fun _=>#[]⟩
 have I1:=I.upd1 (t':=s.toks) (f:=fun _=>(#[]:Array Value)) fa
 have hkS:((s.heap.update a (Obj.mapSeq fun _=>(#[]:Array Value))).push (seqObj "tuple" vs.toArray 0)).objs.size=s.heap.objs.size + 1:=by rw[size_push',Heap.size_update]
 unfold ksk_tree
 refine aAb (listItems_at ho rfl ?_)
 refine aAb (aCo ho rfl ?_ (by rw[aAw,aAs];omega) (aAJ _))
 refine aAb (aDn ho1 rfl ?_)
 refine aAb (wpAny_newTuple ?_ (by show vs.length≤_;rw[aAs];omega))
 refine aAb (aBM ?_ (aAJ _))
 refine aA5 ?_
 have I2:Inv X pins σ H { s with heap:=(s.heap.update a (Obj.mapSeq fun _=>(#[]:Array Value))).push (seqObj "tuple" vs.toArray 0) }:=I1.kept (t':=s.toks) fun b o e=>aAe _ e
 have I3:Inv X pins σ H { s with heap:=((s.heap.update a (Obj.mapSeq fun _=>(#[]:Array Value))).push (seqObj "tuple" vs.toArray 0)).push (seqObj "list" #[] 0) }:=I2.kept (t':=s.toks) fun b o e=>aAe _ e
 have fk:J0 X pins H ((s.heap.update a (Obj.mapSeq fun _=>(#[]:Array Value))).push (seqObj "tuple" vs.toArray 0)).objs.size:=I2.fpOk (aAh _) (I2.hok.fresh (aAh _))
 exact Zi I3 (aAo _ rfl) (aAe _ (aAe _ ho1)) fk fa (by rw[hkS];exact aBu (aBS ha)) hlen h64 turn h
end
end L2
namespace L2
open PySem PySem.Spec PyProof.Rows
def Uo(X:Cx)(x:V)(H:Hp)(xs:List V):Prop:=
 ∀ (pins:List (Addr×Obj)) (s:Shared) (σ:St) (v:Value) (A:Around) (E:Value→Shared→Prop) (Q:List Value→Shared→Prop),Inv X pins σ H s→RelV x v→HeldAt A.handled s.heap→
   (∀vs s',Vals xs vs→Inv X pins σ H s'→Q vs s')→wpAny (model X.prog X.w) A (collect v) Q E s
def Nu(kz:List Int)(xs ys:List V):Prop:=∃ps:List (Int×V),ps.Perm (kz.zip xs)∧ys=ps.map Prod.snd∧ps.Pairwise (fun p q=>p.1≤q.1)
def MB(u:Value):V:=(acg u).getD .non
theorem Wa:∀{xs:List V} {vs:List Value},Vals xs vs→vs.map MB=xs
 | _,_,.nil=>rfl
 | _,_,.cons r t=>by rw[aAr,Wa t];unfold MB;rw[r.abs];rfl
theorem SM:∀{xs:List V} {vs:List Value},Vals xs vs→∀u∈vs,RelV (MB u) u
 | _,_,.nil,u,h=>nomatch h
 | _,_,.cons r t,u,h=>by
   rcases aAg.mp h with q | q
   · rw[q];unfold MB;rw[r.abs];exact r
   · exact SM t u q
theorem SN:∀{us:List Value},(∀u∈us,RelV (MB u) u)→Vals (us.map MB) us
 | [],_=>.nil
 | u :: r,h=>.cons (h u aAp) (SN fun v hv=>h v (aAq _ hv))
theorem Oj{α β γ:Type}(f:β→γ):∀(l:List α) (m:List β),(l.zip m).map (fun p=>(p.1,f p.2))=l.zip (m.map f)
 | [],_=>rfl
 | _ :: _,[]=>rfl
 | a :: l,b :: m=>by simp[Oj f l m]
theorem ZE{kz:List Int}{xs:List V}{vs out:List Value}(rv:Vals xs vs)(h:KskOut false kz vs out):∃ys,Vals ys out∧Nu kz xs ys∧ys.length≤vs.length:=by
 obtain⟨ps,h1,h2,h3⟩:=h
 have hm:∀u∈out,RelV (MB u) u:=fun u hu=>by
  rw[h2] at hu
  obtain⟨p,hp,rfl⟩:=aA6.mp hu
  have:=h1.mem_iff.mp hp
  obtain⟨x,y⟩:=p
  exact SM rv _ (aCu this).2
 refine ⟨out.map MB,SN hm,⟨ps.map (fun p=>(p.1,MB p.2)),?_,?_,?_⟩,?_⟩
 · have:=h1.map (fun p:Int×Value=>(p.1,MB p.2))
   rw[Oj,Wa rv] at this
   exact this
 · rw[h2,aA3,aA3];rfl
 · rw[aA0]
   exact h3.imp fun {p q} hpq=>by simpa using hpq
 · rw[aAf,h2,aAf,h1.length_eq,List.length_zip];exact Nat.min_le_right _ _
section
variable{X:Cx}
theorem Wk{pins:List (Addr×Obj)}{σ:St}{H:Hp}{s:Shared}{f:Addr}{x:V}{v:Value}{xs:List V}{kz:List Int}{Q:VK}(hc:X.prog=X.prog)(I:Inv X pins σ H s)(rx:RelV x v)(hx:Uo X x H xs)(hlen:kz.length=xs.length)(h64:xs.length < 64)
 (turn:∀vs,Vals xs vs→O9 X σ H X.A.in1.in1 (.ref f) vs kz)(q:∀ys p,Nu kz xs ys→H p=none→Q (.ref p) (Hq H p (.lst ys))) :
 wpAny (model X.prog X.w) X.A (call (.builtin "sorted") [v] [(Str.ofString "key",.ref f)]) (EP X pins σ Q) X.xe s:=by
 refine call_function_entry_kw aDo aDh aDi (ksk_s1 _ _) ?_
 unfold Builtin.«sorted»
 refine aAb (m:=checkCount "sorted" 1 1 _) (aAm ?_)
 refine aAb (hx pins s σ v _ _ _ I rx I.heldAt fun vs s1 rv I1=>?_)
 have hl:=rv.length
 refine aAb (aBM ?_ (by rw[aAs];omega))
 have I2:Inv X pins σ H { s1 with heap:=s1.heap.push (seqObj "list" vs.toArray 0) }:=I1.kept (t':=s1.toks) fun b o e=>aAe _ e
 have fD:J0 X pins H s1.heap.objs.size:=I1.fpOk (aAh _) (I1.hok.fresh (aAh _))
 have hoL:(s1.heap.push (seqObj "list" vs.toArray 0)).get? s1.heap.objs.size=some (seqObj "list" vs.toArray 0):=aAo _ rfl
 refine aAb (aA5 (wpAny_call_entry_kw aC0 ⟨_,hoL,rfl⟩ aCR ?body (ksk_l1 _ _)))
 case body=>
  show wpAny (model X.prog X.w) X.A.in1.in1 (Builtin.«list.sort» ⟨[.ref s1.heap.objs.size],[(Str.ofString "key",.ref f)]⟩) _ _ _
  rw[ksk_t1]
  refine Zh I2 hoL fD (by rw[hlen,hl]) (by omega) (turn vs rv) fun s' out c I' ho' ko=>⟨_,rfl,?_⟩
  obtain⟨ys,ry,hs,hle⟩:=ZE rv ko
  refine aAm ⟨_,rfl,.ref s1.heap.objs.size,Hq H s1.heap.objs.size (.lst ys),I'.track fD ⟨?_,out.toList,c,ry,?_⟩,rfl,q ys _ hs fD.1⟩
  · rw[aAs];omega
  · rw[ho']
theorem Mp{a:Addr}{H:Hp}{xs:List V}(h:SqL X.K H a xs):Uo X (.ref a) H xs:=by
 intro pins s σ v A E Q I r hh hq
 cases r
 obtain⟨its,rv,pl,hz⟩:=I.list h
 refine collect_list pl.isList (hq its _ rv ?_) (by rw[←rv.length];exact hz)
 refine I.kept (t':=s.toks) fun b o e=>?_
 have hb:b≠s.heap.objs.size:=aAB (aAl e)
 exact (aAt _ _ (aBg hb)).trans (aAe _ e)
def K0(p d:Addr):HO:=.ext fun h=>h.IsValuesView p d
def Zo:V→List V→Hp→VK→Prop:=fun x vs H Q=>∃d kvs,x=.ref d∧vs=[]∧H d=some (.dK kvs)∧∀p,H p=none→Q (.ref p) (Hq H p (K0 p d))
theorem N3:MtM X "dict.values" Zo:=by
 intro pins s σ H x vs v us Q I rx rv h
 obtain⟨d,kvs,rfl,rfl,hd,q⟩:=h
 cases rx
 cases Vals.zero rv
 obtain⟨hz,lo,ws,rk,hD⟩:=(show ObjOk X.prog X.w H s.heap d (.dK kvs) from I.hok d _ hd)
 refine aCb aBY hD.typeIs PySem.F.entry_dict_values (PySem.F.args_dict_values_1 _) (meets_dict_values (HK X.prog X.w) d lo) ⟨⟨ws,hD⟩,?_⟩
 refine ⟨.ref s.heap.objs.size,_,I.laid (t':=s.toks) (o:=K0 s.heap.objs.size d) (fun b u e=>aAe _ e) (aAh _) ?_,rfl,q _ (I.hok.fresh (aAh _))⟩
 have e:(s.heap.push { cls:=.type "dict_values",data:=.fields #[.ref d] }).get? s.heap.objs.size=some { cls:=.type "dict_values",data:=.fields #[.ref d] }:=aAo _ rfl
 exact ⟨⟨_,e,rfl,rfl⟩,⟨_,e⟩,fun h1 h2 ⟨o,e1,c,dd⟩ k=>⟨o,k o e1,c,dd⟩⟩
theorem Ss:∀{kvs:List (HX×V)} {ws:List (HX×Value)},KV kvs ws→Vals (kvs.map (·.2)) (ws.map (·.2))
 | _,_,.nil=>.nil
 | _,_,.cons r t=>.cons r.2 (Ss t)
theorem Vx{pins:List (Addr×Obj)}{σ:St}{H:Hp}{s:Shared}{p d:Addr}{kvs:List (HX×V)}(I:Inv X pins σ H s)(hp:H p=some (K0 p d))(hd:H d=some (.dK kvs)) :
 ∃ws ep,KV kvs ws∧kvs.length≤sizeLine∧s.heap.IsValuesView p d∧s.heap.DictAt (HK X.prog X.w) d ws ep:=by
 obtain⟨hz,lo,ws,rk,hD⟩:=(show ObjOk X.prog X.w H s.heap d (.dK kvs) from I.hok d _ hd)
 obtain⟨hv,_,_⟩:=(show ObjOk X.prog X.w H s.heap p (K0 p d) from I.hok p _ hp)
 obtain⟨ep,hat⟩:=hD.dictAt
 exact ⟨ws,ep,rk,hz,hv,hat⟩
theorem Qd{ws:List (HX×Value)}{acc:Array Value}(h:ItemsOf (fun i v=>∃k,ws[i]?=some (k,v)) acc ws.length):acc.toList=ws.map (·.2):=
 W.kdl_vals_eq acc.toList (by rw[aBe];exact h.1) fun j v e=>h.2 j v (by rw[←aCH];exact e)
theorem Qs(hc:X.prog=X.prog):Kr X (.type "list") (fun xs H Q=>∃p d kvs,xs=[.ref p]∧H p=some (K0 p d)∧H d=some (.dK kvs)∧∀l,H l=none→Q (.ref l) (Hq H l (.lst (kvs.map (·.2))))):=by
 intro pins s σ H xs us Q I r h
 obtain⟨p,d,kvs,rfl,hp,hd,q⟩:=h
 obtain⟨u,rfl,ru⟩:=Q5 r
 cases ru
 obtain⟨ws,ep,rk,hz,hv,hat⟩:=Vx I hp hd
 have hl:kvs.length=ws.length:=aAV rk
 refine Qa I.heldAt hv hat (by omega) fun h' tk acc c hk hD hacc=>?_
 have e:=Qd hacc
 have I1:Inv X pins σ H { s with heap:=h',toks:=tk }:=I.kept hk
 have fD:J0 X pins H s.heap.objs.size:=I.fpOk (aAh _) (I.hok.fresh (aAh _))
 refine ⟨.ref s.heap.objs.size,_,I1.track (o:=.lst (kvs.map (·.2))) fD ⟨by rw[aAf];exact hz,acc.toList,c,by rw[e];exact Ss rk,?_⟩,rfl,q _ fD.1⟩
 simpa using hD
theorem WR{p d:Addr}{H:Hp}{kvs:List (HX×V)}(hp:H p=some (K0 p d))(hd:H d=some (.dK kvs)):Uo X (.ref p) H (kvs.map (·.2)):=by
 intro pins s σ v A E Q I r hh hq
 cases r
 obtain⟨ws,ep,rk,hz,hv,hat⟩:=Vx I hp hd
 have hl:kvs.length=ws.length:=aAV rk
 have kp:∀b o,s.heap.get? b=some o→(s.heap.push (seqObj "list" #[] 0)).get? b=some o:=fun b o e=>aAe _ e
 have hv':(s.heap.push (seqObj "list" #[] 0)).IsValuesView p d:=let ⟨o,e,x⟩:=hv;⟨o,kp _ _ e,x⟩
 have hat':(s.heap.push (seqObj "list" #[] 0)).DictAt (HK X.prog X.w) d ws ep:=hat.at' fun o e=>kp _ _ e
 have lp:p < s.heap.objs.size:=let ⟨o,e,_⟩:=hv;aAl e
 have ld:d < s.heap.objs.size:=hat.lt_size
 unfold collect
 refine aAb (aDl (aA8 entry_proto_collect' ?_))
 show wpAny _ _ (do again (.builtin "list.__iadd__" ⟨[←newList [],.ref p],[]⟩)) _ _ s
 refine aAb (aBM (aAm ⟨Code.quiet_builtin _ (by decide +kernel),aA8 entry_list_iadd' ?_⟩))
 show wpAny _ _ (Builtin.List.listExtendWith (.ref s.heap.objs.size) (.ref p) (.ref s.heap.objs.size)) _ _ { s with heap:=s.heap.push (seqObj "list" #[] 0) }
 rw[aA4 (show plainId "list.__iadd__" = true by decide +kernel) _]
 have fin:∀s':Shared,(∃acc c,s'.heap.get? s.heap.objs.size=some { cls:=.type "list",dict:=none,data:=.seq acc c,slots:=#[] }∧acc.toList=ws.map (·.2)∧Inv X pins σ H s')→
  wpAny (model X.prog X.w) A (do
   let o ←load s.heap.objs.size
   match o.data with
   | .seq xs _=>pure xs.toList
   | _=>unsupported "internal:collect") Q E s':=by
  rintro s' ⟨acc,c,hS,e,I'⟩
  refine aAb (aDu hS ?_)
  show wpAny _ _ (pure acc.toList) Q E _
  exact aAm (hq _ _ (by rw[e];exact Ss rk) I')
 refine aA9 (Vy (R:=fun r s'=>r=.ok (.ret (.ref s.heap.objs.size))∧∃acc c,s'.heap.get? s.heap.objs.size=some { cls:=.type "list",dict:=none,data:=.seq acc c,slots:=#[] }∧acc.toList=ws.map (·.2)∧Inv X pins σ H s')
  (s:={ s with heap:=s.heap.push (seqObj "list" #[] 0) }) (knd:=HK X.prog X.w) (kvs:=ws) (ep:=ep) (d:=d) (hh.keep kp) hv' hat' s.heap.objs.size (aBu lp) (aBu ld) hh.old _ 0 (aAo _ rfl) (fun h' tk acc c hk hS hacc=>?_) (show ws.length≤sizeLine by omega))
  (fun fi s' hf=>?_) (fun e s' he=>nomatch he.1)
 · exact ⟨rfl,acc,c,hS,Qd hacc,I.kept fun b o eb=>hk b o (aAB (aAl eb)) (kp b o eb)⟩
 · cases fi with
   | done f=>
     obtain⟨e,g⟩:=hf
     cases e
     exact fin s' g
   | again c'=>
     refine ⟨hf.1,aBU hf.2 fun r s2 ⟨e,g⟩=>?_⟩
     subst e
     exact fin s2 g
end
def Jz(i:Nat):Sp:=fun vs H Q _=>∃a x y z,vs=[.ref a]∧H a=some (.tup [x,y,z])∧Q ([x,y,z].getD i .non) H
def CollV(K:W.Frag)(x:V)(H:Hp)(xs:List V):Prop:=
 (∃a,x=.ref a∧SqL K H a xs)∨∃p d kvs,x=.ref p∧H p=some (K0 p d)∧H d=some (.dK kvs)∧xs=kvs.map (·.2)
theorem CollV.coll{X:Cx}{x:V}{H:Hp}{xs:List V}(h:CollV X.K x H xs):Uo X x H xs:=by
 rcases h with ⟨a,rfl,h⟩ | ⟨p,d,kvs,rfl,hp,hd,rfl⟩
 · exact Mp h
 · exact WR hp hd
def Vp(H:Hp)(xs:List V)(kz:List Int):Prop:=kz.length=xs.length∧∀(i:Nat) x k,xs[i]?=some x→kz[i]?=some k→∃a y z,x=.ref a∧H a=some (.tup [.int k,y,z])
def aaT(K:W.Frag)(x:V)(H:Hp)(Q:VK):Prop:=∃xs kz,CollV K x H xs∧xs.length < 64∧Vp H xs kz∧∀ys p,Nu kz xs ys→H p=none→Q (.ref p) (Hq H p (.lst ys))
theorem Vals.back:∀{xs:List V} {vs:List Value} {i:Nat} {v:Value},Vals xs vs→vs[i]?=some v→∃x,xs[i]?=some x∧RelV x v
 | _,_,_,_,.nil,e=>by simp at e
 | _,_,0,_,.cons r _,e=>by simp at e;subst e;exact ⟨_,rfl,r⟩
 | _,_,i + 1,v,.cons _ t,e=>by
   obtain⟨u,h1,h2⟩:=Vals.back (i:=i) (v:=v) t (by simpa using e)
   exact ⟨u,by simpa using h1,h2⟩
section
variable{X:Cx}{e:Expr}{te:TE}{p p2 kpos pos:Pos}{x:Str}{ps:List Str}
theorem Yw{f:Addr}{fd:FuncData}{σ:St}{H:Hp}{xs:List V}{kz:List Int}(F:FnOk X.prog X.w X.K X.mg X.base Jg 1 f fd ps (Jz 0))(hps:ps.length=1)(hb:Binds X.K fd ps [])(hr:Room 3 X.A)(hn:Vp H xs kz) :
 ∀vs,Vals xs vs→O9 X σ H X.A.in1.in1 (.ref f) vs kz:=by
 intro vs rv i v k pins s hv hk I
 obtain⟨x,hx,rx⟩:=rv.back hv
 obtain⟨a,y,z,rfl,ha⟩:=hn.2 i x k hx hk
 cases rx
 refine aDf (aBU (F.run X.A.in1.in1 X.stack s H ⟨[.ref a],[]⟩ [.ref a] [.ref a] (fun v' H'=>v'=.int k∧H'=H) E0 hr.in1.in1 (fun _ _ _ _ h=>h) I.env0.in1.in1 (by
  have:=hb s [.ref a] I.kIn (by simp[hps])
  simpa using this) (.cons rfl .nil) ⟨a,_,_,_,rfl,ha,rfl,rfl⟩) fun r s' hq=>?_)
 cases r with
 | error e=>exact (show False from hq).elim
 | ok fl=>
   cases fl with
   | ret u=>
     obtain⟨v',H',I',ru,e1,e2⟩:=I.after hq
     subst e1 e2
     exact ⟨ru,I'⟩
   | next=>exact False.elim hq
   | brk=>exact False.elim hq
   | cont=>exact False.elim hq
theorem V1(K:W.Frag)(C:Callee X.prog X.w X.K X.mg X.base 1 x ["message"] (Jz 0))(hr:Room 3 X.A)(hc:X.prog=X.prog)(he:PE X e te)(hm:X.mg "sorted" = none)(h:X.K=K:=by rfl)(hg:Gl X "sorted":=by rfl)(hgx:Gl X x:=by rfl)(hp:PP e=true:=by rfl)
 (hdx:(x == ("__debug__" : Str))=false:=by decide) :
 PE X (.Call (.Name "sorted" p) [e] [⟨some "key",.Name x p2,kpos⟩] pos) (tUn (aaT K) te):=by
 subst h
 obtain⟨f,fd,F,hmx,hk,hb⟩:=C.ex
 intro pins s σ H Q I hw
 refine aBi (N7 I hg hm boot_sorted ?_)
 refine callWith_kw ?_ (by rw[Lc hp];rfl) (by rw[Lc hp];rfl)
 rw[Lc hp]
 show wpAny _ _ (spliced ((false,eval e X.env) :: backTo pos (starEach [] X.env))) _ _ s
 refine aBP (Ix (he pins s σ H _ I hw) fun u s1 ⟨xv,H1,I1,r1,q1⟩=>aCg ?_)
 have hkv:=VN (nm:=some "key") (kpos:=kpos) (ZB (pos:=p2) hgx hmx (v:=.ref f) rfl hdx) (XL (X:=X)) pos pins s1 σ H1 (fun zs H2=>zs=[.ref f]∧H2=H1) I1 ⟨rfl,rfl⟩
 refine Ix hkv fun ws s2 ⟨zs,H2,I2,rz,e1,e2⟩=>?_
 subst e1 e2
 obtain⟨w1,rfl,rw1⟩:=rz.one
 cases rw1
 obtain⟨xs,kz,h1,h2,h3,q⟩:=q1
 exact Wk hc I2 r1 h1.coll h3.1 h2 (Yw F rfl hb hr h3) q
end
end L2
namespace L2
open PySem
structure Msg where
 n:Int
 t:Str
 x:Str
deriving DecidableEq
def Rise(l:List Msg):Prop:=l.Pairwise fun p q=>p.n < q.n
theorem Rise.nil:Rise []:=List.Pairwise.nil
theorem Th:∀{l r:List Msg},Rise l→Rise r→(∀m,m∈l↔m∈r)→l=r
 | [],[],_,_,_=>rfl
 | [],b :: r,_,_,h=>absurd ((h b).mpr aAp) aAa
 | a :: l,[],_,_,h=>absurd ((h a).mp aAp) aAa
 | a :: l,b :: r,h1,h2,h=>by
   obtain⟨a1,a2⟩:=aBj.mp h1
   obtain⟨b1,b2⟩:=aBj.mp h2
   have e:a=b:=by
    rcases aAg.mp ((h a).mp aAp) with e | e
    · exact e
    · rcases aAg.mp ((h b).mpr aAp) with e' | e'
      · exact e'.symm
      · have:=a1 b e';have:=b1 a e;omega
   subst e
   refine aA2 (a :: ·) (Th a2 b2 fun m=>⟨fun hm=>?_,fun hm=>?_⟩)
   · rcases aAg.mp ((h m).mp (aAq _ hm)) with e | e
     · subst e;have:=a1 m hm;omega
     · exact e
   · rcases aAg.mp ((h m).mpr (aAq _ hm)) with e | e
     · subst e;have:=b1 m hm;omega
     · exact e
def Top(ms:List Msg)(m:Msg):Prop:=m∈ms∧∀k∈ms,k.t=m.t→k.n≤m.n
def Lasts(ms ls:List Msg):Prop:=Rise ls∧∀m,m∈ls↔Top ms m
theorem Top.perm{ms ms':List Msg}{m:Msg}(h:ms.Perm ms'):Top ms m↔Top ms' m:=
 ⟨fun ⟨a,b⟩=>⟨h.mem_iff.mp a,fun k hk=>b k (h.mem_iff.mpr hk)⟩,fun ⟨a,b⟩=>⟨h.mem_iff.mpr a,fun k hk=>b k (h.mem_iff.mp hk)⟩⟩
theorem Lasts.perm{ms ms' ls:List Msg}(h:ms.Perm ms')(l:Lasts ms ls):Lasts ms' ls:=⟨l.1,fun m=>(l.2 m).trans (Top.perm h)⟩
theorem Lasts.uniq{ms l r:List Msg}(h1:Lasts ms l)(h2:Lasts ms r):l=r:=Th h1.1 h2.1 fun m=>(h1.2 m).trans (h2.2 m).symm
def Diff(ms:List Msg):Prop:=(ms.map (·.n)).Nodup
theorem Rise.diff{l:List Msg}(h:Rise l):Diff l:=by
 unfold Diff List.Nodup
 rw[aA0]
 exact h.imp fun hlt=>Int.ne_of_lt hlt
theorem Diff.perm{l r:List Msg}(h:l.Perm r)(d:Diff l):Diff r:=(h.map _).nodup_iff.mp d
theorem Diff.eq:∀{ms:List Msg},Diff ms→∀{a b:Msg},a∈ms→b∈ms→a.n=b.n→a=b
 | [],_,a,b,ha,_,_=>absurd ha aAa
 | m :: ms,d,a,b,ha,hb,e=>by
   unfold Diff at d
   rw[aAr,aBb] at d
   rcases aAg.mp ha with h1 | h1 <;> rcases aAg.mp hb with h2 | h2
   · rw[h1,h2]
   · exact absurd (aA6.mpr ⟨b,h2,by rw[←e,h1]⟩) d.1
   · exact absurd (aA6.mpr ⟨a,h1,by rw[e,h2]⟩) d.1
   · exact Diff.eq d.2 h1 h2 e
theorem Top.topic{ms:List Msg}(d:Diff ms){a b:Msg}(ha:Top ms a)(hb:Top ms b)(e:a.t=b.t):a=b:=
 Diff.eq d ha.1 hb.1 (Int.le_antisymm (hb.2 a ha.1 e) (ha.2 b hb.1 e.symm))
section
variable{α β:Type}
def L5(D:List (Str×α))(t:Str)(d:α):List (Str×α):=if D.any (fun p=>decide (p.1=t))=true then D.map fun p=>if p.1=t then (p.1,d) else p else D ++ [(t,d)]
theorem Yj{D:List (Str×α)}{t:Str}{d:α}(p:Str×α):p∈L5 D t d↔p=(t,d)∨(p∈D∧p.1≠t):=by
 unfold L5
 split
 · rename_i h
   rw[aA6]
   constructor
   · rintro⟨q,hq,rfl⟩
     by_cases e:q.1=t
     · rw[aAE e,e];exact .inl rfl
     · rw[aAz e];exact .inr ⟨hq,e⟩
   · rintro (rfl | ⟨hp,hn⟩)
     · obtain⟨q,hq,e⟩:=aB4.mp h
       have e':q.1=t:=aAI e
       exact ⟨q,hq,by rw[aAE e',e']⟩
     · exact ⟨p,hp,by rw[aAz hn]⟩
 · rename_i h
   rw[aAx,aAc]
   constructor
   · rintro (hp | rfl)
     · refine .inr ⟨hp,fun e=>h ?_⟩
       exact aB4.mpr ⟨p,hp,aAD e⟩
     · exact .inl rfl
   · rintro (rfl | ⟨hp,hn⟩)
     · exact .inr rfl
     · exact .inl hp
theorem ZL{D:List (Str×α)}{t:Str}{d:α}(h:(D.map (·.1)).Nodup):((L5 D t d).map (·.1)).Nodup:=by
 unfold L5
 split
 · rw[aA3]
   have e:(D.map ((fun p:Str×α=>p.1) ∘ fun p=>if p.1=t then (p.1,d) else p))=D.map (·.1):=by
    refine aBK fun p _=>?_
    show (if p.1=t then (p.1,d) else p).1=p.1
    split <;> rfl
   rw[e];exact h
 · rename_i hn
   rw[aAy,List.map_singleton,aBF]
   refine ⟨h,aBb.mpr ⟨aAa,aBk⟩,fun a ha b hb=>?_⟩
   rw[aAc.mp hb]
   intro e
   subst e
   obtain⟨p,hp,e⟩:=aA6.mp ha
   exact hn (aB4.mpr ⟨p,hp,aAD e⟩)
theorem Yp(D:List (Str×α))(t:Str)(d:α):(L5 D t d).length≤D.length + 1:=by
 unfold L5
 split
 · rw[aAf];omega
 · rw[aAk];exact aAh _
def UM(D:List (Str×α))(l:List (Str×α)):List (Str×α):=l.foldl (fun D p=>L5 D p.1 p.2) D
theorem Wo(D l:List (Str×α))(p:Str×α):UM D (l ++ [p])=L5 (UM D l) p.1 p.2:=by unfold UM;rw[aC7];rfl
theorem VT:∀(l D:List (Str×α)),(D.map (·.1)).Nodup→((UM D l).map (·.1)).Nodup
 | [],D,h=>h
 | p :: l,D,h=>VT l _ (ZL h)
theorem TN:∀(l D:List (Str×α)),(UM D l).length≤D.length + l.length
 | [],D=>by show D.length≤_;omega
 | p :: l,D=>by
   have h1:=TN l (L5 D p.1 p.2)
   have h2:=Yp D p.1 p.2
   show (UM (L5 D p.1 p.2) l).length≤_
   rw[aAL];omega
theorem XD{D:List (Str×α)}{t:Str}{d:α}(h:∀p∈D,p.1≠t):L5 D t d=D ++ [(t,d)]:=by
 unfold L5
 rw[aAz]
 intro z
 obtain⟨p,hp,e⟩:=aB4.mp z
 exact h p hp (aAI e)
def MD(D:List (Str×α))(t:Str):Option α:=(D.find? fun p=>decide (p.1=t)).map (·.2)
theorem SO:∀{D:List (Str×α)} {t:Str} {d:α},(D.map (·.1)).Nodup→(t,d)∈D→MD D t=some d
 | [],_,_,_,h=>absurd h aAa
 | p :: D,t,d,hn,h=>by
   rw[aAr,aBb] at hn
   rcases aAg.mp h with e | e
   · subst e;simp[MD]
   · have hp:¬p.1=t:=fun z=>hn.1 (aA6.mpr ⟨(t,d),e,z.symm⟩)
     have:MD (p :: D) t=MD D t:=by simp[MD,aBI,hp]
     rw[this];exact SO hn.2 e
end
theorem O5{α:Type} [DecidableEq α]:∀{l r:List α},l.Nodup→(∀x∈l,x∈r)→l.length≤r.length
 | [],r,_,_=>aAJ _
 | a :: l,r,hn,h=>by
   rw[aBb] at hn
   have ha:=h a aAp
   have:=O5 (l:=l) (r:=r.erase a) hn.2 fun x hx=>(List.mem_erase_of_ne (fun e:x=a=>hn.1 (by rw[←e];exact hx))).mpr (h x (aAq _ hx))
   rw[List.length_erase_of_mem ha] at this
   have hp:=List.length_pos_of_mem ha
   rw[aAL];omega
def Z6(D E:List (Str×Str)):Bool:=D.length == E.length && D.all fun p=>decide (MD E p.1=some p.2)
theorem abk{D E:List (Str×Str)}(h1:(D.map (·.1)).Nodup)(h2:(E.map (·.1)).Nodup)(h:∀p,p∈D↔p∈E):Z6 D E=true:=by
 have nd:∀{D:List (Str×Str)},(D.map (·.1)).Nodup→D.Nodup:=fun h=>(aA0.mp h).imp fun hne e=>hne (aA2 _ e)
 have e:D.length=E.length:=Nat.le_antisymm (O5 (nd h1) fun x hx=>(h x).mp hx) (O5 (nd h2) fun x hx=>(h x).mpr hx)
 unfold Z6
 rw[e,aBz,aDt,List.all_eq_true]
 intro p hp
 exact aAD (SO h2 ((h p).mp hp))
def kM(m:Msg):Str×Msg:=(m.t,m)
def JK(ms:List Msg):List (Str×Msg):=UM [] (ms.map kM)
theorem L9(ms:List Msg)(m:Msg):JK (ms ++ [m])=L5 (JK ms) m.t m:=by unfold JK;rw[aAy,List.map_singleton,Wo];rfl
theorem Wv(ms:List Msg):((JK ms).map (·.1)).Nodup:=VT _ _ aBk
theorem LH(ms:List Msg):(JK ms).length≤ms.length:=by
 have:=TN (ms.map kM) []
 rw[aAf] at this
 simpa [JK] using this
theorem WC{α:Type}{P:List α→Prop}(h0:P [])(hs:∀l a,P l→P (l ++ [a]))(l:List α):P l:=by
 have:∀r:List α,P r.reverse:=fun r=>by
  induction r with
  | nil=>exact h0
  | cons a r ih=>rw[aC2];exact hs _ _ ih
 have:=this l.reverse
 rwa [List.reverse_reverse] at this
theorem LI:∀(ms:List Msg),Rise ms→∀p,p∈JK ms↔p.1=p.2.t∧Top ms p.2:=by
 refine WC ?_ ?_
 · intro _ p;exact ⟨fun h=>absurd h aAa,fun h=>absurd h.2.1 aAa⟩
 · intro ms m ih hr p
   have hr':=List.pairwise_append.mp hr
   rw[L9,Yj,ih hr'.1]
   have hm:∀k∈ms,k.n < m.n:=fun k hk=>hr'.2.2 k hk m (aAc.mpr rfl)
   constructor
   · rintro (rfl | ⟨⟨e,h1,h2⟩,hn⟩)
     · refine ⟨rfl,aAu _ (aAc.mpr rfl),fun k hk _=>?_⟩
       rcases aAx.mp hk with hk | hk
       · exact Int.le_of_lt (hm k hk)
       · rw[aAc.mp hk];exact aC6 _
     · refine ⟨e,aAj _ h1,fun k hk ek=>?_⟩
       rcases aAx.mp hk with hk | hk
       · exact h2 k hk ek
       · rw[aAc.mp hk] at ek
         exact absurd (e.trans ek.symm) hn
   · rintro⟨e,h1,h2⟩
     rcases aAx.mp h1 with h1 | h1
     · refine .inr ⟨⟨e,h1,fun k hk=>h2 k (aAj _ hk)⟩,fun en=>?_⟩
       have:=h2 m (aAu _ (aAc.mpr rfl)) (by rw[←e,en])
       have:=hm _ h1
       omega
     · left
       have:=aAc.mp h1
       obtain⟨p1,p2⟩:=p
       have e1:p2=m:=this
       have e2:p1=p2.t:=e
       rw[e2,e1]
def Ku(ls:List Msg):List (Str×Str):=ls.map fun m=>(m.t,m.x)
theorem Nk{ms ls:List Msg}(d:Diff ms)(h:Lasts ms ls):(ls.map (·.t)).Nodup:=by
 unfold List.Nodup
 rw[aA0]
 have hr:ls.Pairwise fun p q=>p.n < q.n:=h.1
 refine (List.Pairwise.and_mem.mp hr).imp fun {a b} ⟨ha,hb,hlt⟩ e=>?_
 have:=Top.topic d ((h.2 a).mp ha) ((h.2 b).mp hb) e
 subst this
 omega
def My:List Int→List (Int×Int)
 | []=>[]
 | [_]=>[]
 | a :: b :: r=>(if a + 1≤b - 1 then [(a + 1,b - 1)] else []) ++ My (b :: r)
theorem Qi:∀(l:List Int) (a b:Int),My (l ++ [a] ++ [b])=My (l ++ [a]) ++ if a + 1≤b - 1 then [(a + 1,b - 1)] else []
 | [],a,b=>by simp[My]
 | [c],a,b=>by simp[My]
 | c :: d :: l,a,b=>by
   have:=Qi (d :: l) a b
   simp only[List.cons_append,My] at this ⊢
   rw[this,aBw]
def MR(ns:List Int):Nat→List (Int×Int)
 | 0=>[]
 | i + 1=>MR ns i ++ if ns.getD i 0 + 1≤ns.getD (i + 1) 0 - 1 then [(ns.getD i 0 + 1,ns.getD (i + 1) 0 - 1)] else []
theorem Rw(ns:List Int):∀i:Nat,i + 1≤ns.length→MR ns i=My (ns.take (i + 1))
 | 0,h=>by
   cases ns with
   | nil=>rfl
   | cons a r=>rfl
 | i + 1,h=>by
   have e:ns.take (i + 1 + 1)=ns.take i ++ [ns.getD i 0] ++ [ns.getD (i + 1) 0]:=by
    rw[aAF,aAF,aAd (by omega),aAd (by omega)]
    simp[List.getD,aAd (show i < ns.length by omega),aAd (show i + 1 < ns.length by omega)]
   have e1:ns.take (i + 1)=ns.take i ++ [ns.getD i 0]:=by
    rw[aAF,aAd (by omega)]
    simp[List.getD,aAd (show i < ns.length by omega)]
   rw[e,Qi,←e1]
   show MR ns i ++ _=_
   rw[Rw ns i (by omega)]
theorem Vc(ns:List Int):MR ns (ns.length - 1)=My ns:=by
 cases h:ns with
 | nil=>rfl
 | cons a r=>
   rw[←h]
   have hl:0 < ns.length:=by rw[h];simp
   rw[Rw ns _ (by omega)]
   rw[show ns.length - 1 + 1=ns.length by omega,aAW]
end L2
namespace L2
open PySem PySem.Spec PyProof.Rows PySem.W
section
variable{X:Cx}
theorem TY(K:W.Frag){o:Expr}{to:TE}{name:Str}{apos cpos:Pos}{T id:String}{r:V→List V→Hp→VK→Prop}(pa:PlainAttrs T)(slot:Slot T name id)(hty:typeOf (.builtin id)=pure (.type "method_descriptor"))(hm:MtR X id r)(ho:PE X o to)(h:X.K=K:=by rfl)
 (hbase:attributeBase o name X.env (eval o X.env)=eval o X.env:=by rfl)(hline:(apos.endLine == cpos.line)=true:=by rfl):PE X (.Call (.Attribute o name apos) [] [] cpos) (abN K T r to):=h ▸ aa1 pa slot hty hm ho hbase hline
end
def dS(D:List (Str×Str)):List (HX×V):=D.map fun p=>(Sum.inr p.1,V.str p.2)
theorem abn(E:List (Str×Str))(t:Str):Jh (dS E) (Sum.inr t)=(MD E t).map V.str:=by
 induction E with
 | nil=>rfl
 | cons p E ih=>
   by_cases e:p.1=t
   · have h1:Jh (dS (p :: E)) (Sum.inr t)=some (V.str p.2):=J1 (p:=(Sum.inr p.1,V.str p.2)) (by rw[e])
     have h2:MD (p :: E) t=some p.2:=by simp[MD,e]
     rw[h1,h2];rfl
   · have h1:Jh (dS (p :: E)) (Sum.inr t)=Jh (dS E) (Sum.inr t):=IT (p:=(Sum.inr p.1,V.str p.2)) (fun z=>e (by injection z))
     have h2:MD (p :: E) t=MD E t:=by simp[MD,aBI,e]
     rw[h1,h2,ih]
theorem abo(D:List (Str×Str))(t x:Str):Ir (dS D) (Sum.inr t) (V.str x)=dS (L5 D t x):=by
 unfold Ir L5 dS
 have e:(D.map fun p:Str×Str=>((Sum.inr p.1:HX),V.str p.2)).any (fun kv=>decide (kv.1=Sum.inr t))=D.any fun p=>decide (p.1=t):=by
  rw[List.any_map]
  congr 1
  funext p
  exact aDe.mpr ⟨fun z=>aBT z,fun z=>aA2 Sum.inr z⟩
 rw[e]
 split
 · rw[aA3,aA3]
   refine aBK fun p _=>?_
   by_cases h:p.1=t
   · show (if (Sum.inr p.1:HX)=Sum.inr t then _ else _)=_
     rw[aAE (by rw[h])]
     show _=((Sum.inr (if p.1=t then (p.1,x) else p).1:HX),V.str (if p.1=t then (p.1,x) else p).2)
     rw[aAE h]
   · show (if (Sum.inr p.1:HX)=Sum.inr t then _ else _)=_
     rw[aAz (fun z=>h (by injection z))]
     show _=((Sum.inr (if p.1=t then (p.1,x) else p).1:HX),V.str (if p.1=t then (p.1,x) else p).2)
     rw[aAz h]
 · rw[aAy];rfl
theorem Nl{A:Around}{s:Shared}{E:List (Str×Str)}{vb:List (HX×Value)}(rb:KV (dS E) vb):∀{D:List (Str×Str)} {va:List (HX×Value)},KV (dS D) va→KeqHits A s vb va (D.all fun p=>decide (MD E p.1=some p.2))
 | [],va,r=>by
   have h:=aAV r
   cases va with
   | nil=>exact .nil
   | cons q va=>exact absurd h (by simp[dS])
 | p :: D,va,r=>by
   cases r with
   | @cons _ q _ vr h t=>
     obtain⟨h1,h2⟩:=h
     have hv:=rb.val (Sum.inr p.1)
     rw[abn] at hv
     have ih:=Nl (A:=A) (s:=s) rb t
     obtain⟨q1,q2⟩:=q
     have e1:Sum.inr p.1=q1:=h1
     subst e1
     rw[aCM]
     cases hE:MD E p.1 with
     | none=>
       rw[hE] at hv
       have:=RelO.none_of hv
       simp
       exact .miss this
     | some z=>
       rw[hE] at hv
       obtain⟨u,hu,ru⟩:=RelO.some_of hv
       have e2:YS (.str p.2) (.str z)=decide (some z=some p.2):=by
        show (p.2 == z)=_
        by_cases q:p.2=z
        · subst q;simp
        · have:¬some z=some p.2:=fun w=>q (by injection w with w;exact w.symm)
          rw[aA1 this];simpa using q
       have he:=Vf (A:=A) (s:=s) (y:=.str p.2) (x:=.str z) h2 ru rfl rfl
       rw[e2] at he
       exact .hit hu he ih
def acH(neg:Bool):R2:=fun x y H Q=>∃a b D E,x=.ref a∧y=.ref b∧H a=some (.dK (dS D))∧H b=some (.dK (dS E))∧Q (.bl (if neg then !Z6 D E else Z6 D E)) H
section
variable{X:Cx}
theorem U3(D:List (Str×Str)):(dS D).length=D.length:=by unfold dS;rw[aAf]
theorem aa4(hu:X.A.units < cLine):Mu X (compareOp .Eq) (acH false):=by
 rintro pins s σ H x y v u Q I rx ry ⟨a,b,D,E,rfl,rfl,ha,hb,q⟩
 cases rx;cases ry
 obtain⟨_,na,va,ka,da⟩:=MA I.hok ha
 obtain⟨_,nb,vb,kb,db⟩:=MA I.hok hb
 refine keq_eq na nb da db hu (fun _=>Nl kb ka) ⟨.bl _,H,I,rfl,?_⟩
 have h1:=aAV ka
 have h2:=aAV kb
 rw[U3] at h1 h2
 rw[←h1,←h2]
 exact q
end
def mD(m:Msg):PyData:=.tuple [.int m.n,.str m.t,.str m.x]
def mT(m:Msg):HO:=.tup [.int m.n,.str m.t,.str m.x]
def LE(m:Msg):Prop:=PyData.strOk m.t=true∧PyData.strOk m.x=true
theorem V4{H:Hp}{v:V}{m:Msg}(h:Has H v (mD m)):∃c,v=.ref c∧H c=some (mT m):=by
 unfold mD Has at h
 obtain⟨a,xs,rfl,h1,h2⟩:=h
 unfold HasL at h2
 obtain⟨x1,r1,rfl,e1,h2⟩:=h2
 unfold HasL at h2
 obtain⟨x2,r2,rfl,e2,h2⟩:=h2
 unfold HasL at h2
 obtain⟨x3,r3,rfl,e3,h2⟩:=h2
 unfold HasL at h2
 subst h2
 unfold Has at e1 e2 e3
 subst e1 e2 e3
 exact ⟨a,rfl,h1⟩
theorem J8{H:Hp}{c:Addr}{m:Msg}(h:H c=some (mT m)):Has H (.ref c) (mD m):=Mn h (Hi (IS _) (Hi (Kw _) (Hi (Kw _) HH)))
def Ms(H:Hp)(xs:List V)(ms:List Msg):Prop:=HasL H xs (ms.map mD)
theorem Ms.same{H H':Hp}{xs:List V}{ms:List Msg}(h:Ms H xs ms)(e:Same H H'):Ms H' xs ms:=HasL.same e h
theorem Ms.nil{H:Hp}:Ms H [] []:=HH
theorem Ms.len{H:Hp}{xs:List V}{ms:List Msg}(h:Ms H xs ms):xs.length=ms.length:=by have:=HasL.length h;rw[aAf] at this;exact this
theorem Ms.append{H:Hp}{xs ys:List V}{ms ns:List Msg}(h:Ms H xs ms)(h':Ms H ys ns):Ms H (xs ++ ys) (ms ++ ns):=by unfold Ms;rw[aAy];exact HasL.append h h'
theorem Ms.one{H:Hp}{c:Addr}{m:Msg}(h:H c=some (mT m)):Ms H [.ref c] [m]:=Hi (J8 h) HH
theorem Ms.get{H:Hp}{xs:List V}{ms:List Msg}(h:Ms H xs ms){i:Nat}(hi:i < ms.length):∃c,xs[i]?=some (.ref c)∧H c=some (mT ms[i]):=by
 obtain⟨x,e,hx⟩:=HasL.get (i:=i) (d:=mD ms[i]) h (by rw[aAH,aAd hi];rfl)
 obtain⟨c,rfl,hc⟩:=V4 hx
 exact ⟨c,e,hc⟩
theorem Ms.cons_iff{H:Hp}{x:V}{xs:List V}{ms:List Msg}:Ms H (x :: xs) ms↔∃m r,ms=m :: r∧Has H x (mD m)∧Ms H xs r:=by
 cases ms with
 | nil=>
   constructor
   · intro h;unfold Ms at h;rw[aBV] at h;unfold HasL at h;exact absurd h (by simp)
   · rintro⟨m,r,e,_⟩;exact absurd e (by simp)
 | cons m r=>
   constructor
   · intro h
     unfold Ms at h;rw[aAr] at h;unfold HasL at h
     obtain⟨x',r',e,h1,h2⟩:=h
     cases e
     exact ⟨m,r,rfl,h1,h2⟩
   · rintro⟨m',r',e,h1,h2⟩
     cases e
     exact Hi h1 h2
theorem Ms.head{H:Hp}{x:V}{xs:List V}{m:Msg}{r:List Msg}(h:Ms H (x :: xs) (m :: r)):Has H x (mD m)∧Ms H xs r:=by
 obtain⟨m',r',e,h1,h2⟩:=Ms.cons_iff.mp h
 cases e
 exact ⟨h1,h2⟩
theorem Ms.take{H:Hp}:∀{xs:List V} {ms:List Msg} (n:Nat),Ms H xs ms→Ms H (xs.take n) (ms.take n)
 | [],[],n,h=>by simpa using Ms.nil
 | [],m :: r,n,h=>by have:=h.len;simp at this
 | x :: xs,[],n,h=>by have:=h.len;simp at this
 | x :: xs,m :: r,0,h=>by simpa using Ms.nil
 | x :: xs,m :: r,n + 1,h=>Hi h.head.1 (Ms.take n h.head.2)
theorem Ms.drop{H:Hp}:∀{xs:List V} {ms:List Msg} (n:Nat),Ms H xs ms→Ms H (xs.drop n) (ms.drop n)
 | [],[],n,h=>by simpa using Ms.nil
 | [],m :: r,n,h=>by have:=h.len;simp at this
 | x :: xs,[],n,h=>by have:=h.len;simp at this
 | x :: xs,m :: r,0,h=>h
 | x :: xs,m :: r,n + 1,h=>Ms.drop n h.head.2
theorem Ms.num{H:Hp}{xs:List V}{ms:List Msg}(h:Ms H xs ms):Vp H xs (ms.map (·.n)):=by
 refine ⟨by rw[aAf,h.len],fun i x k hx hk=>?_⟩
 rw[aAH] at hk
 have hi:i < ms.length:=by rw[←h.len];exact (aAn.mp hx).1
 obtain⟨c,e,hc⟩:=h.get hi
 rw[hx] at e
 rw[aAd hi] at hk
 cases e
 cases hk
 exact ⟨c,_,_,rfl,hc⟩
theorem Sq:∀{ms:List Msg},(∀m∈ms,LE m)→PyData.canLayAll0 (ms.map mD)=true
 | [],_=>by simp[PyData.canLayAll0]
 | m :: r,h=>by
   obtain⟨h1,h2⟩:=h m aAp
   simp[PyData.canLayAll0,PyData.canLay0,mD,h1,h2,Sq fun k hk=>h k (aAq _ hk)]
theorem Np:∀ms:List Msg,PyData.depthAll (ms.map mD)≤3
 | []=>by simp[PyData.depthAll]
 | m :: r=>by
   have:=Np r
   simp only[aAr,PyData.depthAll,PyData.depth,mD]
   omega
theorem Rf{ms:List Msg}(h:∀m∈ms,LE m):SeqAt.shaped (.list (ms.map mD))=true:=by
 have h1:=Np ms
 have h2:PyData.depth (.list (ms.map mD))≤64:=by simp only[PyData.depth];omega
 show (PyData.canLay0 (.list (ms.map mD)) && decide (PyData.depth (.list (ms.map mD))≤64))=true
 rw[aAR]
 exact ⟨by simp only[PyData.canLay0];exact Sq h,aAD h2⟩
theorem abj{ms:List Msg}(h:∀m∈ms,LE m):PyData.eqv (.list (ms.map mD)) (.list (ms.map mD))=true:=
 aB5 _ (by simp only[PyData.canLay0];exact Sq h)
theorem aas{H:Hp}{a b:Addr}{xs ys:List V}{ms:List Msg}{Q:VK}(ha:H a=some (.lst xs))(hx:Ms H xs ms)(hb:H b=some (.lst ys))(hy:Ms H ys ms)(ok:∀m∈ms,LE m)(q:Q (.bl false) H):Zp (.ref a) (.ref b) H Q:=by
 refine ⟨_,_,Ic ha hx,Ic hb hy,Rf ok,Rf ok,?_⟩
 rw[abj ok];exact q
inductive DM (H:Hp):List (HX×V)→List (Str×Msg)→Prop
 | nil:DM H [] []
 | cons {t:Str} {v:V} {m:Msg} {r:List (HX×V)} {D:List (Str×Msg)}:Has H v (mD m)→DM H r D→DM H ((Sum.inr t,v) :: r) ((t,m) :: D)
theorem DM.same{H H':Hp}(e:Same H H'):∀{kvs:List (HX×V)} {D:List (Str×Msg)},DM H kvs D→DM H' kvs D
 | _,_,.nil=>.nil
 | _,_,.cons h t=>.cons (h.same e) (DM.same e t)
theorem DM.len{H:Hp}:∀{kvs:List (HX×V)} {D:List (Str×Msg)},DM H kvs D→kvs.length=D.length
 | _,_,.nil=>rfl
 | _,_,.cons _ t=>by rw[aAL,aAL,DM.len t]
theorem DM.ms{H:Hp}:∀{kvs:List (HX×V)} {D:List (Str×Msg)},DM H kvs D→Ms H (kvs.map (·.2)) (D.map (·.2))
 | _,_,.nil=>Ms.nil
 | _,_,.cons h t=>Hi h (DM.ms t)
theorem DM.any{H:Hp}(t:Str):∀{kvs:List (HX×V)} {D:List (Str×Msg)},DM H kvs D→(kvs.any fun kv=>decide (kv.1=Sum.inr t))=D.any fun p=>decide (p.1=t)
 | _,_,.nil=>rfl
 | _,_,.cons (t:=t') h r=>by
   rw[aBt,aBt,DM.any t r]
   congr 1
   exact aDe.mpr ⟨fun z=>aBT z,fun z=>aA2 Sum.inr z⟩
theorem DM.repl{H:Hp}(t:Str){v:V}{m:Msg}(h:Has H v (mD m)):∀{kvs:List (HX×V)} {D:List (Str×Msg)},DM H kvs D→DM H (kvs.map fun kv=>if kv.1=Sum.inr t then (kv.1,v) else kv) (D.map fun p=>if p.1=t then (p.1,m) else p)
 | _,_,.nil=>.nil
 | _,_,.cons (t:=t') h' r=>by
   rw[aAr,aAr]
   by_cases e:t'=t
   · rw[aAE (by rw[e]),aAE e];exact .cons h (DM.repl t h r)
   · rw[aAz (fun z=>e (by injection z)),aAz e];exact .cons h' (DM.repl t h r)
theorem DM.snoc{H:Hp}(t:Str){v:V}{m:Msg}(h:Has H v (mD m)):∀{kvs:List (HX×V)} {D:List (Str×Msg)},DM H kvs D→DM H (kvs ++ [(Sum.inr t,v)]) (D ++ [(t,m)])
 | _,_,.nil=>.cons h .nil
 | _,_,.cons h' r=>.cons h' (DM.snoc t h r)
theorem DM.put{H:Hp}(t:Str){v:V}{m:Msg}(h:Has H v (mD m)){kvs:List (HX×V)}{D:List (Str×Msg)}(d:DM H kvs D):DM H (Ir kvs (Sum.inr t) v) (L5 D t m):=by
 unfold Ir L5
 rw[d.any t]
 split
 · exact d.repl t h
 · exact d.snoc t h
theorem Re{H:Hp}{xs ys:List V}{ms:List Msg}(h:Ms H xs ms)(s:Nu (ms.map (·.n)) xs ys)(d:Diff ms):∃ns,Ms H ys ns∧ns.Perm ms∧Rise ns:=by
 obtain⟨ps,h1,rfl,h3⟩:=s
 have key:∀p∈ps,∃m,m∈ms∧p.1=m.n∧Has H p.2 (mD m):=by
  intro p hp
  have hz:=h1.mem_iff.mp hp
  obtain⟨i,hi⟩:=List.mem_iff_getElem?.mp hz
  rw[List.getElem?_zip_eq_some] at hi
  obtain⟨e1,e2⟩:=hi
  rw[aAH] at e1
  have hl:i < ms.length:=by rw[←h.len];exact (aAn.mp e2).1
  obtain⟨c,e3,hc⟩:=h.get hl
  rw[e2] at e3
  rw[aAd hl] at e1
  refine ⟨ms[i],aAO hl,(aAi e1).symm,?_⟩
  rw[aAi e3]
  exact J8 hc
 have build:∀ps:List (Int×V),(∀p∈ps,∃m,m∈ms∧p.1=m.n∧Has H p.2 (mD m))→∃ns:List Msg,Ms H (ps.map Prod.snd) ns∧ns.map (·.n)=ps.map Prod.fst∧∀m∈ns,m∈ms:=by
  intro ps
  induction ps with
  | nil=>intro _;exact ⟨[],Ms.nil,rfl,fun _ h=>nomatch h⟩
  | cons p ps ih=>
    intro hk
    obtain⟨ns,a1,a2,a3⟩:=ih fun q hq=>hk q (aAq _ hq)
    obtain⟨m,b1,b2,b3⟩:=hk p aAp
    refine ⟨m :: ns,Hi b3 a1,by rw[aAr,aAr,a2,b2],fun k hkm=>?_⟩
    rcases aAg.mp hkm with e | e
    · rw[e];exact b1
    · exact a3 k e
 obtain⟨ns,a1,a2,a3⟩:=build ps key
 have hperm:(ns.map (·.n)).Perm (ms.map (·.n)):=by
  rw[a2]
  have:=h1.map Prod.fst
  rw[List.map_fst_zip (by rw[aAf,h.len];exact aAh _)] at this
  exact this
 have dn:Diff ns:=hperm.nodup_iff.mpr d
 have rise:Rise ns:=by
  have hle:(ns.map (·.n)).Pairwise (·≤·):=by
   rw[a2,aA0];exact h3
  have hne:(ns.map (·.n)).Pairwise (·≠·):=dn
  have:=hle.and hne
  rw[aA0] at this
  exact this.imp fun ⟨x,y⟩=>by omega
 refine ⟨ns,a1,?_,rise⟩
 have nn:ns.Nodup:=(aA0.mp dn).imp fun hne e=>hne (aA2 _ e)
 have nm:ms.Nodup:=(aA0.mp d).imp fun hne e=>hne (aA2 _ e)
 refine (List.perm_ext_iff_of_nodup nn nm).mpr fun m=>⟨a3 m,fun hm=>?_⟩
 have:m.n∈ns.map (·.n):=hperm.mem_iff.mpr (aA6.mpr ⟨m,hm,rfl⟩)
 obtain⟨k,hk,e⟩:=aA6.mp this
 rw[←Diff.eq d (a3 k hk) hm e]
 exact hk
end L2
namespace L2
open PySem PySem.Spec PyProof.Rows PySem.W
theorem Same.put{H H':Hp}(e:Same H H'){p:Addr}{o:HO}(h:H p=none):Same H (Hq H' p o):=fun b u hb=>by
 rw[GY (fun z=>by rw[z,h] at hb;cases hb)];exact e b u hb
theorem Rx:∀l:List Str,(l.map V.str).all Mz=true
 | []=>rfl
 | _ :: l=>by rw[aAr,aCM,Rx l];rfl
theorem Ob:∀l:List Int,(l.map V.int).all Mz=true
 | []=>rfl
 | _ :: l=>by rw[aAr,aCM,Ob l];rfl
theorem V3(t:Str):∀l:List Str,W9 (.str t) (l.map V.str)=decide (t∈l)
 | []=>rfl
 | x :: l=>by
   unfold W9
   rw[aAr,aBt]
   have ih:=V3 t l
   unfold W9 at ih
   rw[ih]
   have e:YS (.str x) (.str t)=decide (t=x):=by
    show (x == t)=_
    by_cases h:x=t
    · subst h;simp
    · rw[aA1 (fun z=>h z.symm)];simpa using h
   rw[e]
   by_cases h1:t=x <;> by_cases h2:t∈l <;> simp[h1,h2]
theorem Nn{α:Type}{ms:List α}{i:Nat}(hi:i < ms.length){b:α→Bool}:(ms.take (i + 1)).filter b=(ms.take i).filter b ++ if b ms[i]=true then [ms[i]] else []:=by
 rw[aAF,aAd hi,aBA]
 show _ ++ List.filter b [ms[i]]=_
 rw[aBO];rfl
theorem On{ms:List Msg}(h:Rise ms):Diff ((JK ms).map (·.2)):=by
 unfold Diff List.Nodup
 rw[aA3,aA0]
 have hn:=Wv ms
 unfold List.Nodup at hn
 rw[aA0] at hn
 refine (List.Pairwise.and_mem.mp hn).imp fun {a b} ⟨ha,hb,hne⟩ e=>hne ?_
 obtain⟨e1,t1⟩:=(LI ms h a).mp ha
 obtain⟨e2,t2⟩:=(LI ms h b).mp hb
 rw[e1,e2,Diff.eq h.diff t1.1 t2.1 e]
theorem J9{ms:List Msg}(h:Rise ms){m:Msg}:m∈(JK ms).map (·.2)↔Top ms m:=by
 rw[aA6]
 constructor
 · rintro⟨p,hp,rfl⟩;exact ((LI ms h p).mp hp).2
 · intro ht;exact ⟨(m.t,m),(LI ms h _).mpr ⟨rfl,ht⟩,rfl⟩
def TopV(K:W.Frag)(H:Hp)(tv:V)(ts:Option (List Str)):Prop:=(tv=.non∧ts=none)∨∃b l,tv=.ref b∧SqL K H b (l.map V.str)∧ts=some l
theorem TopV.same{K:W.Frag}{H H':Hp}{tv:V}{ts:Option (List Str)}(h:TopV K H tv ts)(e:Same H H'):TopV K H' tv ts:=by
 rcases h with h | ⟨b,l,h1,h2,h3⟩
 · exact .inl h
 · exact .inr ⟨b,l,h1,e.seq h2,h3⟩
def ofT:Option (List Str)→List Msg→List Msg
 | none,ms=>ms
 | some l,ms=>ms.filter fun m=>decide (m.t∈l)
theorem ZJ{ts:Option (List Str)}{ms:List Msg}:∀m∈ofT ts ms,m∈ms:=by
 cases ts with
 | none=>exact fun m h=>h
 | some l=>exact fun m h=>(aBp.mp h).1
def S4(K:W.Frag):Sp:=fun vs H Q _=>∃a xs ms tv ts,vs=[.ref a,tv]∧H a=some (.lst xs)∧Ms H xs ms∧ms.length < 64∧TopV K H tv ts∧
 ∀p ys H',Same H H'→H p=none→H' p=some (.lst ys)→Ms H' ys (ofT ts ms)→Q (.ref p) H'
def RP:Sp:=fun vs H Q _=>∃a xs ms,vs=[.ref a]∧H a=some (.lst xs)∧Ms H xs ms∧ms.length < 64∧Diff ms∧
 ∀p ys ls H',Same H H'→H p=none→H' p=some (.lst ys)→Ms H' ys ls→Lasts ms ls→Q (.ref p) H'
def RL:Sp:=fun vs H Q _=>∃a xs ms,vs=[.ref a]∧H a=some (.lst xs)∧Ms H xs ms∧ms.length < 64∧Diff ms∧
 ∀p ls H',Same H H'→H p=none→H' p=some (.dK (dS (Ku ls)))→Lasts ms ls→Q (.ref p) H'
def gD(q:Int×Int):PyData:=.tuple [.int q.1,.int q.2]
def Xo:Sp:=fun vs H Q _=>∃a ns,vs=[.ref a]∧H a=some (.lst (ns.map V.int))∧ns.length < 64∧
 ∀p ys H',Same H H'→H p=none→H' p=some (.lst ys)→HasL H' ys ((My ns).map gD)→Q (.ref p) H'
mutual
def JP:PyData→Bool
 | .list _=>false
 | .dict _=>false
 | .tuple ds=>Ib ds
 | _=>true
def Ib:List PyData→Bool
 | []=>true
 | d :: ds=>JP d && Ib ds
end
mutual
theorem Has.updL{H:Hp}{g:Addr}{zs:List V}{o:HO}(hg:H g=some (.lst zs)):∀{v:V} {d:PyData},JP d=true→Has H v d→Has (Hq H g o) v d
 | v,.none,_,h=>by unfold Has at h ⊢;exact h
 | v,.bool b,_,h=>by unfold Has at h ⊢;exact h
 | v,.int i,_,h=>by unfold Has at h ⊢;exact h
 | v,.str x,_,h=>by unfold Has at h ⊢;exact h
 | v,.list ds,n,h=>by unfold JP at n;cases n
 | v,.tuple ds,n,h=>by
   unfold JP at n
   unfold Has at h ⊢
   obtain⟨a,xs,h1,h2,h3⟩:=h
   refine ⟨a,xs,h1,?_,HasL.updL hg n h3⟩
   rw[GY (fun e=>by rw[e,hg] at h2;cases h2)];exact h2
 | v,.dict kvs,n,h=>by unfold JP at n;cases n
theorem HasL.updL{H:Hp}{g:Addr}{zs:List V}{o:HO}(hg:H g=some (.lst zs)):∀{xs:List V} {ds:List PyData},Ib ds=true→HasL H xs ds→HasL (Hq H g o) xs ds
 | xs,[],_,h=>by unfold HasL at h ⊢;exact h
 | xs,d :: ds,n,h=>by
   unfold Ib at n
   rw[aAR] at n
   unfold HasL at h ⊢
   obtain⟨x,r,h1,h2,h3⟩:=h
   exact ⟨x,r,h1,Has.updL hg n.1 h2,HasL.updL hg n.2 h3⟩
end
theorem KS:∀ms:List Msg,Ib (ms.map mD)=true
 | []=>by simp[Ib]
 | m :: r=>by simp[Ib,JP,mD,KS r]
theorem TH:∀ms:List (Int×Int),Ib (ms.map gD)=true
 | []=>by simp[Ib]
 | m :: r=>by simp[Ib,JP,gD,TH r]
theorem Ms.updL{H:Hp}{g:Addr}{zs:List V}{o:HO}{xs:List V}{ms:List Msg}(hg:H g=some (.lst zs))(h:Ms H xs ms):Ms (Hq H g o) xs ms:=HasL.updL hg (KS ms) h
theorem XX{H:Hp}{c:Addr}{q:Int×Int}(h:H c=some (.tup [.int q.1,.int q.2])):Has H (.ref c) (gD q):=Mn h (Hi (IS _) (Hi (IS _) HH))
end L2
namespace L2
open PySem PySem.Spec PyProof.Rows PySem.W
def Rows(ms:List Msg):Prop:=∀i (h:i < ms.length),ms[i].n=(i:Int) + 1
theorem Rows.nil:Rows []:=fun i h=>absurd h (by simp)
theorem Rows.snoc{ms:List Msg}{m:Msg}(h:Rows ms)(e:m.n=(ms.length:Int) + 1):Rows (ms ++ [m]):=by
 intro i hi
 rw[aAk,aAT] at hi
 by_cases hl:i < ms.length
 · rw[List.getElem_append_left hl];exact h i hl
 · have e':i=ms.length:=by omega
   subst e'
   rw[List.getElem_append_right (aAh _)]
   simpa using e
theorem Rows.rise{ms:List Msg}(h:Rows ms):Rise ms:=by
 refine aAZ.mpr fun i j hi hj hij=>?_
 rw[h i hi,h j hj];omega
def XY(m o:Msg):Bool:=decide (o.t=m.t) && decide (o.n > m.n)
def Sw(ms:List Msg)(m:Msg):Bool:=(ms.filter (XY m)).isEmpty
theorem Qe{ms:List Msg}(m:Msg):m∈ms.filter (Sw ms)↔Top ms m:=by
 rw[aBp]
 unfold Sw Top
 refine ⟨fun ⟨h1,h2⟩=>⟨h1,fun k hk e=>?_⟩,fun ⟨h1,h2⟩=>⟨h1,?_⟩⟩
 · have h3:=List.filter_eq_nil_iff.mp (List.isEmpty_iff.mp h2) k hk
   unfold XY at h3
   rw[aAD e,aDt,aC8] at h3
   omega
 · refine List.isEmpty_iff.mpr (List.filter_eq_nil_iff.mpr fun k hk=>?_)
   unfold XY
   rw[aAR,aC8,aC8]
   rintro⟨e,h⟩
   have:=h2 k hk e
   omega
mutual
theorem Has.updD{H:Hp}{g:Addr}{zs:List (HX×V)}{o:HO}(hg:H g=some (.dK zs)):∀{v:V} {d:PyData},JP d=true→Has H v d→Has (Hq H g o) v d
 | v,.none,_,h=>by unfold Has at h ⊢;exact h
 | v,.bool b,_,h=>by unfold Has at h ⊢;exact h
 | v,.int i,_,h=>by unfold Has at h ⊢;exact h
 | v,.str x,_,h=>by unfold Has at h ⊢;exact h
 | v,.list ds,n,h=>by unfold JP at n;cases n
 | v,.tuple ds,n,h=>by
   unfold JP at n
   unfold Has at h ⊢
   obtain⟨a,xs,h1,h2,h3⟩:=h
   refine ⟨a,xs,h1,?_,HasL.updD hg n h3⟩
   rw[GY (fun e=>by rw[e,hg] at h2;cases h2)];exact h2
 | v,.dict kvs,n,h=>by unfold JP at n;cases n
theorem HasL.updD{H:Hp}{g:Addr}{zs:List (HX×V)}{o:HO}(hg:H g=some (.dK zs)):∀{xs:List V} {ds:List PyData},Ib ds=true→HasL H xs ds→HasL (Hq H g o) xs ds
 | xs,[],_,h=>by unfold HasL at h ⊢;exact h
 | xs,d :: ds,n,h=>by
   unfold Ib at n
   rw[aAR] at n
   unfold HasL at h ⊢
   obtain⟨x,r,h1,h2,h3⟩:=h
   exact ⟨x,r,h1,Has.updD hg n.1 h2,HasL.updD hg n.2 h3⟩
end
theorem Ms.updD{H:Hp}{g:Addr}{zs:List (HX×V)}{o:HO}{xs:List V}{ms:List Msg}(hg:H g=some (.dK zs))(h:Ms H xs ms):Ms (Hq H g o) xs ms:=HasL.updD hg (KS ms) h
end L2
namespace L2
open PySem PySem.Spec PyProof.Rows PySem.W
structure CalleeM(P:Program)(w:World)(K:W.Frag)(mg:Str→Option Value)(base:Heap)(k:Nat)(C:Addr)(m:Str)(ps:List Str)(sp:Sp):Prop where
 ex:∃f fd,FnOk P w K mg base Jg k f fd ps sp∧Meth K C m f∧Binds K fd ps []
structure CalleeI(P:Program)(w:World)(K:W.Frag)(mg:Str→Option Value)(base:Heap)(k:Nat)(C:Addr)(ps:List Str)(sp:Sp):Prop where
 ex:∃f fd,FnOk P w K mg base Jg k f fd ps sp∧Mk K C f∧Binds K fd ps []
section
variable{X:Cx}{k:Nat}{C:Addr}{m x:Str}{ps:List Str}{sp:Sp}{o e:Expr}{es:List Expr}{ta tv:TE}{t:TA}{p apos pos pos':Pos}
theorem JS{pl:Sem Bool}(M:CalleeM X.prog X.w X.K X.mg X.base k C m ps sp)(c:Cls X.K C)(hr:Room k X.A)(he:PE X o ta)(ha:PAt X e es t)
 (ht:eval (.Call (.Attribute o m apos) (e :: es) [] pos) X.env=(do
  let ov ←eval o X.env
  standAt apos.atName
  let (f,first) ←holding [ov] (getMethod ov m pl)
  callWith pos f first (backTo pos (starEach (e :: es) X.env)) (backToKw pos (keywordEach [] X.env))):=by rfl) :
 PE X (.Call (.Attribute o m apos) (e :: es) [] pos) (Q7 C m sp [] E0 ta t):=by
 obtain⟨f,fd,F,hm,hb⟩:=M.ex
 exact VP (pl:=pl) he c hm F hr hb .nil Rk ha.all.pa (ha.all.he ha.tl) (by rw[ha.tl];exact JG _ _ _) ht
theorem Hl{pl:Sem Bool}(M:CalleeM X.prog X.w X.K X.mg X.base k C m ps sp)(c:Cls X.K C)(hr:Room k X.A)(he:PE X o ta)
 (ht:eval (.Call (.Attribute o m apos) [] [] pos) X.env=(do
  let ov ←eval o X.env
  standAt apos.atName
  let (f,first) ←holding [ov] (getMethod ov m pl)
  callWith pos f first (backTo pos (starEach [] X.env)) (backToKw pos (keywordEach [] X.env))):=by rfl) :
 PE X (.Call (.Attribute o m apos) [] [] pos) (Q7 C m sp [] E0 ta SS):=by
 obtain⟨f,fd,F,hm,hb⟩:=M.ex
 exact XQ (pl:=pl) he c hm F hr hb .nil Rk ht
theorem LL(M:CalleeI X.prog X.w X.K X.mg X.base k C ps sp)(hr:Room (k + 1) X.A)(hm:X.mg x=some (.ref C))(ha:PAt X e es t)(hg:Gl X x:=by rfl)(hdb:(x == ("__debug__" : Str))=false:=by decide) :
 PE X (.Call (.Name x p) (e :: es) [] pos) (Vz C sp [] E0 t):=by
 obtain⟨f,fd,F,hM,hb⟩:=M.ex
 exact ZA hM F hr hg hm hb .nil Rk ha.all.pa hdb (ha.all.he ha.tl) (by rw[ha.tl];exact JG _ _ _)
theorem Nr(M:CalleeI X.prog X.w X.K X.mg X.base k C ps sp)(hr:Room (k + 1) X.A)(hm:X.mg x=some (.ref C))(hg:Gl X x:=by rfl)(hdb:(x == ("__debug__" : Str))=false:=by decide) :
 PE X (.Call (.Name x p) [] [] pos) (Vz C sp [] E0 SS):=by
 obtain⟨f,fd,F,hM,hb⟩:=M.ex
 exact XS hM F hr hg hm hb .nil Rk hdb
theorem HM(K:W.Frag){value:Expr}{f:Str}(ha:PE X o ta)(hv:PE X value tv)(hs:swapsWith value (some (.Attribute o f pos')) pos.line X.env=pure false)(h:X.K=K:=by rfl):PS X (.Assign [.Attribute o f pos'] value pos) (abP K ta tv f):=h ▸ aaV ha hv hs
end
theorem Iu{f:Str}{v:V}{r:List (Str×V)}:List.lookup f ((f,v) :: r)=some v:=by simp[List.lookup]
theorem Hg{f g:Str}{v:V}{r:List (Str×V)}(h:¬f=g):List.lookup f ((g,v) :: r)=List.lookup f r:=by
 have hb:(f == g)=false:=aA7.mpr h
 simp[List.lookup,hb]
theorem MI{f:Str}{v x:V}{r:List (Str×V)}:Hm f v ((f,x) :: r)=(f,v) :: r:=by
 show (if f=f then _ else _)=_
 rw[aAE rfl]
theorem Hj{f g:Str}{v x:V}{r:List (Str×V)}(h:¬g=f):Hm f v ((g,x) :: r)=(g,x) :: Hm f v r:=by
 show (if g=f then _ else _)=_
 rw[aAz h]
def Tups(H H':Hp):Prop:=∀c xs,H c=some (.tup xs)→H' c=some (.tup xs)
theorem Same.tups{H H':Hp}(e:Same H H'):Tups H H':=fun c xs h=>e _ _ h
theorem Tups.refl(H:Hp):Tups H H:=fun _ _ h=>h
theorem Tups.trans{H H' H'':Hp}(a:Tups H H')(b:Tups H' H''):Tups H H'':=fun c xs h=>b _ _ (a _ _ h)
theorem Tups.put{H H':Hp}(a:Tups H H'){g:Addr}{u o:HO}(h:H' g=some u)(hn:∀xs,u≠.tup xs):Tups H (Hq H' g o):=fun c xs hc=>by
 have h1:=a _ _ hc
 rw[GY (fun e=>by rw[e,h] at h1;exact hn xs (aAi h1))];exact h1
theorem Tups.new{H H':Hp}(a:Tups H H'){g:Addr}{o:HO}(h:H' g=none):Tups H (Hq H' g o):=fun c xs hc=>by
 have h1:=a _ _ hc
 rw[GY (G5 h1 h)];exact h1
mutual
theorem Has.tups{H H':Hp}(e:Tups H H'):∀{v:V} {d:PyData},JP d=true→Has H v d→Has H' v d
 | v,.none,_,h=>by unfold Has at h ⊢;exact h
 | v,.bool b,_,h=>by unfold Has at h ⊢;exact h
 | v,.int i,_,h=>by unfold Has at h ⊢;exact h
 | v,.str x,_,h=>by unfold Has at h ⊢;exact h
 | v,.list ds,n,h=>by unfold JP at n;cases n
 | v,.tuple ds,n,h=>by
   unfold JP at n
   unfold Has at h ⊢
   obtain⟨a,xs,h1,h2,h3⟩:=h
   exact ⟨a,xs,h1,e _ _ h2,HasL.tups e n h3⟩
 | v,.dict kvs,n,h=>by unfold JP at n;cases n
theorem HasL.tups{H H':Hp}(e:Tups H H'):∀{xs:List V} {ds:List PyData},Ib ds=true→HasL H xs ds→HasL H' xs ds
 | xs,[],_,h=>by unfold HasL at h ⊢;exact h
 | xs,d :: ds,n,h=>by
   unfold Ib at n
   rw[aAR] at n
   unfold HasL at h ⊢
   obtain⟨x,r,h1,h2,h3⟩:=h
   exact ⟨x,r,h1,Has.tups e n.1 h2,HasL.tups e n.2 h3⟩
end
theorem Ms.tups{H H':Hp}{xs:List V}{ms:List Msg}(h:Ms H xs ms)(e:Tups H H'):Ms H' xs ms:=HasL.tups e (KS ms) h
theorem VS(m:Msg):JP (mD m)=true:=by simp[JP,Ib,mD]
theorem DM.tups{H H':Hp}(e:Tups H H'):∀{kvs:List (HX×V)} {D:List (Str×Msg)},DM H kvs D→DM H' kvs D
 | _,_,.nil=>.nil
 | _,_,.cons h t=>.cons (h.tups e (VS _)) (DM.tups e t)
def But(ps:List Addr)(H H':Hp):Prop:=∀c o,H c=some o→c∉ps→H' c=some o
def Im(k:Int)(all:List Msg):List Msg:=all.drop (all.length - k.toNat)
theorem Ly(k:Int)(all:List Msg):(Im k all).length=min all.length k.toNat:=by unfold Im;rw[aB3];omega
theorem TR{k:Int}{all:List Msg}{m:Msg}(h:all.length + 1≤k.toNat):Im k (all ++ [m])=Im k all ++ [m]:=by
 unfold Im
 rw[aAk,aAT,show all.length + 1 - k.toNat=0 by omega,show all.length - k.toNat=0 by omega];rfl
theorem U4{k:Int}{all:List Msg}{m:Msg}(h:k.toNat≤all.length):Im k (all ++ [m])=(Im k all ++ [m]).drop 1:=by
 unfold Im
 rw[aAk,aAT]
 rw[←List.drop_append_of_le_length (by omega),List.drop_drop]
 congr 1
 omega
theorem Uv{ms:List Msg}(h:Rise ms){m:Msg}:Top ((JK ms).map (·.2)) m↔Top ms m:=by
 constructor
 · exact fun ⟨a,_⟩=>(J9 h).mp a
 · intro t
   refine ⟨(J9 h).mpr t,fun k hk e=>?_⟩
   exact t.2 k ((J9 h).mp hk).1 e
def tF(k r n:Int)(s d:Addr):List (Str×V):=[("keep",.int k),("turn",.int r),("total",.int n),("stored",.ref s),("newest",.ref d)]
section
variable{k r n:Int}{s d:Addr}
theorem Zc:(tF k r n s d).lookup ("keep" : Str)=some (V.int k):=Iu
theorem RJ:(tF k r n s d).lookup ("turn" : Str)=some (V.int r):=(Hg (by decide +kernel)).trans Iu
theorem Kn:(tF k r n s d).lookup ("total" : Str)=some (V.int n):=(Hg (by decide +kernel)).trans ((Hg (by decide +kernel)).trans Iu)
theorem Kx:(tF k r n s d).lookup ("stored" : Str)=some (V.ref s):=(Hg (by decide +kernel)).trans ((Hg (by decide +kernel)).trans ((Hg (by decide +kernel)).trans Iu))
theorem Q8:(tF k r n s d).lookup ("newest" : Str)=some (V.ref d):=(Hg (by decide +kernel)).trans ((Hg (by decide +kernel)).trans ((Hg (by decide +kernel)).trans ((Hg (by decide +kernel)).trans Iu)))
theorem Xd{f:Str}(h1:¬f = "keep")(h2:¬f = "turn")(h3:¬f = "total")(h4:¬f = "stored")(h5:¬f = "newest"):(tF k r n s d).lookup f=none:=
 (Hg h1).trans ((Hg h2).trans ((Hg h3).trans ((Hg h4).trans (Hg h5))))
theorem Zb:Hm "newest" (.ref d) (Hm "stored" (.ref s) (Hm "total" (.int n) (Hm "turn" (.int r) (Hm "keep" (.int k) []))))=tF k r n s d:=by
 show Hm "newest" (.ref d) (Hm "stored" (.ref s) (Hm "total" (.int n) (Hm "turn" (.int r) [("keep",.int k)])))=_
 rw[Hj (by decide +kernel)]
 show Hm "newest" (.ref d) (Hm "stored" (.ref s) (Hm "total" (.int n) [("keep",.int k),("turn",.int r)]))=_
 rw[Hj (by decide +kernel),Hj (by decide +kernel)]
 show Hm "newest" (.ref d) (Hm "stored" (.ref s) [("keep",.int k),("turn",.int r),("total",.int n)])=_
 rw[Hj (by decide +kernel),Hj (by decide +kernel),Hj (by decide +kernel)]
 show Hm "newest" (.ref d) [("keep",.int k),("turn",.int r),("total",.int n),("stored",.ref s)]=_
 rw[Hj (by decide +kernel),Hj (by decide +kernel),Hj (by decide +kernel),Hj (by decide +kernel)]
 rfl
theorem SU{n':Int}:Hm "total" (.int n') (tF k r n s d)=tF k r n' s d:=by
 unfold tF
 rw[Hj (by decide +kernel),Hj (by decide +kernel),MI]
end
structure TAt(C:Addr)(H:Hp)(p:Addr)(k r:Int)(all:List Msg)(s d:Addr):Prop where
 ob:∃dx,H p=some (.ins C dx (tF k r (all.length:Int) s d))
 st:∃ys,H s=some (.lst ys)∧Ms H ys (Im k all)
 nw:∃kvs,H d=some (.dK kvs)∧DM H kvs (JK all)
theorem TAt.same{C:Addr}{H H':Hp}{p:Addr}{k r:Int}{all:List Msg}{s d:Addr}(h:TAt C H p k r all s d)(e:Same H H'):TAt C H' p k r all s d:=by
 obtain⟨⟨dx,h1⟩,⟨ys,h2,h3⟩,⟨kvs,h4,h5⟩⟩:=h
 exact ⟨⟨dx,e _ _ h1⟩,⟨ys,e _ _ h2,h3.same e⟩,⟨kvs,e _ _ h4,h5.same e⟩⟩
theorem TAt.but{C:Addr}{H H':Hp}{p p':Addr}{k r k' r':Int}{all all':List Msg}{s d s' d':Addr}(h:TAt C H p k r all s d)(h':TAt C H p' k' r' all' s' d')(hp:p≠p')(hs:s≠s')(hd:d≠d')(e:But [p',s',d'] H H'):TAt C H' p k r all s d:=by
 obtain⟨⟨dx,h1⟩,⟨ys,h2,h3⟩,⟨kvs,h4,h5⟩⟩:=h
 obtain⟨⟨dx',g1⟩,⟨ys',g2,g3⟩,⟨kvs',g4,g5⟩⟩:=h'
 have tp:Tups H H':=fun c xs hc=>e c _ hc (by
  have a1:=HY hc g1 (by intro z;cases z)
  have a2:=HY hc g2 (by intro z;cases z)
  have a3:=HY hc g4 (by intro z;cases z)
  simp[a1,a2,a3])
 refine ⟨⟨dx,e _ _ h1 ?_⟩,⟨ys,e _ _ h2 ?_,h3.tups tp⟩,⟨kvs,e _ _ h4 ?_,h5.tups tp⟩⟩
 · have a2:=HY h1 g2 (by intro z;cases z)
   have a3:=HY h1 g4 (by intro z;cases z)
   simp[hp,a2,a3]
 · have a1:=HY h2 g1 (by intro z;cases z)
   have a3:=HY h2 g4 (by intro z;cases z)
   simp[a1,hs,a3]
 · have a1:=HY h4 g1 (by intro z;cases z)
   have a2:=HY h4 g2 (by intro z;cases z)
   simp[a1,a2,hd]
theorem TAt.tups{C:Addr}{H H':Hp}{p:Addr}{k r:Int}{all:List Msg}{s d:Addr}(h:TAt C H p k r all s d)(e:But [p,s,d] H H'):Tups H H':=by
 obtain⟨⟨dx,g1⟩,⟨ys,g2,g3⟩,⟨kvs,g4,g5⟩⟩:=h
 exact fun c xs hc=>e c _ hc (by
  have a1:=HY hc g1 (by intro z;cases z)
  have a2:=HY hc g2 (by intro z;cases z)
  have a3:=HY hc g4 (by intro z;cases z)
  simp[a1,a2,a3])
structure TellerC(K:W.Frag)(mg:Str→Option Value)(C:Addr):Prop where
 cl_Teller:Cls K C
 mg_Teller:mg "Teller" = some (.ref C)
 n_keep:NoAttr K C "keep"
 n_turn:NoAttr K C "turn"
 n_total:NoAttr K C "total"
 n_stored:NoAttr K C "stored"
 n_newest:NoAttr K C "newest"
def OY(C:Addr):Sp:=fun vs H Q _=>∃(p dx:Addr) (k:Int),vs=[.ref p,.int k]∧H p=some (.ins C dx [])∧
 ∀s d H',H s=none→H d=none→TAt C H' p k 0 [] s d→(∀b o,H b=some o→b≠p→H' b=some o)→Q .non H'
def UB(C:Addr):Sp:=fun vs H Q _=>∃p t x k r all s d,vs=[.ref p,.str t,.str x]∧TAt C H p k r all s d∧all.length < 60∧0≤k∧
 ∀H',TAt C H' p k r (all ++ [⟨(all.length:Int) + 1,t,x⟩]) s d→But [p,s,d] H H'→Q (.int ((all.length:Int) + 1)) H'
def UA(C:Addr):Sp:=fun vs H Q _=>∃p k r all s d,vs=[.ref p]∧TAt C H p k r all s d∧Q (.int (all.length:Int)) H
def Xl(C:Addr):Sp:=fun vs H Q _=>∃p k r all s d,vs=[.ref p]∧TAt C H p k r all s d∧∀l ys,H l=none→Ms (Hq H l (.lst ys)) ys (Im k all)→Q (.ref l) (Hq H l (.lst ys))
def Pg(C:Addr):Sp:=fun vs H Q _=>∃p k r all s d,vs=[.ref p]∧TAt C H p k r all s d∧Q (.int ((all.length:Int) - ((Im k all).length:Int) + 1)) H
def RO(C:Addr):Sp:=fun vs H Q _=>∃p k r all s d,vs=[.ref p]∧TAt C H p k r all s d∧all.length < 64∧Rise all∧∀l ys ls H',Same H H'→H l=none→H' l=some (.lst ys)→Ms H' ys ls→Lasts all ls→Q (.ref l) H'
def Mf:Sp:=fun vs H Q _=>∃a xs ms n,vs=[.ref a,.int n]∧H a=some (.lst xs)∧Ms H xs ms∧ms.length < 64∧∀p ys H',Same H H'→H p=none→H' p=some (.lst ys)→Ms H' ys (ms.filter fun m=>decide (m.n > n))→Q (.ref p) H'
def Ml(k n:Int)(all:List Msg):Int:=if (all.length:Int) - ((Im k all).length:Int) + 1 - 1 - n > 0 then (all.length:Int) - ((Im k all).length:Int) + 1 - 1 - n else 0
theorem Iy(f:Str)(v:V):∀fs:List (Str×V),(Hm f v fs).length≤fs.length + 1
 | []=>aAh _
 | (g,x) :: r=>by
   show (if g=f then (g,v) :: r else (g,x) :: Hm f v r).length≤_
   have:=Iy f v r
   split
   · simp
   · simp only[aAL];omega
theorem But.same{ps:List Addr}{H0 H H':Hp}(e:Same H0 H)(b:But ps H H')(hn:∀p∈ps,H0 p=none):Same H0 H':=fun c o h=>b c o (e _ _ h) fun hc=>by rw[hn c hc] at h;cases h
def bD(ms:List Msg)(z:Int):PyData:=.tuple [.list (ms.map mD),.int z]
end L2
namespace L2
open PySem PySem.Spec PyProof.Rows PySem.W
structure Fly(P:Program)(w:World)(outer:List Env)(H H':Hp)(h:Heap)(a:Addr)(cls:Value)(h':Heap):Prop where
 cx:Uq h' a
 ex:∃(B:Heap) (a0:Value) (hr:Heap) (Ls:List Addr),Heap.FlyingW B outer a cls a0 h'∧Un (OP outer) [] H H' h hr∧HOk P w H' hr∧(∀b o,hr.get? b=some o→b∉OP outer→b∉Ls→B.get? b=some o)∧(∀L∈Ls,h.get? L=none∧H' L=none)∧hr.UpToSlots h'∧hr.get? a=none
def LX(P:Program)(w:World):RF:=fun outer H s E e s'=>∃a cls H',e=.ref a∧s'.os=s.os∧AllBare s'.gens∧Fly P w outer H H' s.heap a cls s'.heap∧H' a=none∧E cls none H'
theorem aa7{P:Program}{w:World}{H:Hp}{h:Heap}{a:Addr}{o:HO}(x:ObjOk P w H h a o):∃ob,h.get? a=some ob:=by
 cases o with
 | lst xs=>obtain⟨_,_,_,_,e⟩:=x;exact ⟨_,e⟩
 | tup xs=>obtain⟨_,_,_,ob,e,_⟩:=x;exact ⟨_,e⟩
 | dK kvs=>obtain⟨_,_,_,_,o,_,_,e,_⟩:=x;exact ⟨_,e⟩
 | dT kvs=>obtain⟨_,_,_,_,o,_,_,e,_⟩:=x;exact ⟨_,e⟩
 | set S n=>obtain⟨o,_,_,_,e,_⟩:=x;exact ⟨_,e⟩
 | ins C dx fs=>obtain⟨_,_,_,e,_⟩:=x;exact ⟨_,e⟩
 | own y=>obtain⟨_,e⟩:=x;exact ⟨_,e⟩
 | xd fs=>obtain⟨_,⟨_,_,_,e,_⟩,_⟩:=x;exact ⟨_,e⟩
 | rng lo hi=>obtain⟨_,_,_,e⟩:=x;exact ⟨_,e⟩
 | frz ob u=>obtain⟨e,_⟩:=x;exact ⟨_,e⟩
 | tbl ps=>exact ⟨_,show h.get? a=some _ from x⟩
 | met f y=>exact ⟨_,show h.get? a=some _ from x⟩
 | ext φ=>obtain⟨_,⟨_,e⟩,_⟩:=x;exact ⟨_,e⟩
theorem aaG{P:Program}{w:World}{fs:List Addr}{H H':Hp}{h hr h' B:Heap}{Ls:List Addr}(un:Un fs [] H H' h hr)(hok:HOk P w H' hr)(cov:∀b o,hr.get? b=some o→b∉fs→b∉Ls→B.get? b=some o)(hL:∀L∈Ls,h.get? L=none∧H' L=none)
 (st:B.StaysIn h')(sm:hr.UpToSlots h')(hf:∀b∈fs,H b=none∧∀o,h.get? b=some o→∀vs,o.data≠.fields vs)(hfH:∀b∈fs,H' b=none):Un fs [] H H' h h'∧HOk P w H' h':=by
 have tr:∀b u o,H' b=some u→hr.get? b=some o→h'.get? b=some o:=fun b u o hb ho=>by
  refine st b o (cov b o ho (fun z=>?_) fun z=>?_)
  · rw[hfH b z] at hb;cases hb
  · rw[(hL b z).2] at hb;cases hb
 have ne:∀b o,h.get? b=some o→b∉Ls:=fun b o e z=>by rw[(hL b z).1] at e;cases e
 refine ⟨⟨fun b o e n hb hx=>st b o (cov b o (un.keep b o e n hb hx) hb (ne b o e)),fun b o e n hb hx=>?_,un.free,fun b o e hx=>?_,un.tups,un.frzs,un.tbls⟩,fun b u e=>?_⟩
 · obtain⟨sl,e1⟩:=un.slot b o e n hb hx
   obtain⟨sl2,e2⟩:=sm b _ e1 ((hf b hb).2 o e)
   exact ⟨sl2,e2⟩
 · by_cases hb:b∈fs
   · obtain⟨sl,e1⟩:=un.slot b o e (hf b hb).1 hb hx
     obtain⟨sl2,e2⟩:=sm b _ e1 ((hf b hb).2 o e)
     exact ⟨_,e2⟩
   · obtain⟨o',e1⟩:=un.there b o e hx
     exact ⟨o',st b o' (cov b o' e1 hb (ne b o e))⟩
 · refine (hok b u e).stay (fun c o hc ho=>?_) (fun _ q=>q) fun _ _ q=>q
   rcases hc with rfl | hc
   · exact tr _ _ _ e ho
   · exact tr _ _ _ hc ho
section
variable{X:Cx}{pins:List (Addr×Obj)}{σ:St}{H H':Hp}{s:Shared}
theorem Inv.frNo(I:Inv X pins σ H s):∀b∈OP X.stack,H b=none∧∀o,s.heap.get? b=some o→∀vs,o.data≠.fields vs:=fun b hb=>by
 refine ⟨I.stkFree b hb,fun o e vs hd=>?_⟩
 obtain⟨_,o',ho,hn⟩:=I.stack.mem hb
 rw[e] at ho
 cases ho
 exact hn vs hd
theorem Inv.flown{g':Array GenState}{t':Nat}{d':Drawn}{B hr h':Heap}{Ls:List Addr}(I:Inv X pins σ H s)(un:Un (OP X.stack) [] H H' s.heap hr)(hok:HOk X.prog X.w H' hr)(cov:∀b o,hr.get? b=some o→b∉OP X.stack→b∉Ls→B.get? b=some o)
 (hL:∀L∈Ls,s.heap.get? L=none∧H' L=none)(st:B.StaysIn h')(sm:hr.UpToSlots h')(hg:AllBare g'):Inv X pins σ H' { s with heap:=h',gens:=g',drawn:=d',toks:=t' }:=by
 have hfH:∀b∈OP X.stack,H' b=none:=fun b hb=>by
  obtain⟨_,o,ho,_⟩:=I.stack.mem hb
  exact un.free b o ho (I.stkFree b hb) (by simp)
 obtain⟨u,k⟩:=aaG un hok cov hL st sm I.frNo hfH
 exact I.call (ch:=[]) u k hg (fun b z=>absurd z (by simp))
end
structure Exc(K:W.Frag)(mg:Str→Option Value)(x:Str)(C:Addr):Prop where
 at_:mg x=some (.ref C)
 exc:W.excIn K C [.type "ValueError",.type "Exception",.type "BaseException",.type "object"] "ValueError.__new__" = true
theorem Z5{K:W.Frag}{mg:Str→Option Value}{x:Str}{C:Addr}{h:Heap}{bmB:List Value}{newId:String}(X:K.In h)(e:mg x=some (.ref C))(q:W.excIn K C bmB newId=true):OwnCls x C bmB newId mg h:=by
 refine ⟨e,?_⟩
 unfold W.excIn at q
 split at q
 · rename_i dd cd sl ho
   split at q
   · rename_i C' bm k0 k1 k2 k3 n k5 hm hs
     simp only[aAR,aB8,aC5] at q
     obtain⟨⟨⟨⟨⟨rfl,rfl⟩,hdel⟩,ht⟩,hok⟩,hni⟩:=q
     obtain⟨nm,bs,mro,ns,qn,hd,sn,sub,ab,col,del⟩:=cd
     dsimp only at hm hdel hok hni
     subst hm hdel
     have hsl:sl = #[k0,k1,k2,k3,some (.builtin n),k5]:=by
      obtain⟨l⟩:=sl
      simp only at hs
      rw[hs]
     subst hsl
     exact ⟨bm,ns,nm,qn,bs,hd,sn,sub,ab,col,dd,k0,k1,k2,k3,k5,_,X _ _ ho,.of_isNs (W.isNs_of_in X hok),W.nsMap_none_of_in X hok hni,W.tail_of_in X ht⟩
   · cases q
 · cases q
def aaK(C:Addr)(E:XK)(t:TA):TS:=fun _ σ H=>t σ H fun vs H1=>vs.length≤sizeLine∧E (.ref C) none H1
section
variable{P:Program}{w:World}{K:W.Frag}{mg:Str→Option Value}{base:Heap}{N:List Str}{qual:Str}{scope:Scope}{f:Addr}{cd:Value}{A:Around}{outer:List Env}{s:Shared}{H:Hp}{E:XK}
theorem KQ{x:Str}{C:Addr}{np cpos pos:Pos}{e:Expr}{es:List Expr}{t:TA}(Z:Exc K mg x C)(ha:PAt (LW (LX P w) P w K mg base N qual scope f cd A outer s H E) e es t)
 (hg:Gl (LW (LX P w) P w K mg base N qual scope f cd A outer s H E) x:=by rfl)(hd:(x == ("__debug__" : Str))=false:=by decide) :
 PS (LW (LX P w) P w K mg base N qual scope f cd A outer s H E) (.Raise (some (.Call (.Name x np) (e :: es) [] cpos)) none pos) (aaK C E t):=by
 intro pins s1 σ H1 D I h
 have X1:=I.kIn
 by_cases hh:(LW (LX P w) P w K mg base N qual scope f cd A outer s H E).A.handled=none
 case neg=>
  have nv:Nev E:=I.ok.ez hh
  refine Tl (aBi (Kv I hg Z.at_ ?_ hd))
  refine Qt ?_
  have he:=ha.all.he ha.tl
  have hsp:=ha.all.pa cpos pins s1 σ H1 _ I h
  rw[he] at hsp ⊢
  exact aBW (aA9 hsp (fun us s2 ⟨vs,H2,I2,rv,hlen,hE⟩=>absurd hE (nv _ _ _)) fun _ _ y=>y)
 obtain⟨tl,M,nm,q,bs,hdct,sn,sub,ab,col,dd,k0,k1,k2,k3,k5,mN,hC,hN,hni,T⟩:=(Z5 (h:=(LW (LX P w) P w K mg base N qual scope f cd A outer s H E).base) I.ok.mod.kin Z.at_ Z.exc).obj
 refine wpAny_Raise_call_subT (C:=C) (nm:=nm) (q:=q) (N:=M) (bs:=bs) (bm:=tl) (hdct:=hdct) (sn:=sn) (sub:=sub) (ab:=ab) (col:=col) (dd:=dd) (k0:=k0) (k1:=k1) (k2:=k2) (k3:=k3) (k5:=k5)
  PySem.F.excBase_ValueError (mN:=mN) (T.hasType PySem.F.excBase_ValueError.hasBase) hh (by rw[ha.all.st];exact JG _ _ _) hni (Kv I hg Z.at_ ⟨rfl,?_⟩ hd)
 have he:=ha.all.he ha.tl
 have hsp:=ha.all.pa cpos pins s1 σ H1 _ I h
 rw[he] at hsp ⊢
 refine aBW (aA9 hsp (fun us s2 h2=>?_) fun _ _ y=>y)
 obtain⟨vs,H2,I2,rv,hlen,hE⟩:=h2
 refine ⟨rfl,by rw[←rv.length];exact hlen,I2.bk _ _ hC,hN.keeps I2.bk,T.keeps I2.bk,fun h' ea hx=>?_⟩
 have fr:=I2.stack
 have hin:∀env∈(LW (LX P w) P w K mg base N qual scope f cd A outer s H E).stack,∀b,env.frame=some b→b∈OP (LW (LX P w) P w K mg base N qual scope f cd A outer s H E).stack:=fun env he b hb=>aCZ.mpr ⟨env,he,hb⟩
 refine TQ (base:=hideAll s2.heap (OP (LW (LX P w) P w K mg base N qual scope f cd A outer s H E).stack)) (h:=s2.heap) I2.ok.frames rfl (fun b o q=>of_hideAll _ q) (funFrames_hide fr hin) hx fun h2 tt fl sm cx=>?_
 refine ⟨ea,.ref C,H2,rfl,I2.os,I2.bare,⟨cx,_,_,s2.heap,[s.heap.objs.size],fl,I2.base,I2.hok,fun b o ho hb hL=>hideAll_get _ ho fun hm=>?_,fun L z=>by rw[aAc.mp z];exact ⟨Heap.get?_none_of_le (aAh _),I2.free⟩,(Heap.UpToSlots.of_keeps hx.keeps).trans sm,hx.new⟩,?_,hE⟩
 · have hm':b∈s.heap.objs.size :: OP outer:=hm
   rcases aAg.mp hm' with z | z
   · exact hL (aAc.mpr z)
   · exact hb z
 · cases q:H2 ea with
   | none=>rfl
   | some u=>
     obtain⟨o,ho⟩:=aa7 (I2.hok ea u q)
     have hn:=hx.new
     rw[ho] at hn;cases hn
end
end L2
namespace L2
open PySem PySem.Spec PyProof.Rows PySem.W
section
variable{P:Program}{w:World}{K:W.Frag}{mg:Str→Option Value}{base:Heap}
theorem Fun.okX{x qual:Str}{st:Stmt}{f:Addr}{fd:FuncData}{N ps:List Str}{k:Nat}{sp:Sp}(F:Fun K x qual st f fd)(S:FnScope N ps (GV st))(len:∀vs H Q E,sp vs H Q E→vs.length=ps.length)
 (hbody:∀(cdv:Value) (A:Around) (outer:List Env) (s:Shared) (H:Hp) (vs:List V) (Q:VK) (E:XK),Room k (A.deeper (envOfC qual (GV st) s.heap.objs.size f cdv))→sp vs H Q E→
  ∃t,PSs (LW (LX P w) P w K mg base N qual (GV st) f cdv A outer s H E) (G6 st) t∧t { nx:=fun _ H'=>Q .non H',rt:=Q } (start N vs) H):FnOk P w K mg base (LX P w) (k + 1) f fd ps sp:=by
 obtain⟨oc,od,kV,doc,pm,an,cdv,ct,osl,rfl,lk,hcd⟩:=F.ex
 exact aaz lk hcd S len fun A outer s H vs Q E hr hsp=>hbody cdv A outer s H vs Q E hr hsp
end
structure CalleeMX(P:Program)(w:World)(K:W.Frag)(mg:Str→Option Value)(base:Heap)(k:Nat)(C:Addr)(m:Str)(ps:List Str)(sp:Sp):Prop where
 ex:∃f fd,FnOk P w K mg base (LX P w) k f fd ps sp∧Meth K C m f∧Binds K fd ps []
section
variable{X:Cx}{k:Nat}{C:Addr}{m x:Str}{ps:List Str}{sp:Sp}{o e:Expr}{es:List Expr}{ta tv:TE}{t:TA}{p apos pos pos':Pos}{E:XK}
theorem Hz{pl:Sem Bool}(M:CalleeMX X.prog X.w X.K X.mg X.base k C m ps sp)(c:Cls X.K C)(hr:Room k X.A)(hx:La (LX X.prog X.w) X E)(he:PE X o ta)(ha:PAt X e es t)
 (ht:eval (.Call (.Attribute o m apos) (e :: es) [] pos) X.env=(do
  let ov ←eval o X.env
  standAt apos.atName
  let (f,first) ←holding [ov] (getMethod ov m pl)
  callWith pos f first (backTo pos (starEach (e :: es) X.env)) (backToKw pos (keywordEach [] X.env))):=by rfl) :
 PE X (.Call (.Attribute o m apos) (e :: es) [] pos) (Q7 C m sp [] E ta t):=by
 obtain⟨f,fd,F,hm,hb⟩:=M.ex
 exact VP (pl:=pl) he c hm F hr hb .nil hx ha.all.pa (ha.all.he ha.tl) (by rw[ha.tl];exact JG _ _ _) ht
end
theorem J7{P:Program}{w:World}{K:W.Frag}{mg:Str→Option Value}{base:Heap}{N:List Str}{qual:Str}{scope:Scope}{f:Addr}{cd:Value}{A:Around}{outer:List Env}{s:Shared}{H:Hp}{E:XK} :
 La (LX P w) (LW (LX P w) P w K mg base N qual scope f cd A outer s H E) E:=by
 refine ⟨fun pins σ H1 s1 I z=>I.ok.ez z,?_⟩
 intro pins σ H1 s1 e s2 I h
 obtain⟨a,cls,H2,rfl,os,bare,⟨cx,B,a0,hr,Ls,fl,un,hok,cov,hL,sm,han⟩,ha,hE⟩:=h
 have hfH:∀b∈OP (LW (LX P w) P w K mg base N qual scope f cd A outer s H E).stack,H2 b=none:=fun b hb=>by
  obtain⟨_,o,ho,_⟩:=I.stack.mem hb
  exact un.free b o ho (I.stkFree b hb) (by simp)
 have I2:=I.call (ch:=[]) (g':=s2.gens) (d':=s2.drawn) (t':=s2.toks) un hok bare (fun b z=>absurd z (by simp))
 have fl':Heap.FlyingW B (envOfC qual scope s.heap.objs.size f cd :: outer) a cls a0 s2.heap:=fl
 refine WD (env:=envOfC qual scope s.heap.objs.size f cd) (outer:=outer) I.ok.frames rfl fl' cx fun h' fl2 sm2 cx2=>?_
 refine ⟨a,cls,H2,rfl,os.trans I.os,bare,⟨cx2,B,a0,hr,s.heap.objs.size :: Ls,fl2,I2.base,hok,fun b o ho hb hL2=>?_,fun L z=>?_,sm.trans sm2,han⟩,ha,hE⟩
 · refine cov b o ho (fun hm=>?_) fun z=>hL2 (aAq _ z)
   have hm':b∈s.heap.objs.size :: OP outer:=hm
   rcases aAg.mp hm' with z | z
   · exact hL2 (by rw[z];exact aAp)
   · exact hb z
 · rcases aAg.mp z with z | z
   · rw[z];exact ⟨Heap.get?_none_of_le (aAh _),I2.free⟩
   · refine ⟨?_,(hL L z).2⟩
     cases q:s.heap.get? L with
     | none=>rfl
     | some o=>
       obtain⟨o',e'⟩:=I.base.there L o q (fun y=>by cases (show L∈([]:List Addr) from y))
       rw[(hL L z).1] at e';cases e'
abbrev Cx.tries(X:Cx)(pn:List (Addr×Obj))(xe:Value→Shared→Prop):Cx:={ X with pn:=pn,xe:=xe }
abbrev Cx.held(X:Cx)(p:Addr×Obj):Cx:={ X with A:=X.A.mark (some (.ref p.1)),calm:=false,nv:=True,pn:=p :: X.pn,xe:=fun _ _=>False }
section
variable{X:Cx}{pins:List (Addr×Obj)}{σ:St}{H H':Hp}{s:Shared}{xe:Value→Shared→Prop}{e:Value}
theorem Inv.tries(I:Inv X pins σ H s):Inv (X.tries (X.pn ++ pins) xe) [] σ H s:=
 ⟨⟨I.ok.mod,I.ok.kind,I.ok.glob,I.ok.blt,I.ok.above,I.ok.inj,I.ok.has,I.ok.cab,I.ok.hd,I.ok.frames,I.ok.stk,I.ok.exf,I.ok.bs,I.ok.bsz,I.ok.noex,I.ok.exfs,I.ok.funs,I.ok.frf,I.ok.hld.imp fun a o _ _ _ g=>g.imp id (fun m=>aAj _ m),I.ok.ez⟩,I.os,I.bare,I.base,I.loc,I.cell,I.free,I.freeC,
   fun p hp=>I.pin p (by rw[aBl] at hp;exact hp),I.hok,I.len⟩
theorem Inv.untries{pins':List (Addr×Obj)}(I:Inv (X.tries (X.pn ++ pins) xe) pins' σ H s)(ok:X.Ok):Inv X pins σ H s:=
 ⟨ok,I.os,I.bare,I.base,I.loc,I.cell,I.free,I.freeC,fun p hp=>I.pin p (aAj _ hp),I.hok,I.len⟩
theorem Inv.hold{a:Addr}{o:Obj}{vs:Array Value}(I:Inv X pins σ H s)(g:s.heap.get? a=some o)(d:o.data=.fields vs)(z:vs[2]?=some Value.none)(n:H a=none)(l:a≠X.env.locals)(f:a∉X.fs):Inv (X.held (a,o)) pins σ H s:=
 ⟨⟨I.ok.mod,I.ok.kind,I.ok.glob,I.ok.blt,I.ok.above,I.ok.inj,I.ok.has,I.ok.cab,(fun z=>by cases z),I.ok.frames,I.ok.stk,I.ok.exf,I.ok.bs,I.ok.bsz,I.ok.noex,I.ok.exfs,I.ok.funs,I.ok.frf,.inr ⟨a,o,vs,rfl,d,z,.inr aAp⟩,fun _=>trivial⟩,I.os,I.bare,I.base,I.loc,I.cell,I.free,I.freeC,
   fun p hp=>by
    rcases aAg.mp (show p∈(a,o) :: (X.pn ++ pins) from hp) with rfl | hp
    · exact ⟨g,n,l,f,fun v y=>by rw[show (a,o).2.data=_ from d] at y;cases y⟩
    · exact I.pin p hp,I.hok,I.len⟩
theorem Inv.unheld{p:Addr×Obj}(I:Inv (X.held p) pins σ H s)(ok:X.Ok):Inv X pins σ H s:=
 ⟨ok,I.os,I.bare,I.base,I.loc,I.cell,I.free,I.freeC,fun q hq=>I.pin q (aAq _ hq),I.hok,I.len⟩
end
end L2
namespace L2
open PySem PySem.Spec PyProof.Rows PySem.W
open Classical in
open Classical in
theorem Ys{d:PyData}(h:SeqAt.shaped d=true):d.canLay0=true:=by
 unfold SeqAt.shaped at h
 exact (aBX.mp h).1
theorem aca(a b:Msg):PyData.eqv (mD a) (mD b)=decide (a=b):=by
 have e:PyData.eqv (mD a) (mD b)=((a.n == b.n) && ((a.t == b.t) && ((a.x == b.x) && true))):=rfl
 rw[e]
 by_cases h1:a.n=b.n <;> by_cases h2:a.t=b.t <;> by_cases h3:a.x=b.x
 all_goals
  first
  | (have z:a=b:=by (cases a;cases b;simp_all)
     rw[aAD z];simp[h1,h2,h3])
  | (have z:¬a=b:=fun w=>by (subst w;simp_all)
     rw[aA1 z];simp[h1,h2,h3])
theorem Pn{m:Msg}(h:LE m):SeqAt.shaped (mD m)=true:=by
 obtain⟨h1,h2⟩:=h
 have d:PyData.depth (mD m)≤64:=by simp[mD,PyData.depth,PyData.depthAll]
 show (PyData.canLay0 (mD m) && decide (PyData.depth (mD m)≤64))=true
 rw[aAR]
 exact ⟨by simp[mD,PyData.canLay0,PyData.canLayAll0,h1,h2],aAD d⟩
end L2
namespace L2
open PySem PySem.Spec PyProof.Rows PySem.W
def rD:PyData:=.tuple [.str "refused",.int 0]
def sD(w:Str)(ms:List Msg):PyData:=.tuple [.str w,.list (ms.map mD)]
def bF(k:Int)(all:List Msg)(n:Int)(ts:Option (List Str)):PyData:=if 0≤n∧n≤(all.length:Int) then bD (ofT ts ((Im k all).filter fun m=>decide (m.n > n))) (Ml k n all) else rD
def NK(r:Int)(all:List Msg)(t n:Int):Prop:=t > r∨n < 0∨(t=r∧n > (all.length:Int))
instance (r:Int) (all:List Msg) (t n:Int):Decidable (NK r all t n):=by unfold NK;exact inferInstance
def sF(k r:Int)(all ls:List Msg)(t n:Int)(ts:Option (List Str)):PyData:=
 if NK r all t n then rD else if t < r then sD "anew" (ofT ts ls) else if Ml k n all=0 then sD "on" (ofT ts ((Im k all).filter fun m=>decide (m.n > n))) else sD "gap" (ofT ts (ls.filter fun m=>decide (m.n > n)))
def Mg(K:W.Frag)(C CN:Addr):Sp:=fun vs H Q E=>∃p n tv ts k r all s d,vs=[.ref p,.int n,tv]∧TAt C H p k r all s d∧all.length < 64∧TopV K H tv ts∧
 ((0≤n∧n≤(all.length:Int)∧∀q l ys H',Same H H'→H q=none→H l=none→H' q=some (.tup [.ref l,.int (Ml k n all)])→H' l=some (.lst ys)→Ms H' ys (ofT ts ((Im k all).filter fun m=>decide (m.n > n)))→Q (.ref q) H')∨(¬(0≤n∧n≤(all.length:Int))∧E (.ref CN) none H))
def Xj(C:Addr):Sp:=fun vs H Q _=>∃p k r all s d,vs=[.ref p]∧TAt C H p k r all s d∧∀q,H q=none→Q (.ref q) (Hq H q (.tup [.int r,.int (all.length:Int)]))
theorem Lx{k:Int}{all:List Msg}:∀m∈Im k all,m∈all:=fun m h=>List.mem_of_mem_drop h
theorem acQ{H:Hp}{x y:V}{d:PyData}{Q:VK}(hx:Has H x d)(hy:Has H y d)(s:SeqAt.shaped d=true)(q:Q (.bl false) H):Zp x y H Q:=by
 refine ⟨_,_,hx,hy,s,s,?_⟩
 rw[aB5 _ (Ys s)];exact q
end L2
namespace L2
open PySem PySem.Spec PyProof.Rows PySem.W
structure Stp(ps:List Addr)(H:Hp)(ps':List Addr)(H':Hp):Prop where
 but:But ps H H'
 tup:Tups H H'
 new:∀c∈ps',c∈ps∨H c=none
theorem Stp.free{ps ps':List Addr}{H H':Hp}(s:Stp ps H ps' H'){c:Addr}(h:H' c=none)(hc:c∉ps):H c=none:=by
 cases q:H c with
 | none=>rfl
 | some o=>rw[s.but c o q hc] at h;cases h
theorem Stp.free' {ps ps':List Addr}{H H':Hp}(s:Stp ps H ps' H'){c:Addr}(h:H' c=none):c∈ps∨H c=none:=by
 by_cases hc:c∈ps
 · exact .inl hc
 · exact .inr (s.free h hc)
theorem Stp.trans{ps ps' ps'':List Addr}{H H' H'':Hp}(s:Stp ps H ps' H')(t:Stp ps' H' ps'' H''):Stp ps H ps'' H'':=by
 refine ⟨fun c o h hc=>t.but c o (s.but c o h hc) fun hc'=>?_,s.tup.trans t.tup,fun c hc=>?_⟩
 · rcases s.new c hc' with z | z
   · exact hc z
   · rw[z] at h;cases h
 · rcases t.new c hc with z | z
   · exact s.new c z
   · exact s.free' z
theorem Stp.refl(ps:List Addr)(H:Hp):Stp ps H ps H:=⟨fun _ _ h _=>h,Tups.refl H,fun _ h=>.inl h⟩
theorem Same.step{H H':Hp}(e:Same H H')(ps:List Addr):Stp ps H ps H':=⟨fun c o h _=>e c o h,e.tups,fun _ h=>.inl h⟩
theorem Stp.weak{ps ps' qs qs':List Addr}{H H':Hp}(s:Stp ps H ps' H')(h:∀c∈ps,c∈qs)(h':∀c∈qs',c∈ps'∨c∈qs):Stp qs H qs' H':=
 ⟨fun c o e hc=>s.but c o e fun z=>hc (h c z),s.tup,fun c hc=>by
  rcases h' c hc with z | z
  · rcases s.new c z with y | y
    · exact .inl (h c y)
    · exact .inr y
  · exact .inl z⟩
theorem Stp.same{ps':List Addr}{H H':Hp}(s:Stp [] H ps' H'):Same H H':=fun c o h=>s.but c o h aAa
theorem Stp.keep{ps ps':List Addr}{H H':Hp}(s:Stp ps H ps' H'){c:Addr}{o:HO}(h:H c=some o)(hc:c∉ps):H' c=some o:=s.but c o h hc
theorem Stp.out{ps ps':List Addr}{H H':Hp}(s:Stp ps H ps' H'){c:Addr}{o:HO}(h:H c=some o)(hc:c∉ps):c∉ps':=fun z=>by
 rcases s.new c z with y | y
 · exact hc y
 · rw[y] at h;cases h
theorem Stp.put{ps:List Addr}{H:Hp}{p:Addr}{u o:HO}(h:H p=some u)(hn:∀xs,u≠.tup xs)(hp:p∈ps):Stp ps H ps (Hq H p o):=
 ⟨fun c o' e hc=>by rw[GY (fun z=>hc (by rw[z];exact hp))];exact e,(Tups.refl H).put h hn,fun _ z=>.inl z⟩
theorem Stp.make{ps:List Addr}{H:Hp}{p:Addr}{o:HO}(h:H p=none):Stp ps H (p :: ps) (Hq H p o):=
 ⟨fun c o' e hc=>by rw[GY (G5 e h)];exact e,(Same.new h).tups,fun c z=>by
  rcases aAg.mp z with rfl | z
  · exact .inr h
  · exact .inl z⟩
theorem Ms.step{ps ps':List Addr}{H H':Hp}{xs:List V}{ms:List Msg}(h:Ms H xs ms)(s:Stp ps H ps' H'):Ms H' xs ms:=h.tups s.tup
theorem Stp.obj{H:Hp}{p dx:Addr}{o o':HO}(np:H p=none)(nd:H dx=none):Stp [] H [p] (Hq (Hq H dx o) p o'):=by
 have e:Same H (Hq (Hq H dx o) p o'):=fun b u h=>by rw[GY (G5 h np),GY (G5 h nd)];exact h
 exact ⟨fun c u h _=>e c u h,e.tups,fun c hc=>by
  rw[aAc] at hc
  rw[hc];exact .inr np⟩
def acD(t u:TS):TS:=fun D σ H=>∃J:St→Hp→Prop,(∀σ' H',J σ' H'→u D σ' H')∧t { D with nx:=J } σ H
theorem R9{X:Cx}{st:Stmt}{LU:List Stmt}{t u:TS}(h1:PS X st t)(h2:PSs X LU u):PSs X (st :: LU) (acD t u):=by
 intro pins s σ H D I h
 obtain⟨J,hJ,h⟩:=h
 refine aDd (Ix (h1 pins s σ H { D with nx:=J } I h) fun f s1 q=>?_)
 cases f with
 | next=>
   obtain⟨σ',H',I',q⟩:=q
   exact h2 pins s1 σ' H' D I' (hJ _ _ q)
 | ret v=>exact q
 | brk=>exact q
 | cont=>exact q
theorem Jy{H:Hp}:∀ns:List Int,HasL H (ns.map V.int) (ns.map PyData.int)
 | []=>HH
 | n :: r=>Hi (IS n) (Jy r)
theorem Nq{xs:List V}{t:Int}(h0:0≤t):SB xs (some t) none=xs.drop t.toNat:=by
 obtain⟨k,rfl⟩:∃k:Nat,t=(k:Int):=⟨t.toNat,by omega⟩
 unfold SB
 rw[HT.sIx_nat,HT.sIx_none,aBn]
 rw[aBm (by rw[aB3];exact aAh _)]
 by_cases h:k≤xs.length
 · rw[Nat.min_eq_left h]
 · rw[Nat.min_eq_right (by omega),aCc (aAh _),aCc (by omega)]
theorem YV{xs:List V}{t:Int}(h0:0≤t):SB xs none (some t)=xs.take t.toNat:=by
 obtain⟨k,rfl⟩:∃k:Nat,t=(k:Int):=⟨t.toNat,by omega⟩
 unfold SB
 rw[HT.sIx_nat,HT.sIx_none,aBn,List.drop_zero,Nat.sub_zero]
 by_cases h:k≤xs.length
 · rw[Nat.min_eq_left h]
 · rw[Nat.min_eq_right (by omega),aBm (aAh _),aBm (by omega)]
def PMap(H:Hp)(ms:List Msg)(f:Msg→V):Nat→List V→Hp→Prop:=fun i ys H2=>H2=H∧ys=(ms.take i).map f
section
variable{K:W.Frag}{a:Addr}{xs:List V}{ms:List Msg}{g:TG}{tc:TT}{te:TE}{τ:St}{H:Hp}{f:Msg→V}{p:Msg→Bool}
theorem PMap.zero:PMap H ms f 0 [] H:=⟨rfl,by simp⟩
theorem Zf{n:Nat}(h:n < 1000):n≤sizeLine:=by rw[aAs];omega
theorem PMap.step(ha:H a=some (.lst xs))(hm:Ms H xs ms)
 (hs:∀c m (R:VK) (N:Hp→Prop),m∈ms→H c=some (mT m)→R (f m) H→g (.ref c) τ H fun σ4 H4=>tc σ4 H4 fun b H5=>if b=true then te σ4 H5 R else N H5) :
 ∀i ys H2,i < ms.length→PMap H ms f i ys H2→(Itl K a).go i H2∧∀x H3,(Itl K a).yld i H2 x H3→g x τ H3 fun σ4 H4=>tc σ4 H4 fun b H5=>if b=true then te σ4 H5 fun y H6=>PMap H ms f (i + 1) (ys ++ [y]) H6 else PMap H ms f (i + 1) ys H5:=by
 rintro i ys H2 hi ⟨rfl,rfl⟩
 obtain⟨c,ec,hc⟩:=hm.get hi
 refine ⟨⟨xs,.ref c,SqL.ofL ha,ec⟩,?_⟩
 rintro x H3 ⟨rfl,hx⟩
 have hx':=hx xs (SqL.ofL ha)
 rw[ec] at hx'
 obtain rfl:=aAi hx'
 refine hs c _ _ _ (aAO hi) hc ⟨rfl,?_⟩
 rw[aAF,aAd hi,aAy];rfl
theorem PMap.done(ha:H a=some (.lst xs))(hm:Ms H xs ms){ys:List V}{H2:Hp}(h:PMap H ms f ms.length ys H2):(Itl K a).stop ms.length H2∧H=H2∧ys=ms.map f:=by
 obtain⟨rfl,rfl⟩:=h
 rw[aAW]
 exact ⟨⟨xs,SqL.ofL ha,by rw[hm.len];exact aAh _⟩,rfl,rfl⟩
end
structure RS where
 rows:List Msg
 out:List Int
 cut:Bool
def LN(sz:Int)(way:Str)(s:RS):Bool:=if s.cut=true then false else if (s.rows.length:Int) < sz then true else if way = "old" then true else false
def JC(sz:Int)(way:Str)(s:RS)(m:Msg):RS:=
 if s.cut=true then { s with out:=s.out ++ [m.n] }
 else if (s.rows.length:Int) < sz then { s with rows:=s.rows ++ [m] }
 else if way = "old" then { s with rows:=s.rows.drop 1 ++ [m],out:=s.out ++ (s.rows.take 1).map (·.n) }
 else if way = "new" then { s with out:=s.out ++ [m.n] }
 else ⟨[],s.out ++ (s.rows ++ [m]).map (·.n),true⟩
def rF(sz:Int)(way:Str)(r d:Addr)(b:Bool):List (Str×V):=[("size",.int sz),("way",.str way),("row",.ref r),("dropped",.ref d),("broken",.bl b)]
section
variable{sz:Int}{way:Str}{r d:Addr}{b:Bool}
theorem Zr:(rF sz way r d b).lookup ("size" : Str)=some (V.int sz):=Iu
theorem Xz:(rF sz way r d b).lookup ("way" : Str)=some (V.str way):=(Hg (by decide +kernel)).trans Iu
theorem NL:(rF sz way r d b).lookup ("row" : Str)=some (V.ref r):=(Hg (by decide +kernel)).trans ((Hg (by decide +kernel)).trans Iu)
theorem PH:(rF sz way r d b).lookup ("dropped" : Str)=some (V.ref d):=(Hg (by decide +kernel)).trans ((Hg (by decide +kernel)).trans ((Hg (by decide +kernel)).trans Iu))
theorem Ri:(rF sz way r d b).lookup ("broken" : Str)=some (V.bl b):=(Hg (by decide +kernel)).trans ((Hg (by decide +kernel)).trans ((Hg (by decide +kernel)).trans ((Hg (by decide +kernel)).trans Iu)))
theorem Tm{f:Str}(h1:¬f = "size")(h2:¬f = "way")(h3:¬f = "row")(h4:¬f = "dropped")(h5:¬f = "broken"):(rF sz way r d b).lookup f=none:=
 (Hg h1).trans ((Hg h2).trans ((Hg h3).trans ((Hg h4).trans (Hg h5))))
theorem Zs:Hm "broken" (.bl b) (Hm "dropped" (.ref d) (Hm "row" (.ref r) (Hm "way" (.str way) (Hm "size" (.int sz) []))))=rF sz way r d b:=by
 show Hm "broken" (.bl b) (Hm "dropped" (.ref d) (Hm "row" (.ref r) (Hm "way" (.str way) [("size",.int sz)])))=_
 rw[Hj (by decide +kernel)]
 show Hm "broken" (.bl b) (Hm "dropped" (.ref d) (Hm "row" (.ref r) [("size",.int sz),("way",.str way)]))=_
 rw[Hj (by decide +kernel),Hj (by decide +kernel)]
 show Hm "broken" (.bl b) (Hm "dropped" (.ref d) [("size",.int sz),("way",.str way),("row",.ref r)])=_
 rw[Hj (by decide +kernel),Hj (by decide +kernel),Hj (by decide +kernel)]
 show Hm "broken" (.bl b) [("size",.int sz),("way",.str way),("row",.ref r),("dropped",.ref d)]=_
 rw[Hj (by decide +kernel),Hj (by decide +kernel),Hj (by decide +kernel),Hj (by decide +kernel)]
 rfl
theorem Rh{r':Addr}:Hm "row" (.ref r') (rF sz way r d b)=rF sz way r' d b:=by
 unfold rF
 rw[Hj (by decide +kernel),Hj (by decide +kernel),MI]
theorem R8{b':Bool}:Hm "broken" (.bl b') (rF sz way r d b)=rF sz way r d b':=by
 unfold rF
 rw[Hj (by decide +kernel),Hj (by decide +kernel),Hj (by decide +kernel),Hj (by decide +kernel),MI]
end
structure RAt(C:Addr)(H:Hp)(p:Addr)(sz:Int)(way:Str)(s:RS)(r d:Addr):Prop where
 ob:∃dx,H p=some (.ins C dx (rF sz way r d s.cut))
 ro:∃ys,H r=some (.lst ys)∧Ms H ys s.rows
 dr:H d=some (.lst (s.out.map V.int))
 ne:r≠d
section
variable{C:Addr}{H H':Hp}{p:Addr}{sz:Int}{way:Str}{s:RS}{r d:Addr}
theorem RAt.step{ps ps':List Addr}(h:RAt C H p sz way s r d)(st:Stp ps H ps' H')(hd:∀c∈[p,r,d],c∉ps):RAt C H' p sz way s r d:=by
 obtain⟨⟨dx,h1⟩,⟨ys,h2,h3⟩,h4,h5⟩:=h
 exact ⟨⟨dx,st.keep h1 (hd _ (by simp))⟩,⟨ys,st.keep h2 (hd _ (by simp)),h3.step st⟩,st.keep h4 (hd _ (by simp)),h5⟩
theorem RAt.out{ps ps':List Addr}(h:RAt C H p sz way s r d)(st:Stp ps H ps' H')(hd:∀c∈[p,r,d],c∉ps):∀c∈[p,r,d],c∉ps':=by
 obtain⟨⟨dx,h1⟩,⟨ys,h2,h3⟩,h4,h5⟩:=h
 intro c hc
 have hc':=hd c hc
 simp only[aAg,aAa,aBa] at hc
 rcases hc with rfl | rfl | rfl
 · exact st.out h1 hc'
 · exact st.out h2 hc'
 · exact st.out h4 hc'
theorem RAt.same(h:RAt C H p sz way s r d)(e:Same H H'):RAt C H' p sz way s r d:=h.step (e.step []) fun _ _=>aAa
theorem RAt.free(h:RAt C H p sz way s r d){c:Addr}(hc:H c=none):c∉[p,r,d]:=by
 obtain⟨⟨dx,h1⟩,⟨ys,h2,h3⟩,h4,h5⟩:=h
 simp[(G5 h1 hc).symm,(G5 h2 hc).symm,(G5 h4 hc).symm]
theorem RAt.npr(h:RAt C H p sz way s r d):p≠r:=by
 obtain⟨⟨dx,h1⟩,⟨ys,h2,h3⟩,h4,h5⟩:=h
 exact HY h1 h2 (by intro z;cases z)
theorem RAt.npd(h:RAt C H p sz way s r d):p≠d:=by
 obtain⟨⟨dx,h1⟩,⟨ys,h2,h3⟩,h4,h5⟩:=h
 exact HY h1 h4 (by intro z;cases z)
end
structure RoadC(K:W.Frag)(mg:Str→Option Value)(C:Addr):Prop where
 cl_Road:Cls K C
 mg_Road:mg "Road" = some (.ref C)
 n_size:NoAttr K C "size"
 n_way:NoAttr K C "way"
 n_row:NoAttr K C "row"
 n_dropped:NoAttr K C "dropped"
 n_broken:NoAttr K C "broken"
theorem Stp.up{ps qs:List Addr}{H H':Hp}(s:Stp ps H ps H')(h:∀c∈ps,c∈qs):Stp qs H qs H':=s.weak h fun _ z=>.inr z
def OZ(C:Addr):Sp:=fun vs H Q _=>∃(p dx:Addr) (sz:Int) (way:Str),vs=[.ref p,.int sz,.str way]∧H p=some (.ins C dx [])∧
 ∀r d H',RAt C H' p sz way ⟨[],[],false⟩ r d→Stp [p] H [p,r,d] H'→Q .non H'
def RN(C:Addr):Sp:=fun vs H Q _=>∃p b xs ms sz way s r d,vs=[.ref p,.ref b]∧RAt C H p sz way s r d∧H b=some (.lst xs)∧Ms H xs ms∧ms.length < 64∧s.out.length < 1000∧
 ∀H',RAt C H' p sz way { s with out:=s.out ++ ms.map (·.n) } r d→Stp [d] H [d] H'→Q .non H'
def Xh(C:Addr):Sp:=fun vs H Q _=>∃p c m sz way s r d,vs=[.ref p,.ref c]∧RAt C H p sz way s r d∧H c=some (mT m)∧s.rows.length < 63∧s.out.length < 1000∧
 ∀r' H',RAt C H' p sz way (JC sz way s m) r' d→Stp [p,r,d] H [p,r',d] H'→Q (.bl (LN sz way s)) H'
def Xg(C:Addr):Sp:=fun vs H Q _=>∃p c m sz way s r d,vs=[.ref p,.ref c]∧RAt C H p sz way s r d∧H c=some (mT m)∧s.rows.length < 63∧s.out.length < 1000∧s.cut=false∧¬(s.rows.length:Int) < sz∧
 ∀r' H',RAt C H' p sz way (JC sz way s m) r' d→Stp [p,r,d] H [p,r',d] H'→Q (.bl (LN sz way s)) H'
def Uz(C:Addr):Sp:=fun vs H Q _=>∃p sz way s r d,vs=[.ref p]∧RAt C H p sz way s r d∧∀l ys,H l=none→Ms (Hq H l (.lst ys)) ys s.rows→Q (.ref l) (Hq H l (.lst ys))
def Xk(C:Addr):Sp:=fun vs H Q _=>∃p sz way s r d,vs=[.ref p]∧RAt C H p sz way s r d∧∀l,H l=none→Q (.ref l) (Hq H l (.lst (s.out.map V.int)))
def VE(C:Addr):Sp:=fun vs H Q _=>∃p sz way s r d,vs=[.ref p]∧RAt C H p sz way s r d∧Q (.bl s.cut) H
end L2
namespace L2
open PySem PySem.Spec PyProof.Rows PySem.W
section
variable{X:Cx}
theorem U6{P:Program}{w:World}{kvs:List (HX×V)}:∀{ws:List (HX×Value)} {vs:List Value},KV kvs ws→vs.length=ws.length→(∀(j:Nat) (v:Value),vs[j]?=some v→∃k x,ws[j]?=some (k,x)∧(HK P w).is k v=true)→Vals (kvs.map fun kv=>kV kv.1) vs:=by
 induction kvs with
 | nil=>
   intro ws vs r e h
   cases r
   rw[List.eq_nil_of_length_eq_zero e];exact .nil
 | cons kv kvs ih=>
   intro ws vs r e h
   cases r with
   | @cons _ w1 _ ws r1 r2=>
     cases vs with
     | nil=>simp at e
     | cons v vs=>
       refine .cons ?_ (ih r2 (by simpa using e) fun j u hu=>h (j + 1) u (by simpa using hu))
       obtain⟨k,x,hk,hi⟩:=h 0 v rfl
       have hk':w1=(k,x):=aAi hk
       show RelV (kV kv.1) v
       rw[r1.1,hk']
       have hi':Oq k v=true:=hi
       rcases Ii hi' with ⟨i,t,e1,e2⟩ | ⟨y,t,e1,e2⟩
       · rw[e1,e2];exact ⟨t,rfl⟩
       · rw[e1,e2];exact ⟨t,rfl⟩
theorem Od{d:Addr}{H:Hp}{kvs:List (HX×V)}(hd:H d=some (.dK kvs)):Uo X (.ref d) H (kvs.map fun kv=>kV kv.1):=by
 intro pins s σ v A E Q I r hh hq
 cases r
 obtain⟨hz,lo,ws,rk,hD⟩:=MA I.hok hd
 obtain⟨ep,hat⟩:=hD.dictAt
 have hl:kvs.length=ws.length:=aAV rk
 have grow:∀b o,s.heap.get? b=some o→(s.heap.push (seqObj "list" #[] 0)).get? b=some o:=fun b o e=>aAe _ e
 have hat1:(s.heap.push (seqObj "list" #[] 0)).DictAt (HK X.prog X.w) d ws ep:=hat.at' fun o e=>grow _ _ e
 have ld:d < s.heap.objs.size:=hat.lt_size
 unfold collect
 refine aAb (aDl (aA8 entry_proto_collect' ?_))
 show wpAny _ _ (do again (.builtin "list.__iadd__" ⟨[←newList [],.ref d],[]⟩)) _ _ s
 refine aAb (aBM (aAm ⟨Code.quiet_builtin _ (by decide +kernel),aA8 entry_list_iadd' ?_⟩))
 show wpAny _ _ (Builtin.List.listExtendWith (.ref s.heap.objs.size) (.ref d) (.ref s.heap.objs.size)) _ _ { s with heap:=s.heap.push (seqObj "list" #[] 0) }
 rw[aA4 (show plainId "list.__iadd__" = true by decide +kernel) _]
 have fin:∀s':Shared,(∃acc c,s'.heap.get? s.heap.objs.size=some { cls:=.type "list",dict:=none,data:=.seq acc c,slots:=#[] }∧Vals (kvs.map fun kv=>kV kv.1) acc.toList∧Inv X pins σ H s')→
  wpAny (model X.prog X.w) A (do
   let o ←load s.heap.objs.size
   match o.data with
   | .seq xs _=>pure xs.toList
   | _=>unsupported "internal:collect") Q E s':=by
  rintro s' ⟨acc,c,hS,e,I'⟩
  refine aAb (aDu hS ?_)
  show wpAny _ _ (pure acc.toList) Q E _
  exact aAm (hq _ _ e I')
 refine aA9 (ZT (R:=fun r s'=>r=.ok (.ret (.ref s.heap.objs.size))∧∃acc c,s'.heap.get? s.heap.objs.size=some { cls:=.type "list",dict:=none,data:=.seq acc c,slots:=#[] }∧Vals (kvs.map fun kv=>kV kv.1) acc.toList∧Inv X pins σ H s')
  (s:={ s with heap:=s.heap.push (seqObj "list" #[] 0) }) (knd:=HK X.prog X.w) (kvs:=ws) (ep:=ep) lo (hh.keep grow) hat1 s.heap.objs.size (aBu ld) hh.old _ 0 (aAo _ rfl) (fun h' tk acc c hk hS hacc=>?_) (show ws.length≤sizeLine by omega))
  (fun fi s' hf=>?_) (fun e s' he=>nomatch he.1)
 · refine ⟨rfl,acc,c,hS,U6 rk (by rw[aBe];exact hacc.1) (fun j u hu=>hacc.2 j u (by rw[←aCH];exact hu)),I.kept fun b o eb=>hk b o (aAB (aAl eb)) (grow b o eb)⟩
 · cases fi with
   | done f=>
     obtain⟨e,g⟩:=hf
     cases e
     exact fin s' g
   | again c'=>
     refine ⟨hf.1,aBU hf.2 fun r s2 ⟨e,g⟩=>?_⟩
     subst e
     exact fin s2 g
theorem T0:∀{ns:List Int} {us:List Value},Vals (ns.map V.int) us→IntsAre us ns:=fun r=>U8 r
theorem Uf:∀{us:List Value} {ns:List Int},IntsAre us ns→Vals (ns.map V.int) us
 | _,_,.nil=>.nil
 | _,_,.cons n t r=>.cons ⟨t,rfl⟩ (Uf r)
def IntSrc(K:W.Frag)(x:V)(H:Hp)(ns:List Int):Prop:=(∃a,x=.ref a∧SqL K H a (ns.map V.int))∨∃d kvs,x=.ref d∧H d=some (.dK kvs)∧kvs.map (·.1)=ns.map Sum.inl
theorem IntSrc.coll{x:V}{H:Hp}{ns:List Int}(h:IntSrc X.K x H ns):Uo X x H (ns.map V.int):=by
 rcases h with ⟨a,rfl,h⟩ | ⟨d,kvs,rfl,h,e⟩
 · exact Mp h
 · have z:=Od (X:=X) h
   have e2:kvs.map (fun kv=>kV kv.1)=ns.map V.int:=by
    have:kvs.map (fun kv=>kV kv.1)=(kvs.map (·.1)).map kV:=by rw[aA3];rfl
    rw[this,e,aA3];rfl
   rw[e2] at z
   exact z
def Xw(K:W.Frag):List V→Hp→VK→Prop:=fun xs H Q=>∃x ns,xs=[x]∧IntSrc K x H ns∧ns.length < 64∧∀p,H p=none→Q (.ref p) (Hq H p (.lst ((sortI ns).map V.int)))
theorem Vl(hc:X.prog=X.prog):Kr X (.builtin "sorted") (Xw X.K):=by
 intro pins s σ H xs us Q I r h
 obtain⟨x,ns,rfl,hx,h64,q⟩:=h
 obtain⟨u,rfl,ru⟩:=Q5 r
 refine aCm aDo aDh aDi (args_sorted1 _) ?_
 unfold Builtin.«sorted»
 refine aAb (m:=checkCount "sorted" 1 1 _) (aAm ?_)
 refine aAb (hx.coll pins s σ u _ _ _ I ru I.heldAt fun vs s1 rv I1=>?_)
 have hl:=rv.length
 rw[aAf] at hl
 refine aAb (aBM ?_ (by rw[aAs];omega))
 have I2:Inv X pins σ H { s1 with heap:=s1.heap.push (seqObj "list" vs.toArray 0) }:=I1.kept (t':=s1.toks) fun b o e=>aAe _ e
 have fD:J0 X pins H s1.heap.objs.size:=I1.fpOk (aAh _) (I1.hok.fresh (aAh _))
 have hoL:(s1.heap.push (seqObj "list" vs.toArray 0)).get? s1.heap.objs.size=some (seqObj "list" vs.toArray 0):=aAo _ rfl
 refine aAb (aA5 (aBy aC0 ⟨_,hoL,rfl⟩ aCR ?body (aDp _)))
 case body=>
  refine list_sort_tree (s:={ s1 with heap:=s1.heap.push (seqObj "list" vs.toArray 0) }) hoL (T0 rv) (by omega) fun out ns' hI hp hr=>⟨_,rfl,?_⟩
  have e:ns'=sortI ns:=eq_sortI hp hr
  subst e
  obtain⟨c,hat⟩:=sortedHeap_at (out:=out) hoL
  refine aAm ⟨_,rfl,.ref s1.heap.objs.size,Hq H s1.heap.objs.size (.lst ((sortI ns).map V.int)),?_,rfl,q _ fD.1⟩
  have I3:Inv X pins σ H { s1 with heap:=sortedHeap (s1.heap.push (seqObj "list" vs.toArray 0)) s1.heap.objs.size vs out }:=I1.kept (t':=s1.toks) fun b o e=>by
   have hb:b≠s1.heap.objs.size:=aAB (aAl e)
   rw[sortedHeap_old hb (by rw[aBo];exact aBS (aAl e))]
   exact aAe _ e
  refine I3.track fD ⟨?_,out.toList,c,Uf hI,?_⟩
  · rw[aAf,(sortI_perm ns).length_eq,aAs];omega
  · simpa [seqObj] using hat
theorem ZW(K:W.Frag)(hc:X.prog=X.prog)(h:X.K=K:=by rfl):Kr X (.builtin "sorted") (Xw K):=h ▸ Vl hc
def rgs(lo:Int)(n:Nat):List Int:=(List.range n).map fun (i:Nat)=>lo + (i:Int)
theorem Zm(lo:Int)(n:Nat):(rgs lo n).length=n:=by unfold rgs;rw[aAf,aC9]
section
variable{prog:Program}{w:World}{A:Around}{I:Addr}{fp wr:List Addr}{G:Array GenState→Array GenState→Prop}{n:Nat}{P:Nat→Value→Prop}{St:Nat→Shared→Prop}{R:Result→Shared→Prop}{kw:List (Str×Value)}
theorem Ye(W:WalksS prog w A.in1 I fp wr G n P St)(lt:Nat→Nat→Bool)(hlt:CmpOf prog w A.in1 .Gt P lt)(B:Addr)(hB:B∉fp) :
 ∀(m k:Nat) (s:Shared) (IF:Value) (c:Nat),n - (k + 1)=m→k + 1≤n→St (k + 1) s→P (argBest lt k) IF→
 s.heap.get? B=some { cls:=.type "list",dict:=none,data:=.seq #[IF,IF] c,slots:=#[] }→
 (∀v z,P (argBest lt (n - 1)) v→Moved (B :: wr) G s z→R (.ok (.ret v)) z)→codeAny (model prog w) A (.builtin "max.loop" ⟨[.ref I,.none,.ref B],kw⟩) R s:=by
 have hBw:B∉wr:=fun z=>hB (W.sub _ z)
 have up:∀b∈wr,b∈B :: wr:=fun b z=>aAq _ z
 have nm:(toString "max" ++ toString ".loop" : String) = "max.loop":=by decide
 have ne:∀{b:Addr},b∉B :: wr→B≠b:=fun z e=>z (by rw[e];exact aAp)
 intro m
 induction m with
 | zero=>
   intro k s IF c hm hk st hP hS fin
   have last:k + 1=n:=by omega
   refine aA8 aCK ?_
   rw[aA4 aBs _]
   show wpAny _ A.in1 (seqItems? (.ref B) >>= _) _ _ s
   refine aAb (aB1 hS rfl ?_)
   show wpAny _ A.in1 (tryCatch (pyNext (.ref I)) _ >>= _) _ _ s
   refine aAb (aCF (W.done s _ _ (last ▸ st) fun z mv=>?_))
   have hz:=mv.heap B _ hBw hS
   show wpAny _ A.in1 (updateSeq B (fun _=>#[]) >>= _) _ _ _
   refine aAb (aCd hz rfl (aAb (aCN (aAm ?_))))
   exact fin IF _ (by rw[←last];exact hP) ((mv.mono up).then_heap (tk:=z.toks) (aAh _) fun b o hb e=>(aAt _ _ (ne hb)).trans e)
 | succ m ih=>
   intro k s IF c hm hk st hP hS fin
   have more:k + 1 < n:=by omega
   refine aA8 aCK ?_
   rw[aA4 aBs _]
   show wpAny _ A.in1 (seqItems? (.ref B) >>= _) _ _ s
   refine aAb (aB1 hS rfl ?_)
   show wpAny _ A.in1 (tryCatch (pyNext (.ref I)) _ >>= _) _ _ s
   refine aAb (aCF (W.item (k + 1) s _ _ more st fun v z hv st' mv=>?_))
   have hz:=mv.heap B _ hBw hS
   show wpAny _ A.in1 (tryCatch (holding [v,v] (richCompare .Gt v IF >>= _)) _ >>= _) _ _ _
   refine aAb (aCF (aA5 (aAb (hlt (k + 1) (argBest lt k) v IF _ _ _ hv hP ?_))))
   refine aAb (aA5 (aBv (aAb (aCN (aAm ?_)))))
   cases hb:lt (k + 1) (argBest lt k) with
   | true=>
     simp only[aDs]
     refine aAb (aCd hz rfl (aAb (aCN ?_)))
     rw[nm]
     refine aAm ⟨plainId_quiet aBs _,ih (k + 1) _ v _ (by omega) more (W.frame _ z _ z.toks st' (aAh _) fun b hbf o e=>?_) (by simp only[argBest,hb,aDs];exact hv) (aBf _ hz rfl) fun v' z' hv' mv'=>?_⟩
     · exact (aAt _ _ (fun x:B=b=>hB (by rw[x];exact hbf))).trans e
     · exact fin v' z' hv' (Moved.trans W.gtrans ((mv.mono up).then_heap (aAh _) fun b o hb e=>(aAt _ _ (ne hb)).trans e) mv')
   | false=>
     simp only[aAY,aBJ]
     refine aAb (aCN ?_)
     rw[nm]
     refine aAm ⟨plainId_quiet aBs _,ih (k + 1) _ IF c (by omega) more st' (by simp only[argBest,hb,aAY,aBJ];exact hP) hz fun v' z' hv' mv'=>?_⟩
     exact fin v' z' hv' (Moved.trans W.gtrans (mv.mono up) mv')
theorem Yf(W:WalksS prog w A.in1 I fp wr G n P St)(lt:Nat→Nat→Bool)(hlt:CmpOf prog w A.in1 .Gt P lt)(B:Addr)(hB:B∉fp)(hn:0 < n){s:Shared}{c:Nat}(st:St 0 s)
 (hS:s.heap.get? B=some { cls:=.type "list",dict:=none,data:=.seq #[] c,slots:=#[] })
 (fin:∀v z,P (argBest lt (n - 1)) v→Moved (B :: wr) G s z→R (.ok (.ret v)) z):codeAny (model prog w) A (.builtin "max.loop" ⟨[.ref I,.none,.ref B],kw⟩) R s:=by
 have hBw:B∉wr:=fun z=>hB (W.sub _ z)
 have up:∀b∈wr,b∈B :: wr:=fun b z=>aAq _ z
 have nm:(toString "max" ++ toString ".loop" : String) = "max.loop":=by decide
 have ne:∀{b:Addr},b∉B :: wr→B≠b:=fun z e=>z (by rw[e];exact aAp)
 refine aA8 aCK ?_
 rw[aA4 aBs _]
 show wpAny _ A.in1 (seqItems? (.ref B) >>= _) _ _ s
 refine aAb (aB1 hS rfl ?_)
 show wpAny _ A.in1 (tryCatch (pyNext (.ref I)) _ >>= _) _ _ s
 refine aAb (aCF (W.item 0 s _ _ hn st fun v z hv st' mv=>?_))
 have hz:=mv.heap B _ hBw hS
 show wpAny _ A.in1 (updateSeq B (fun _=>#[v,v]) >>= _) _ _ _
 refine aAb (aCd hz rfl ?_)
 rw[nm]
 refine aAm ⟨plainId_quiet aBs _,Ye W lt hlt B hB _ 0 _ v _ rfl hn (W.frame _ z _ z.toks st' (aAh _) fun b hbf o e=>?_) hv (aBf _ hz rfl) fun v' z' hv' mv'=>?_⟩
 · exact (aAt _ _ (fun x:B=b=>hB (by rw[x];exact hbf))).trans e
 · exact fin v' z' hv' (Moved.trans W.gtrans ((mv.mono up).then_heap (aAh _) fun b o hb e=>(aAt _ _ (ne hb)).trans e) mv')
theorem ZO(W:WalksS prog w A.in1 I fp wr G n P St)(h0:n=0)(B:Addr)(hB:B∉fp){s:Shared}{c:Nat}{d:Value}{x:Str}(st:St 0 s)
 (hS:s.heap.get? B=some { cls:=.type "list",dict:=none,data:=.seq #[] c,slots:=#[] })
 (fin:∀z,Moved wr G s z→R (.ok (.ret d)) z):codeAny (model prog w) A (.builtin "max.loop" ⟨[.ref I,.none,.ref B],[(x,d)]⟩) R s:=by
 refine aA8 aCK ?_
 rw[aA4 aBs _]
 show wpAny _ A.in1 (seqItems? (.ref B) >>= _) _ _ s
 refine aAb (aB1 hS rfl ?_)
 show wpAny _ A.in1 (tryCatch (pyNext (.ref I)) _ >>= _) _ _ s
 refine aAb (aCF (W.done s _ _ (h0 ▸ st) fun z mv=>?_))
 show wpAny _ A.in1 (rule _ >>= _) _ _ _
 refine aAb (aCY (aAm ?_))
 exact fin z mv
end
theorem WU(a v:Value):argsOk "max" ⟨[a],[(Str.ofString "default",v)]⟩:=by unfold argsOk;kernel_rfl
theorem TM{prog:Program}{w:World}{A:Around}{E:Value→Shared→Prop}{s:Shared}{l:Addr}{vs:List Value}{ns:List Int}{d:Value}{Q:Value→Shared→Prop}(hh:HeldAt A.handled s.heap)(hl:s.heap.IsList l vs.toArray)(hi:IntsAre vs ns)
 (q0:ns=[]→∀h' tk,(∀b o,s.heap.get? b=some o→h'.get? b=some o)→Q d { s with heap:=h',toks:=tk })
 (q1:∀M (t:Tok) h' tk,(∀b o,s.heap.get? b=some o→h'.get? b=some o)→M∈ns→(∀a∈ns,a≤M)→Q (.int M t) { s with heap:=h',toks:=tk }) :
 wpAny (model prog w) A (call (.builtin "max") [.ref l] [(Str.ofString "default",d)]) Q E s:=by
 obtain⟨xs,e⟩:=hi.allInts.items
 have hns:ns=xs.toList.map (·.1):=by rw[←hi.numsOf,←nums_intItems,←e]
 rw[e] at hl
 have nm:(toString "max" ++ toString ".loop" : String) = "max.loop":=by decide
 refine kmk_tree PySem.F.kind_max PySem.F.plain_max PySem.F.entry_max (WU _ _) ?_
 show wpAny _ A.in1 (Builtin.Builtins.bindParams "max" ["key","default"] 0 ⟨[],[(Str.ofString "default",d)]⟩ >>= _) _ _ s
 refine aAb (wpAny_of_eq (show Builtin.Builtins.bindParams "max" ["key","default"] 0 ⟨[],[(Str.ofString "default",d)]⟩=pure [none,some d] from rfl) ?_)
 refine aAb (aAm ?_)
 refine aAb (iter_intList hl fun s₂ e2 st hfp hlI=>?_)
 subst e2
 obtain⟨ho,hol,hos⟩:=hh.list
 have W:=(Us (prog:=prog) (w:=w) (A:=A.in1) (I:=s.heap.objs.size) hol hlI (intItems xs)).toS
 refine aAb (aBM ?_ (aAJ _))
 rw[nm]
 have hB:(s.heap.push { cls:=.type "list_iterator",data:=.fields #[.ref l,.int 0 0] }).objs.size∉[s.heap.objs.size,l] ++ ho.map (·.1):=fun z=>by
  rcases aAx.mp z with z | z
  · exact aAU _ (hfp _ z)
  · have:=Xe hos _ z
    rw[aBo] at this
    exact aAU _ (aCA this)
 have st':=W.frame 0 _ ((s.heap.push { cls:=.type "list_iterator",data:=.fields #[.ref l,.int 0 0] }).push { cls:=.type "list",data:=.seq #[] }) s.toks ⟨st,fun p hp=>aAe _ (hos p hp)⟩ (aAh _) fun b _ o e=>aAe _ e
 have back:∀{z:Shared} {ws:List Addr},(∀b∈ws,b=s.heap.objs.size∨b=(s.heap.push { cls:=.type "list_iterator",data:=.fields #[.ref l,.int 0 0] }).objs.size)→(∀b o,b∉ws→((s.heap.push { cls:=.type "list_iterator",data:=.fields #[.ref l,.int 0 0] }).push { cls:=.type "list",data:=.seq #[] }).get? b=some o→z.heap.get? b=some o)→∀b o,s.heap.get? b=some o→z.heap.get? b=some o:=by
  intro z ws hw h b o e
  have lb:=aAl e
  refine h b o (fun hb=>?_) (aAe _ (aAe _ e))
  rcases hw b hb with rfl | rfl
  · exact aAU _ lb
  · rw[aBo] at lb;exact aAU _ (aCX (aBN _) lb)
 by_cases h0:0 < xs.size
 · refine aAm ⟨plainId_quiet aBs _,Yf W _ (CmpOf.ints_gt (numAt xs) (fun _ _=>aDm)) _ hB (by simpa [intItems] using h0) st' (aAo _ rfl) fun v z hv mv=>?_⟩
   obtain⟨t,rfl⟩:=aDm hv
   obtain⟨h1,h2⟩:=argBest_gt (numAt xs) (xs.size - 1)
   have hsz:(intItems xs).size=xs.size:=by simp[intItems]
   rw[hsz]
   have ez:z={ s with heap:=z.heap,toks:=z.toks }:=by
    obtain⟨zh,zg,zd,zt,zo⟩:=z
    have g1:zg=s.gens:=mv.gens
    have g2:zd=s.drawn:=mv.drawn
    have g3:zo=s.os:=mv.os
    rw[g1,g2,g3]
   show Q _ z
   rw[ez]
   refine q1 _ t _ _ (back (ws:=[(s.heap.push { cls:=.type "list_iterator",data:=.fields #[.ref l,.int 0 0] }).objs.size,s.heap.objs.size]) (by simp[or_comm]) mv.heap) ?_ fun a ha=>?_
   · rw[hns,numAt_eq];exact getD_mem (by rw[aAf,aBe];omega)
   · rw[hns] at ha
     obtain⟨j,hj,rfl⟩:=mem_getD ha
     rw[aAf,aBe] at hj
     rw[←numAt_eq];exact h2 j (by omega)
 · have x0:xs = #[]:=by
    have:xs.size=0:=by omega
    exact Array.eq_empty_of_size_eq_zero this
   subst x0
   refine aAm ⟨plainId_quiet aBs _,ZO W (by simp[intItems]) _ hB st' (aAo _ rfl) fun z mv=>?_⟩
   have ez:z={ s with heap:=z.heap,toks:=z.toks }:=by
    obtain⟨zh,zg,zd,zt,zo⟩:=z
    have g1:zg=s.gens:=mv.gens
    have g2:zd=s.drawn:=mv.drawn
    have g3:zo=s.os:=mv.os
    rw[g1,g2,g3]
   show Q d z
   rw[ez]
   exact q0 (by rw[hns];rfl) _ _ (back (ws:=[s.heap.objs.size]) (by simp) mv.heap)
def abT(K:W.Frag)(c:Int)(x:V)(H:Hp)(Q:VK):Prop:=∃l ns,x=.ref l∧SqL K H l (ns.map V.int)∧(ns=[]→Q (.int c) H)∧∀M∈ns,(∀a∈ns,a≤M)→Q (.int M) H
theorem Yx(K:W.Frag){e:Expr}{te:TE}{c:Int}{jc:Nat}{p p2 kpos pos:Pos}(hc:X.prog=X.prog)(he:PE X e te)(hm:X.mg "max" = none)(h:X.K=K:=by rfl)(hg:Gl X "max":=by rfl)(hp:PP e=true:=by rfl) :
 PE X (.Call (.Name "max" p) [e] [⟨some "default",.Constant (.int c) jc p2,kpos⟩] pos) (tUn (abT K c) te):=by
 subst h
 intro pins s σ H Q I hw
 refine aBi (N7 I hg hm boot_max ?_)
 refine callWith_kw ?_ (by rw[Lc hp];rfl) (by rw[Lc hp];rfl)
 rw[Lc hp]
 show wpAny _ _ (spliced ((false,eval e X.env) :: backTo pos (starEach [] X.env))) _ _ s
 refine aBP (Ix (he pins s σ H _ I hw) fun u s1 ⟨xv,H1,I1,r1,q1⟩=>aCg ?_)
 have hkv:=VN (nm:=some "default") (kpos:=kpos) (G9 (X:=X) (i:=c) (j:=jc) (pos:=p2)) (XL (X:=X)) pos pins s1 σ H1 (fun zs H2=>zs=[.int c]∧H2=H1) I1 ⟨rfl,rfl⟩
 refine Ix hkv fun ws s2 ⟨zs,H2,I2,rz,e1,e2⟩=>?_
 subst e1 e2
 obtain⟨w1,rfl,rw1⟩:=rz.one
 obtain⟨l,ns,rfl,hl,q0,q2⟩:=q1
 cases r1
 obtain⟨its,rv,pl,hz⟩:=I2.list hl
 refine TM I2.heldAt pl.isList (T0 rv) (fun h0 h' tk kp=>⟨_,_,I2.kept kp,rw1,q0 h0⟩) (fun M t h' tk kp hM hmx=>⟨.int M,_,I2.kept kp,⟨t,rfl⟩,q2 M hM hmx⟩)
end
end L2
namespace L2
open PySem PySem.Spec PyProof.Rows PySem.W
structure HS where
 heard:List Msg
 held:List Msg
 lost:List Int
def HS.next(s:HS):Int:=(s.heard.length:Int) + (s.lost.length:Int) + 1
def Qf(ms:List Msg)(n:Int):Bool:=ms.any fun m=>decide (m.n=n)
def Jl(ms:List Msg)(n:Int):Option Msg:=ms.find? fun m=>decide (m.n=n)
def Je(ms:List Msg)(n:Int):List Msg:=ms.filter fun m=>decide (m.n≠n)
def KP(ms:List Msg)(m:Msg):List Msg:=if Qf ms m.n=true then ms.map (fun x=>if x.n=m.n then m else x) else ms ++ [m]
theorem Iv{ms:List Msg}{n:Int}{m:Msg}(h:Jl ms n=some m):m∈ms∧m.n=n:=⟨List.mem_of_find?_eq_some h,by simpa using List.find?_some h⟩
theorem findN_none{ms:List Msg}{n:Int}:Jl ms n=none↔∀m∈ms,m.n≠n:=by
 unfold Jl
 rw[List.find?_eq_none]
 constructor
 · intro h m hm;simpa using h m hm
 · intro h m hm;simpa using h m hm
theorem WO{ms:List Msg}(d:Diff ms){m:Msg}(h:m∈ms):Jl ms m.n=some m:=by
 cases e:Jl ms m.n with
 | none=>exact absurd rfl (findN_none.mp e m h)
 | some x=>rw[d.eq (Iv e).1 h (Iv e).2]
theorem hasN_iff{ms:List Msg}{n:Int}:Qf ms n=true↔∃m∈ms,m.n=n:=by
 unfold Qf
 rw[aB4]
 constructor
 · rintro⟨m,hm,e⟩;exact ⟨m,hm,aAI e⟩
 · rintro⟨m,hm,e⟩;exact ⟨m,hm,aAD e⟩
theorem dropN_mem{ms:List Msg}{n:Int}{m:Msg}:m∈Je ms n↔m∈ms∧m.n≠n:=by
 unfold Je
 rw[aBp]
 simp
theorem Qm{ms:List Msg}{m:Msg}(h:m∈ms):(Je ms m.n).length < ms.length:=by
 unfold Je
 exact List.length_filter_lt_length_iff_exists.mpr ⟨m,h,by simp⟩
theorem LK{ms:List Msg}{n:Int}(d:Diff ms):Diff (Je ms n):=(List.filter_sublist.map Msg.n).nodup d
theorem Oc{ms:List Msg}(d:Diff ms){m:Msg}(h:m∈ms):(Je ms m.n).length + 1=ms.length:=by
 induction ms with
 | nil=>cases h
 | cons x r ih=>
   have d':Diff r:=(aBb.mp d).2
   have hx:x.n∉r.map (·.n):=(aBb.mp d).1
   by_cases e:x.n=m.n
   · have:Je (x :: r) m.n=r:=by
      unfold Je
      rw[aBG (by simp[e])]
      refine List.filter_eq_self.mpr fun y hy=>?_
      refine aAD fun z=>hx ?_
      rw[e,←z]
      exact aBZ hy
     rw[this];rfl
   · have hm:m∈r:=by
      rcases aAg.mp h with rfl | z
      · exact absurd rfl e
      · exact z
     have:Je (x :: r) m.n=x :: Je r m.n:=by
      unfold Je
      rw[aBH (by simp[e])]
     rw[this,aAL,aAL,←ih d' hm]
theorem XC{ms:List Msg}{m:Msg}(h:∀x∈ms,x.n≠m.n):KP ms m=ms ++ [m]:=by
 unfold KP
 rw[aAz]
 intro z
 obtain⟨x,hx,e⟩:=hasN_iff.mp z
 exact h x hx e
theorem XB{ms:List Msg}{m:Msg}(h:m∈ms)(hs:∀x∈ms,x.n=m.n→x=m):KP ms m=ms:=by
 unfold KP
 rw[aAE (hasN_iff.mpr ⟨m,h,rfl⟩)]
 have:ms.map (fun x=>if x.n=m.n then m else x)=ms.map id:=aBK fun x hx=>by
  show (if x.n=m.n then m else x)=x
  by_cases e:x.n=m.n
  · rw[aAE e,hs x hx e]
  · rw[aAz e]
 rw[this,List.map_id]
theorem Lo{ms:List Msg}{m:Msg}(hs:∀x∈ms,x.n=m.n→x=m):(m∈ms∧KP ms m=ms)∨((∀x∈ms,x.n≠m.n)∧KP ms m=ms ++ [m]):=by
 by_cases h:m∈ms
 · exact .inl ⟨h,XB h hs⟩
 · have h':∀x∈ms,x.n≠m.n:=fun x hx e=>h (hs x hx e ▸ hx)
   exact .inr ⟨h',XC h'⟩
theorem Ln{ms:List Msg}{m x:Msg}(hs:∀x∈ms,x.n=m.n→x=m):x∈KP ms m↔x∈ms∨x=m:=by
 rcases Lo hs with ⟨h,e⟩ | ⟨h,e⟩
 · rw[e]
   constructor
   · exact .inl
   · rintro (z | rfl)
     · exact z
     · exact h
 · rw[e,aAx,aAc]
theorem NN{ms:List Msg}{m:Msg}(hs:∀x∈ms,x.n=m.n→x=m)(d:Diff ms):Diff (KP ms m):=by
 rcases Lo hs with ⟨h,e⟩ | ⟨h,e⟩
 · rw[e];exact d
 · rw[e]
   unfold Diff
   rw[aAy]
   refine aBF.mpr ⟨d,by simp,fun a ha b hb=>?_⟩
   obtain⟨x,hx,rfl⟩:=aA6.mp ha
   simp only[aAr,aBV,aAc] at hb
   rw[hb];exact h x hx
theorem PL{ms:List Msg}{m:Msg}:(KP ms m).length≤ms.length + 1:=by
 unfold KP
 split
 · rw[aAf];omega
 · rw[aAk];exact aAh _
def JE(s:HS):HS:=
 match h:Jl s.held s.next with
 | none=>s
 | some m=>JE ⟨s.heard ++ [m],Je s.held m.n,s.lost⟩
termination_by s.held.length
decreasing_by exact Qm (Iv h).1
theorem KU{s:HS}(h:Jl s.held s.next=none):JE s=s:=by
 rw[JE]
 split
 · rfl
 · rename_i m e;rw[h] at e;cases e
theorem MN{s:HS}{m:Msg}(h:Jl s.held s.next=some m):JE s=JE ⟨s.heard ++ [m],Je s.held m.n,s.lost⟩:=by
 rw[JE]
 split
 · rename_i e;rw[h] at e;cases e
 · rename_i m' e
   rw[h] at e
   cases e;rfl
theorem Mm{P:HS→Prop}(hs:∀s m,P s→Jl s.held s.next=some m→P ⟨s.heard ++ [m],Je s.held m.n,s.lost⟩):∀s,P s→P (JE s)∧Jl (JE s).held (JE s).next=none
 | s,h=>by
   cases e:Jl s.held s.next with
   | none=>rw[KU e];exact ⟨h,e⟩
   | some m=>
     rw[MN e]
     exact Mm hs ⟨s.heard ++ [m],Je s.held m.n,s.lost⟩ (hs s m h e)
termination_by s=>s.held.length
decreasing_by exact Qm (Iv e).1
theorem Ro{h:List Msg}{d:List Msg}{l:List Int}{m:Msg}:HS.next ⟨h ++ [m],d,l⟩=HS.next ⟨h,d,l⟩ + 1:=by
 show ((h ++ [m]).length:Int) + l.length + 1=(h.length:Int) + l.length + 1 + 1
 rw[aAk];show ((h.length + 1:Nat):Int) + _ + 1=_;omega
def Jf(s:HS)(m:Msg):HS:=if m.n≥s.next then ⟨s.heard,KP s.held m,s.lost⟩ else s
def Ji(s:HS)(ms:List Msg):HS:=JE (ms.foldl Jf s)
theorem Vo(s:HS)(m:Msg):(Jf s m).heard=s.heard:=by unfold Jf;split <;> rfl
theorem WW(s:HS)(m:Msg):(Jf s m).lost=s.lost:=by unfold Jf;split <;> rfl
theorem KZ:∀(ms:List Msg) (s:HS),(ms.foldl Jf s).heard=s.heard
 | [],_=>rfl
 | m :: r,s=>by rw[aCS,KZ r,Vo]
theorem Of:∀(ms:List Msg) (s:HS),(ms.foldl Jf s).lost=s.lost
 | [],_=>rfl
 | m :: r,s=>by rw[aCS,Of r,WW]
theorem WV(ms:List Msg)(s:HS):(ms.foldl Jf s).next=s.next:=by unfold HS.next;rw[KZ,Of]
def Q2(s:HS)(ms:List Msg):Prop:=(∀m∈ms,∀x,x∈s.heard∨x∈s.held→x.n=m.n→x=m)∧∀m∈ms,∀x∈ms,x.n=m.n→x=m
inductive DI (H:Hp):List (HX×V)→List Msg→Prop
 | nil:DI H [] []
 | cons {v:V} {m:Msg} {r:List (HX×V)} {ms:List Msg}:Has H v (mD m)→DI H r ms→DI H ((Sum.inl m.n,v) :: r) (m :: ms)
theorem DI.same{H H':Hp}(e:Same H H'):∀{kvs:List (HX×V)} {ms:List Msg},DI H kvs ms→DI H' kvs ms
 | _,_,.nil=>.nil
 | _,_,.cons h t=>.cons (h.same e) (DI.same e t)
theorem DI.tups{H H':Hp}(e:Tups H H'):∀{kvs:List (HX×V)} {ms:List Msg},DI H kvs ms→DI H' kvs ms
 | _,_,.nil=>.nil
 | _,_,.cons h t=>.cons (h.tups e (VS _)) (DI.tups e t)
theorem DI.len{H:Hp}:∀{kvs:List (HX×V)} {ms:List Msg},DI H kvs ms→kvs.length=ms.length
 | _,_,.nil=>rfl
 | _,_,.cons _ t=>by rw[aAL,aAL,DI.len t]
theorem DI.keys{H:Hp}:∀{kvs:List (HX×V)} {ms:List Msg},DI H kvs ms→kvs.map (·.1)=(ms.map (·.n)).map Sum.inl
 | _,_,.nil=>rfl
 | _,_,.cons _ t=>by rw[aAr,aAr,aAr,DI.keys t]
theorem DI.any{H:Hp}(n:Int):∀{kvs:List (HX×V)} {ms:List Msg},DI H kvs ms→(kvs.any fun kv=>decide (kv.1=Sum.inl n))=Qf ms n
 | _,_,.nil=>rfl
 | _,_,.cons (m:=m') h r=>by
   unfold Qf
   rw[aBt,aBt,DI.any n r]
   congr 1
   exact aDe.mpr ⟨fun z=>aC1 z,fun z=>aA2 Sum.inl z⟩
theorem DI.repl{H:Hp}{v:V}{m:Msg}(h:Has H v (mD m)):∀{kvs:List (HX×V)} {ms:List Msg},DI H kvs ms→DI H (kvs.map fun kv=>if kv.1=Sum.inl m.n then (kv.1,v) else kv) (ms.map fun x=>if x.n=m.n then m else x)
 | _,_,.nil=>.nil
 | _,_,.cons (m:=m') h' r=>by
   rw[aAr,aAr]
   by_cases e:m'.n=m.n
   · rw[aAE (by rw[e]),aAE e]
     show DI H ((Sum.inl m'.n,v) :: _) _
     rw[e];exact .cons h (DI.repl h r)
   · rw[aAz (fun z=>e (aC1 z)),aAz e];exact .cons h' (DI.repl h r)
theorem DI.snoc{H:Hp}{v:V}{m:Msg}(h:Has H v (mD m)):∀{kvs:List (HX×V)} {ms:List Msg},DI H kvs ms→DI H (kvs ++ [(Sum.inl m.n,v)]) (ms ++ [m])
 | _,_,.nil=>.cons h .nil
 | _,_,.cons h' r=>.cons h' (DI.snoc h r)
theorem DI.put{H:Hp}{v:V}{m:Msg}(h:Has H v (mD m)){kvs:List (HX×V)}{ms:List Msg}(d:DI H kvs ms):DI H (Ir kvs (Sum.inl m.n) v) (KP ms m):=by
 unfold Ir KP
 rw[d.any m.n]
 split
 · exact d.repl h
 · exact d.snoc h
theorem DI.drop{H:Hp}(n:Int):∀{kvs:List (HX×V)} {ms:List Msg},DI H kvs ms→DI H (Kp kvs (Sum.inl n)) (Je ms n)
 | _,_,.nil=>.nil
 | _,_,.cons (m:=m') h r=>by
   unfold Kp Je
   by_cases e:m'.n=n
   · rw[aBG (by simp[e]),aBG (by simp[e])]
     exact DI.drop n r
   · rw[aBH (by simpa using e),aBH (by simpa using e)]
     exact .cons h (DI.drop n r)
theorem DI.none{H:Hp}(n:Int):∀{kvs:List (HX×V)} {ms:List Msg},DI H kvs ms→Jl ms n=none→Jh kvs (Sum.inl n)=none
 | _,_,.nil,_=>rfl
 | _,_,.cons (m:=m') h r,e=>by
   have e':=findN_none.mp e
   rw[IT (by intro z;exact e' m' (by simp) (aC1 z))]
   exact DI.none n r (findN_none.mpr fun x hx=>e' x (by simp[hx]))
theorem DI.some{H:Hp}(n:Int){m:Msg}:∀{kvs:List (HX×V)} {ms:List Msg},DI H kvs ms→Jl ms n=some m→∃c,Jh kvs (Sum.inl n)=some (.ref c)∧H c=some (mT m)
 | _,_,.nil,e=>by cases e
 | _,_,.cons (m:=m') h r,e=>by
   by_cases z:m'.n=n
   · unfold Jl at e
     rw[List.find?_cons_of_pos (by simp[z])] at e
     cases e
     obtain⟨c,rfl,hc⟩:=V4 h
     exact ⟨c,J1 (by rw[z]),hc⟩
   · unfold Jl at e
     rw[List.find?_cons_of_neg (by simp[z])] at e
     obtain⟨c,h1,h2⟩:=DI.some n r e
     exact ⟨c,by rw[IT (by intro y;exact z (aC1 y))];exact h1,h2⟩
theorem WL{ms:List Msg}{n:Int}:Qf ms n=(Jl ms n).isSome:=by
 cases e:Jl ms n with
 | none=>
   have:=findN_none.mp e
   rw[show Qf ms n=false from Bool.eq_false_iff.mpr fun z=>by obtain⟨m,hm,en⟩:=hasN_iff.mp z;exact this m hm en];rfl
 | some m=>exact hasN_iff.mpr ⟨m,(Iv e).1,(Iv e).2⟩
theorem DI.isSome{H:Hp}{kvs:List (HX×V)}{ms:List Msg}(d:DI H kvs ms)(n:Int):(Jh kvs (Sum.inl n)).isSome=Qf ms n:=by
 rw[WL]
 cases e:Jl ms n with
 | none=>rw[d.none n e];rfl
 | some m=>obtain⟨c,hc,_⟩:=d.some n e;rw[hc];rfl
theorem Ti(lo:Int)(n:Nat):rgs lo (n + 1)=rgs lo n ++ [lo + (n:Int)]:=by unfold rgs;rw[aCT,aAy];rfl
def hF(nx:Int)(q h k g:Addr)(ex:List (Str×V)):List (Str×V):=("next_number",.int nx) :: ("past",.ref q) :: ("held",.ref h) :: ("known",.ref k) :: ("given_up",.ref g) :: ex
section
variable{nx:Int}{q h k g:Addr}{ex:List (Str×V)}
theorem LJ:(hF nx q h k g ex).lookup ("next_number" : Str)=some (V.int nx):=Iu
theorem Sz:(hF nx q h k g ex).lookup ("past" : Str)=some (V.ref q):=(Hg (by decide +kernel)).trans Iu
theorem Nm:(hF nx q h k g ex).lookup ("held" : Str)=some (V.ref h):=(Hg (by decide +kernel)).trans ((Hg (by decide +kernel)).trans Iu)
theorem Qh:(hF nx q h k g ex).lookup ("known" : Str)=some (V.ref k):=(Hg (by decide +kernel)).trans ((Hg (by decide +kernel)).trans ((Hg (by decide +kernel)).trans Iu))
theorem YH:(hF nx q h k g ex).lookup ("given_up" : Str)=some (V.ref g):=(Hg (by decide +kernel)).trans ((Hg (by decide +kernel)).trans ((Hg (by decide +kernel)).trans ((Hg (by decide +kernel)).trans Iu)))
theorem aay{f:Str}(h1:¬f = "next_number")(h2:¬f = "past")(h3:¬f = "held")(h4:¬f = "known")(h5:¬f = "given_up"):(hF nx q h k g ex).lookup f=ex.lookup f:=
 (Hg h1).trans ((Hg h2).trans ((Hg h3).trans ((Hg h4).trans (Hg h5))))
theorem Z0:Hm "given_up" (.ref g) (Hm "known" (.ref k) (Hm "held" (.ref h) (Hm "past" (.ref q) (Hm "next_number" (.int nx) []))))=hF nx q h k g []:=by
 show Hm "given_up" (.ref g) (Hm "known" (.ref k) (Hm "held" (.ref h) (Hm "past" (.ref q) [("next_number",.int nx)])))=_
 rw[Hj (by decide +kernel)]
 show Hm "given_up" (.ref g) (Hm "known" (.ref k) (Hm "held" (.ref h) [("next_number",.int nx),("past",.ref q)]))=_
 rw[Hj (by decide +kernel),Hj (by decide +kernel)]
 show Hm "given_up" (.ref g) (Hm "known" (.ref k) [("next_number",.int nx),("past",.ref q),("held",.ref h)])=_
 rw[Hj (by decide +kernel),Hj (by decide +kernel),Hj (by decide +kernel)]
 show Hm "given_up" (.ref g) [("next_number",.int nx),("past",.ref q),("held",.ref h),("known",.ref k)]=_
 rw[Hj (by decide +kernel),Hj (by decide +kernel),Hj (by decide +kernel),Hj (by decide +kernel)]
 rfl
theorem U9{nx':Int}:Hm "next_number" (.int nx') (hF nx q h k g ex)=hF nx' q h k g ex:=by
 unfold hF
 rw[MI]
end
structure HearC(K:W.Frag)(C:Addr):Prop where
 cl_Hearer:Cls K C
 n_next_number:NoAttr K C "next_number"
 n_past:NoAttr K C "past"
 n_held:NoAttr K C "held"
 n_known:NoAttr K C "known"
 n_given_up:NoAttr K C "given_up"
structure HA where
 p:Addr
 q:Addr
 h:Addr
 k:Addr
 g:Addr
def HA.fp(a:HA):List Addr:=[a.p,a.q,a.h,a.k,a.g]
def KnowN(H:Hp)(k:Addr)(s:HS):Prop:=∃kvs ms,H k=some (.dK kvs)∧DI H kvs ms∧Diff ms∧ms.length≤s.heard.length + s.held.length∧∀m,m∈ms↔m∈s.heard∨m∈s.held
structure HAt(C:Addr)(H:Hp)(a:HA)(s:HS)(ex:List (Str×V)):Prop where
 ob:∃dx,H a.p=some (.ins C dx (hF s.next a.q a.h a.k a.g ex))
 pa:∃ys,H a.q=some (.lst ys)∧Ms H ys s.heard
 he:∃kvs,H a.h=some (.dK kvs)∧DI H kvs s.held
 kn:KnowN H a.k s
 lo:H a.g=some (.lst (s.lost.map V.int))
 nqg:a.q≠a.g
 nhk:a.h≠a.k
 exn:∀f:Str,¬f = "keep"→ex.lookup f=none
 exl:ex.length < 100
theorem YG{nx:Int}{q h k g:Addr}{ex:List (Str×V)}(hx:ex.length < 100):(hF nx q h k g ex).length < 1000:=by show ex.length + 1 + 1 + 1 + 1 + 1 < 1000;omega
section
variable{C:Addr}{H H':Hp}{a:HA}{s:HS}{ex:List (Str×V)}
theorem KnowN.tups{k:Addr}(h:KnowN H k s)(e:H' k=H k)(t:Tups H H'):KnowN H' k s:=by
 obtain⟨kvs,ms,h1,h2,h3,h4,h5⟩:=h
 exact ⟨kvs,ms,by rw[e];exact h1,h2.tups t,h3,h4,h5⟩
theorem HAt.live(h:HAt C H a s ex):∀c∈a.fp,∃o,H c=some o:=by
 obtain⟨⟨dx,h1⟩,⟨ys,h2,_⟩,⟨kvs,h3,_⟩,⟨kvs',_,h4,_⟩,h5,_,_,_,_⟩:=h
 intro c hc
 simp only[HA.fp,aAg,aAa,aBa] at hc
 rcases hc with rfl | rfl | rfl | rfl | rfl
 · exact ⟨_,h1⟩
 · exact ⟨_,h2⟩
 · exact ⟨_,h3⟩
 · exact ⟨_,h4⟩
 · exact ⟨_,h5⟩
theorem HAt.step{ps ps':List Addr}(h:HAt C H a s ex)(st:Stp ps H ps' H')(hd:∀c∈a.fp,c∉ps):HAt C H' a s ex:=by
 have hd':∀c,c∈a.fp→c∉ps:=hd
 obtain⟨⟨dx,h1⟩,⟨ys,h2,h3⟩,⟨kvs,h4,h5⟩,hk,h6,h7,h8,h9,h10⟩:=id h
 have e:∀c∈a.fp,H' c=H c:=fun c hc=>by
  obtain⟨o,ho⟩:=h.live c hc
  rw[ho];exact st.keep ho (hd c hc)
 exact ⟨⟨dx,by rw[e _ (by simp[HA.fp])];exact h1⟩,⟨ys,by rw[e _ (by simp[HA.fp])];exact h2,h3.step st⟩,⟨kvs,by rw[e _ (by simp[HA.fp])];exact h4,h5.tups st.tup⟩,hk.tups (e _ (by simp[HA.fp])) st.tup,by rw[e _ (by simp[HA.fp])];exact h6,h7,h8,h9,h10⟩
theorem HAt.same(h:HAt C H a s ex)(e:Same H H'):HAt C H' a s ex:=h.step (e.step []) fun _ _=>aAa
theorem HAt.out{ps ps':List Addr}(h:HAt C H a s ex)(st:Stp ps H ps' H')(hd:∀c∈a.fp,c∉ps):∀c∈a.fp,c∉ps':=fun c hc=>by
 obtain⟨o,ho⟩:=h.live c hc
 exact st.out ho (hd c hc)
theorem HAt.free(h:HAt C H a s ex){c:Addr}(hc:H c=none):c∉a.fp:=fun z=>by
 obtain⟨o,ho⟩:=h.live c z
 rw[ho] at hc;cases hc
theorem HAt.apart(h:HAt C H a s ex):a.p≠a.q∧a.p≠a.h∧a.p≠a.k∧a.p≠a.g∧a.q≠a.h∧a.q≠a.k∧a.q≠a.g∧a.h≠a.k∧a.h≠a.g∧a.k≠a.g:=by
 obtain⟨⟨dx,h1⟩,⟨ys,h2,_⟩,⟨kvs,h3,_⟩,⟨kvs',_,h4,_⟩,h5,h6,h7,_,_⟩:=h
 exact ⟨HY h1 h2 (by intro z;cases z),HY h1 h3 (by intro z;cases z),HY h1 h4 (by intro z;cases z),HY h1 h5 (by intro z;cases z),HY h2 h3 (by intro z;cases z),HY h2 h4 (by intro z;cases z),h6,h7,HY h3 h5 (by intro z;cases z),HY h4 h5 (by intro z;cases z)⟩
end
def HS.small(s:HS):Prop:=s.heard.length + s.held.length + s.lost.length < 3000
def Ot:HS:=⟨[],[],[]⟩
section
variable(C:Addr)(ex:List (Str×V))
def Me:Sp:=fun vs H Q _=>∃(p dx:Addr),vs=[.ref p]∧H p=some (.ins C dx [])∧∀a H',a.p=p→HAt C H' a Ot []→Stp [p] H a.fp H'→Q .non H'
def Ky:Sp:=fun vs H Q _=>∃a s ex,vs=[.ref (HA.p a)]∧HAt C H a s ex∧Q (.int s.next) H
def Xm:Sp:=fun vs H Q _=>∃a s ex,vs=[.ref (HA.p a)]∧HAt C H a s ex∧Diff s.held∧s.small∧
 ∀l ys found H',HAt C H' a (JE s) ex→(JE s).heard=s.heard ++ found→Stp a.fp H (l :: a.fp) H'→H l=none→l∉a.fp→H' l=some (.lst ys)→Ms H' ys found→Q (.ref l) H'
def MZ:Sp:=fun vs H Q _=>∃a s ex,vs=[.ref (HA.p a)]∧HAt C H a s ex∧∀l ys,H l=none→Ms (Hq H l (.lst ys)) ys s.heard→Q (.ref l) (Hq H l (.lst ys))
def UC:Sp:=fun vs H Q _=>∃a s ex,vs=[.ref (HA.p a)]∧HAt C H a s ex∧∀l,H l=none→Q (.ref l) (Hq H l (.lst (s.lost.map V.int)))
def RW:Sp:=fun vs H Q _=>∃a s ex,vs=[.ref (HA.p a)]∧HAt C H a s ex∧s.held.length < 64∧∀l,H l=none→Q (.ref l) (Hq H l (.lst ((sortI (s.held.map (·.n))).map V.int)))
def VZ(s:HS)(M:Int):List Int:=(rgs s.next (M - s.next).toNat).filter fun n=>!Qf s.held n
def Rc:Sp:=fun vs H Q _=>∃a s ex,vs=[.ref (HA.p a)]∧HAt C H a s ex∧s.held.length < 64∧(∀m∈s.held,-1000 < m.n∧m.n < 1000)∧s.heard.length + s.lost.length < 1000∧∀M l H',((s.held=[]∧M=0)∨(∃m∈s.held,m.n=M)∧∀m∈s.held,m.n≤M)→Same H H'→H l=none→H' l=some (.lst ((VZ s M).map V.int))→Q (.ref l) H'
end
end L2
namespace L2
open PySem PySem.Spec PyProof.Rows PySem.W
theorem T5{ms ls:List Msg}(d:Diff ms)(h:Lasts ms ls):Z6 (Ku ls) (Ku ls)=true:=by
 have hn:((Ku ls).map (·.1)).Nodup:=by unfold Ku;rw[aA3];exact Nk d h
 exact abk hn hn fun _=>Iff.rfl
theorem Rows.at{R:List Msg}(h:Rows R){m:Msg}(hm:m∈R):∃(i:Nat) (hi:i < R.length),R[i]=m∧m.n=(i:Int) + 1:=by
 obtain⟨i,hi,e⟩:=aAS hm
 exact ⟨i,hi,e,by rw[←e];exact h i hi⟩
theorem Rows.mem_take{R:List Msg}(h:Rows R){m:Msg}{k:Nat}:m∈R.take k↔m∈R∧m.n≤(k:Int):=by
 constructor
 · intro hm
   obtain⟨i,hi,e⟩:=aAS hm
   rw[aAM] at hi
   rw[aDa] at e
   refine ⟨by rw[←e];exact aAO _,?_⟩
   have:=h i (by omega)
   rw[e] at this;omega
 · rintro⟨hm,hn⟩
   obtain⟨i,hi,e,en⟩:=h.at hm
   rw[List.mem_take_iff_getElem]
   exact ⟨i,by omega,e⟩
theorem Rows.uniq{R:List Msg}(h:Rows R){a b:Msg}(ha:a∈R)(hb:b∈R)(e:a.n=b.n):a=b:=h.rise.diff.eq ha hb e
structure Tk0(R:List Msg)(s:HS)(seen:Msg→Prop):Prop where
 pre:s.heard=R.take s.heard.length
 lost:s.lost=[]
 held:∀m∈s.held,m∈R∧s.next≤m.n
 dh:Diff s.held
 mem:∀m,(m∈s.heard∨m∈s.held)↔seen m
structure Tk(R:List Msg)(s:HS)(seen:Msg→Prop):Prop extends Tk0 R s seen where
 gt:∀m∈s.held,s.next < m.n
theorem Tk.start{R:List Msg}:Tk R Ot fun _=>False where
 pre:=rfl
 lost:=rfl
 held:=fun m h=>absurd h aAa
 dh:=aBk
 mem:=fun m=>by simp[Ot]
 gt:=fun m h=>absurd h aAa
theorem Tk0.next{R:List Msg}{s:HS}{seen:Msg→Prop}(t:Tk0 R s seen):s.next=(s.heard.length:Int) + 1:=by
 show (s.heard.length:Int) + (s.lost.length:Int) + 1=_
 rw[t.lost];show _ + 0 + 1=_;omega
theorem Tk0.le{R:List Msg}{s:HS}{seen:Msg→Prop}(t:Tk0 R s seen):s.heard.length≤R.length:=by
 have:=aA2 List.length t.pre
 rw[aAM] at this;omega
theorem Tk0.congr{R:List Msg}{s:HS}{a b:Msg→Prop}(t:Tk0 R s a)(h:∀m,a m↔b m):Tk0 R s b:=⟨t.pre,t.lost,t.held,t.dh,fun m=>(t.mem m).trans (h m)⟩
theorem Tk.congr{R:List Msg}{s:HS}{a b:Msg→Prop}(t:Tk R s a)(h:∀m,a m↔b m):Tk R s b:=⟨t.toTk0.congr h,t.gt⟩
theorem Tk0.subR{R:List Msg}{s:HS}{seen:Msg→Prop}(t:Tk0 R s seen):∀m,m∈s.heard∨m∈s.held→m∈R:=fun m h=>by
 rcases h with h | h
 · rw[t.pre] at h;exact aCO h
 · exact (t.held m h).1
theorem Tk0.add{R:List Msg}(hR:Rows R){s:HS}{seen:Msg→Prop}(t:Tk0 R s seen){m:Msg}(hm:m∈R):Tk0 R (Jf s m) fun x=>seen x∨x=m:=by
 unfold Jf
 by_cases h:m.n≥s.next
 · rw[aAE h]
   have hs:∀x∈s.held,x.n=m.n→x=m:=fun x hx e=>hR.uniq (t.held x hx).1 hm e
   refine ⟨t.pre,t.lost,fun x hx=>?_,NN hs t.dh,fun x=>?_⟩
   · rcases (Ln hs).mp hx with z | rfl
     · exact t.held x z
     · exact ⟨hm,h⟩
   · show (x∈s.heard∨x∈KP s.held m)↔_
     rw[Ln hs,←t.mem x,or_assoc]
 · rw[aAz h]
   refine t.congr fun x=>⟨.inl,fun z=>?_⟩
   rcases z with z | rfl
   · exact z
   · rw[←t.mem]
     refine .inl ?_
     rw[t.pre,hR.mem_take]
     have:=t.next
     exact ⟨hm,by omega⟩
theorem Tk0.adds{R:List Msg}(hR:Rows R):∀(ms:List Msg) {s:HS} {seen:Msg→Prop},Tk0 R s seen→(∀m∈ms,m∈R)→Tk0 R (ms.foldl Jf s) fun x=>seen x∨x∈ms
 | [],s,seen,t,_=>t.congr fun x=>⟨.inl,fun z=>by
  rcases z with z | z
  · exact z
  · exact nomatch z⟩
 | m :: r,s,seen,t,h=>by
   rw[aCS]
   refine (Tk0.adds hR r (t.add hR (h m (by simp))) fun x hx=>h x (by simp[hx])).congr fun x=>?_
   rw[aAg,or_assoc]
theorem Tk0.hear{R:List Msg}(hR:Rows R){s:HS}{seen:Msg→Prop}(t:Tk0 R s seen):Tk R (JE s) seen:=by
 have ⟨h,e⟩:=Mm (P:=fun s=>Tk0 R s seen) (fun s m t e=>by
  obtain⟨hm,hn⟩:=Iv e
  obtain⟨hmR,_⟩:=t.held m hm
  obtain⟨i,hi,ei,en⟩:=hR.at hmR
  have hx:=t.next
  have hii:i=s.heard.length:=by omega
  refine ⟨?_,t.lost,fun x hx'=>?_,LK t.dh,fun x=>?_⟩
  · show s.heard ++ [m]=R.take (s.heard ++ [m]).length
    rw[aAk,aAT,aAF,←t.pre,aAd (by omega)]
    have:R[s.heard.length]'(by omega)=m:=by subst hii;exact ei
    rw[this];rfl
  · obtain⟨h1,h2⟩:=dropN_mem.mp hx'
    have h3:=(t.held x h1).2
    refine ⟨(t.held x h1).1,?_⟩
    rw[Ro]
    show s.next + 1≤x.n
    omega
  · show (x∈s.heard ++ [m]∨x∈Je s.held m.n)↔_
    rw[←t.mem x,aAx,aAc,dropN_mem]
    constructor
    · rintro ((z | rfl) | ⟨z,_⟩)
      · exact .inl z
      · exact .inr hm
      · exact .inr z
    · rintro (z | z)
      · exact .inl (.inl z)
      · by_cases ee:x.n=m.n
        · exact .inl (.inr (t.dh.eq z hm ee))
        · exact .inr ⟨z,ee⟩) s t
 refine ⟨h,fun m hm=>?_⟩
 have h1:=(h.held m hm).2
 have h2:=findN_none.mp e m hm
 omega
theorem Tk.take{R:List Msg}(hR:Rows R){s:HS}{seen:Msg→Prop}(t:Tk R s seen){ms:List Msg}(h:∀m∈ms,m∈R):Tk R (Ji s ms) fun x=>seen x∨x∈ms:=(t.toTk0.adds hR ms h).hear hR
theorem Tk.fits{R:List Msg}(hR:Rows R){s:HS}{seen:Msg→Prop}(t:Tk R s seen){ms:List Msg}(h:∀m∈ms,m∈R):Q2 s ms:=
 ⟨fun m hm x hx e=>hR.uniq (t.toTk0.subR x hx) (h m hm) e,fun m hm x hx e=>hR.uniq (h x hx) (h m hm) e⟩
theorem Tk.all{R:List Msg}(hR:Rows R){s:HS}{seen:Msg→Prop}(t:Tk R s seen)(h:∀m∈R,seen m):s.heard=R∧s.held=[]:=by
 have hl:=t.toTk0.le
 have hx:=t.toTk0.next
 have e:s.heard.length=R.length:=by
  by_cases z:s.heard.length < R.length
  · have hm:=(t.mem _).mpr (h _ (aAO z))
    have hn:=hR _ z
    rcases hm with y | y
    · have y':R[s.heard.length]∈R.take s.heard.length:=by rw[←t.pre];exact y
      rw[hR.mem_take] at y';omega
    · have:=t.gt _ y;omega
  · omega
 have e2:s.heard=R:=by rw[t.pre,e,aAW]
 refine ⟨e2,?_⟩
 cases q:s.held with
 | nil=>rfl
 | cons m r=>
   have hm:m∈s.held:=by rw[q];simp
   have h1:=t.gt m hm
   obtain⟨i,hi,_,en⟩:=hR.at (t.held m hm).1
   omega
theorem YF{s:HS}(d:Diff s.held):(JE s).heard.length + (JE s).held.length=s.heard.length + s.held.length:=by
 refine ((Mm (P:=fun t=>Diff t.held∧t.heard.length + t.held.length=s.heard.length + s.held.length) ?_ s ⟨d,rfl⟩).1).2
 rintro t m ⟨h1,h2⟩ e
 refine ⟨LK h1,?_⟩
 have:=Oc h1 (Iv e).1
 show (t.heard ++ [m]).length + (Je t.held m.n).length=_
 rw[aAk,aAT];omega
theorem Ug:∀(ms:List Msg) (s:HS),(ms.foldl Jf s).held.length≤s.held.length + ms.length
 | [],s=>aAh _
 | m :: r,s=>by
   rw[aCS,aAL]
   have h1:=Ug r (Jf s m)
   have h2:(Jf s m).held.length≤s.held.length + 1:=by
    unfold Jf
    split
    · exact PL
    · omega
   omega
theorem Tk.len{R:List Msg}(hR:Rows R){s:HS}{seen:Msg→Prop}(t:Tk R s seen){ms:List Msg}(h:∀m∈ms,m∈R):(Ji s ms).heard.length + (Ji s ms).held.length≤s.heard.length + s.held.length + ms.length:=by
 have h1:=YF (t.toTk0.adds hR ms h).dh
 have h2:=Ug ms s
 have h3:=aA2 List.length (KZ ms s)
 unfold Ji
 omega
theorem Tk.small{R:List Msg}(hR:Rows R){s:HS}{seen:Msg→Prop}(t:Tk R s seen)(hl:R.length < 900):∀m∈s.held,-1000 < m.n∧m.n < 1000:=fun m hm=>by
 obtain⟨i,hi,_,en⟩:=hR.at (t.held m hm).1
 omega
structure HearK(K:W.Frag)(mg:Str→Option Value)(C:Addr):Prop extends HearC K C where
 mg_Hearer:mg "Hearer" = some (.ref C)
def S0(C:Addr):Sp:=fun vs H Q _=>∃a s ex,vs=[.ref (HA.p a)]∧HAt C H a s ex∧s.heard.length < 64∧Diff s.heard∧
 ∀p ls H',Same H H'→H p=none→H' p=some (.dK (dS (Ku ls)))→Lasts s.heard ls→Q (.ref p) H'
end L2
namespace L2
open PySem PySem.Spec PyProof.Rows PySem.W
theorem Wn(sz:Int)(way:Str)(s:RS)(m:Msg):((JC sz way s m).rows.map (·.n) ++ (JC sz way s m).out).Perm (s.rows.map (·.n) ++ s.out ++ [m.n]):=by
 unfold JC
 split
 · show (s.rows.map (·.n) ++ (s.out ++ [m.n])).Perm _
   rw[aBw]
 · split
   · show ((s.rows ++ [m]).map (·.n) ++ s.out).Perm _
     rw[aAy,aBw,aBw]
     exact List.perm_append_comm.append_left _
   · split
     · show ((s.rows.drop 1 ++ [m]).map (·.n) ++ (s.out ++ (s.rows.take 1).map (·.n))).Perm _
       rw[aAy]
       have e:s.rows.map (·.n)=(s.rows.take 1).map (·.n) ++ (s.rows.drop 1).map (·.n):=by rw[←aAy,List.take_append_drop]
       rw[e]
       generalize (s.rows.take 1).map (·.n)=A
       generalize (s.rows.drop 1).map (·.n)=B
       show (B ++ [m.n] ++ (s.out ++ A)).Perm (A ++ B ++ s.out ++ [m.n])
       refine List.perm_iff_count.mpr fun x=>?_
       simp only[List.count_append]
       omega
     · split
       · show (s.rows.map (·.n) ++ (s.out ++ [m.n])).Perm _
         rw[aBw]
       · show (([]:List Msg).map (·.n) ++ (s.out ++ (s.rows ++ [m]).map (·.n))).Perm _
         rw[aAy]
         refine List.perm_iff_count.mpr fun x=>?_
         simp only[List.count_append,aBV,List.count_nil]
         show _ + (_ + (_ + List.count x [m.n]))=_
         omega
theorem Xt(sz:Int)(way:Str)(s:RS)(m:Msg):(JC sz way s m).rows.Sublist (s.rows ++ [m]):=by
 unfold JC
 split
 · exact List.sublist_append_left _ _
 · split
   · exact List.Sublist.refl _
   · split
     · exact (List.drop_sublist 1 s.rows).append (List.Sublist.refl _)
     · split
       · exact List.sublist_append_left _ _
       · exact List.nil_sublist _
end L2
namespace L2
open PySem PySem.Spec PyProof.Rows PySem.W
theorem TAt.stp{C:Addr}{H H':Hp}{p:Addr}{k r:Int}{all:List Msg}{s d:Addr}{ps ps':List Addr}(h:TAt C H p k r all s d)(st:Stp ps H ps' H')(hd:∀c∈[p,s,d],c∉ps):TAt C H' p k r all s d:=by
 obtain⟨⟨dx,h1⟩,⟨ys,h2,h3⟩,⟨kvs,h4,h5⟩⟩:=h
 exact ⟨⟨dx,st.keep h1 (hd _ (by simp))⟩,⟨ys,st.keep h2 (hd _ (by simp)),h3.step st⟩,⟨kvs,st.keep h4 (hd _ (by simp)),h5.tups st.tup⟩⟩
theorem TAt.live{C:Addr}{H:Hp}{p:Addr}{k r:Int}{all:List Msg}{s d:Addr}(h:TAt C H p k r all s d):∀c∈[p,s,d],∃o,H c=some o:=by
 obtain⟨⟨dx,h1⟩,⟨ys,h2,h3⟩,⟨kvs,h4,h5⟩⟩:=h
 intro c hc
 simp only[aAg,aAa,aBa] at hc
 rcases hc with rfl | rfl | rfl
 · exact ⟨_,h1⟩
 · exact ⟨_,h2⟩
 · exact ⟨_,h4⟩
theorem TAt.out{C:Addr}{H H':Hp}{p:Addr}{k r:Int}{all:List Msg}{s d:Addr}{ps ps':List Addr}(h:TAt C H p k r all s d)(st:Stp ps H ps' H')(hd:∀c∈[p,s,d],c∉ps):∀c∈[p,s,d],c∉ps':=fun c hc=>by
 obtain⟨o,ho⟩:=h.live c hc
 exact st.out ho (hd c hc)
end L2
namespace L2
open PySem PySem.Spec PyProof.Rows PySem.W
def Ox(s:HS)(m:Msg):Prop:=∃x,(x∈s.heard∨x∈s.held)∧x.n=m.n∧x≠m
def Ra(C CO:Addr):Sp:=fun vs H Q E=>∃a s ex b xs ms,vs=[.ref (HA.p a),.ref b]∧HAt C H a s ex∧H b=some (.lst xs)∧Ms H xs ms∧ms.length < 1000∧(∀m∈ms,LE m)∧(∀m,m∈s.heard∨m∈s.held→LE m)∧
 ((Q2 s ms∧∀H',Same H H'→Q .non H')∨(∃m,ms=[m]∧Ox s m∧∀H',Same H H'→E (.ref CO) none H'))
def ME(C CO:Addr):Sp:=fun vs H Q E=>∃a s ex b xs ms,vs=[.ref (HA.p a),.ref b]∧HAt C H a s ex∧H b=some (.lst xs)∧Ms H xs ms∧ms.length < 1000∧(∀m∈ms,LE m)∧(∀m,m∈s.heard∨m∈s.held→LE m)∧Diff s.held∧s.heard.length + s.held.length + s.lost.length < 1000∧
 ((Q2 s ms∧∀l ys found H',HAt C H' a (Ji s ms) ex→(Ji s ms).heard=s.heard ++ found→Stp a.fp H (l :: a.fp) H'→H l=none→l∉a.fp→H' l=some (.lst ys)→Ms H' ys found→Q (.ref l) H')∨(∃m,ms=[m]∧Ox s m∧∀H',Same H H'→E (.ref CO) none H'))
def Md(C CO:Addr):Sp:=fun vs H Q E=>∃a s ex c m,vs=[.ref (HA.p a),.ref c]∧HAt C H a s ex∧H c=some (mT m)∧LE m∧(∀m,m∈s.heard∨m∈s.held→LE m)∧Diff s.held∧s.heard.length + s.held.length + s.lost.length < 1000∧
 ((Q2 s [m]∧∀l ys found H',HAt C H' a (Ji s [m]) ex→(Ji s [m]).heard=s.heard ++ found→Stp a.fp H (l :: a.fp) H'→H l=none→l∉a.fp→H' l=some (.lst ys)→Ms H' ys found→Q (.ref l) H')∨(Ox s m∧∀H',Same H H'→E (.ref CO) none H'))
end L2
namespace L2
open PySem PySem.Spec PyProof.Rows PySem.W
section
variable{X:Cx}
def Zq:V→List V→Hp→VK→Prop:=fun x vs H Q=>∃(l:Addr) (ns:List Int) (n:Int) (j:Nat),x=.ref l∧vs=[.int n]∧H l=some (.lst (ns.map V.int))∧ns[j]?=some n∧(∀m,m < j→∀k,ns[m]?=some k→k≠n)∧Q (.int (j:Nat)) H
theorem Wz:MtM X "list.index" Zq:=by
 intro pins s σ H x vs v us Q I rx rv h
 obtain⟨l,ns,a,j,rfl,rfl,hl,hj,hb,q⟩:=h
 cases (show v=Value.ref l from rx)
 obtain⟨u,rfl,ru⟩:=rv.one
 obtain⟨ta,rfl⟩:=(show ∃t,u=Value.int a t from ru)
 obtain⟨its,n,r,ho,hz⟩:=I.lst hl
 have at_:∀(m:Nat) (b:Int),ns[m]?=some b→∃t,its[m]?=some (Value.int b t):=fun m b e=>by
  obtain⟨u,h1,h2⟩:=r.get (i:=m) (x:=.int b) (by rw[aAH,e];rfl)
  obtain⟨t,rfl⟩:=(show ∃t,u=Value.int b t from h2)
  exact ⟨t,h1⟩
 obtain⟨tj,ej⟩:=at_ j a hj
 have hjl:j < its.length:=(aAn.mp ej).1
 have hlen:=r.length
 have hz':its.length≤sizeLine:=by rw[←hlen];exact hz
 rw[aAs] at hz'
 refine aDg PySem.F.slot_list_index ⟨_,ho,rfl⟩ PySem.F.entry_list_index (PySem.F.args_list_index_2 _ _) (SeqAt.list_indexAt l its.toArray n none #[] (.int a ta) (SJ (.int a)) j (by simpa using hjl) (by omega) ?_ (fun m hm hlt=>?_)) ⟨ho,fun y hy=>?_,?_⟩
 · have e:=(aAn.mp ej).2
   show SJ (.int a) its.toArray[j]=true
   rw[List.getElem_toArray,e]
   exact aBz a
 · have hml:m < ns.length:=by rw[aAf] at hlen;omega
   obtain⟨t,em⟩:=at_ m ns[m] (aAd hml)
   have e:=(aAn.mp em).2
   show SJ (.int a) its.toArray[m]=false
   rw[List.getElem_toArray,e]
   exact aA7.mpr (hb m hlt _ (aAd hml))
 · exact Lw (x:=.int a) (v:=.int a ta) ⟨ta,rfl⟩ rfl r (Ob ns) y (by simpa using hy)
 · exact ⟨.int (j:Nat),H,I.tok _,⟨s.toks,rfl⟩,q⟩
end
def IRng(H:Hp)(lo:Int)(f:Int→V):Nat→List V→Hp→Prop:=fun i ys H2=>Same H H2∧ys=(List.range i).map fun (j:Nat)=>f (lo + (j:Int))
section
variable{g:TG}{tc:TT}{te:TE}{τ:St}{H:Hp}{f:Int→V}{lo:Int}{n:Nat}
theorem IRng.zero:IRng H lo f 0 [] H:=⟨Same.refl H,rfl⟩
theorem IRng.step(hs:∀(j:Nat) H2 (R:VK) (N:Hp→Prop),j < n→Same H H2→(∀H3,Same H2 H3→R (f (lo + (j:Int))) H3)→g (.int (lo + (j:Int))) τ H2 fun σ4 H4=>tc σ4 H4 fun b H5=>if b=true then te σ4 H5 R else N H5) :
 ∀i ys H2,i < n→IRng H lo f i ys H2→(Itr lo n).go i H2∧∀x H3,(Itr lo n).yld i H2 x H3→g x τ H3 fun σ4 H4=>tc σ4 H4 fun b H5=>if b=true then te σ4 H5 fun y H6=>IRng H lo f (i + 1) (ys ++ [y]) H6 else IRng H lo f (i + 1) ys H5:=by
 rintro i ys H2 hi ⟨s2,rfl⟩
 refine ⟨hi,?_⟩
 rintro x H3 ⟨rfl,rfl⟩
 refine hs i _ _ _ hi s2 fun H4 s4=>⟨s2.trans s4,?_⟩
 rw[aCT,aAy];rfl
end
end L2
namespace L2
open PySem PySem.Spec PyProof.Rows PySem.W
def gF(f t:Int):Nat→Int
 | 0=>f
 | k + 1=>gF f t k * t
def wF(f t m:Int)(k:Nat):Int:=if m < gF f t k then m else gF f t k
theorem Vd{f t:Int}(hf:1≤f)(ht:1≤t):∀k,1≤gF f t k
 | 0=>hf
 | k + 1=>by
   have h:=Vd hf ht k
   show 1≤gF f t k * t
   have:=Int.mul_le_mul h ht (by omega) (by omega)
   omega
theorem Z3{f t:Int}(hf:1≤f)(ht:1≤t)(k:Nat):gF f t k≤gF f t (k + 1):=by
 have h:=Vd hf ht k
 show gF f t k≤gF f t k * t
 have:=Int.mul_le_mul_of_nonneg_left ht (show 0≤gF f t k by omega)
 omega
theorem V6{f t:Int}(hf:1≤f)(ht:1≤t){i:Nat}:∀{k:Nat},i≤k→gF f t i≤gF f t k
 | 0, h => by have:i=0:=by omega
              rw[this];exact aC6 _
 | k + 1,h=>by
   by_cases hk:i=k + 1
   · rw[hk];exact aC6 _
   · exact Int.le_trans (V6 hf ht (show i≤k by omega)) (Z3 hf ht k)
theorem Ve{f:Int}:∀k,gF f 1 k=f
 | 0=>rfl
 | k + 1=>by show gF f 1 k * 1=f;rw[Ve k,Int.mul_one]
theorem Z4{f t:Int}(hf:1≤f)(ht:1≤t){i:Nat}(h:gF f t i * t=gF f t i):t=1:=by
 have hp:=Vd hf ht i
 by_cases h1:t=1
 · exact h1
 · have h2:gF f t i * 2≤gF f t i * t:=Int.mul_le_mul_of_nonneg_left (by omega) (by omega)
   omega
theorem aaD{f t m:Int}(hf:1≤f)(ht:1≤t){i k:Nat}(hi:i≤k)(h:m≤gF f t i):wF f t m k=m:=by
 have:=V6 hf ht hi
 unfold wF
 split <;> omega
theorem aaE{f m:Int}(k:Nat):wF f 1 m k=if m < f then m else f:=by unfold wF;rw[Ve]
def RG(f t m n:Int):List Int:=(List.range (n - 1).toNat).map fun k=>wF f t m k
def moF(s f t m n:Int):List Int:=(List.range ((n - 1).toNat + 1)).map fun k=>s + ((RG f t m n).take k).sum
theorem Y5{f t m n:Int}:(RG f t m n).length=(n - 1).toNat:=by unfold RG;rw[aAf,aC9]
theorem QE{ws:List Int}{i:Nat}(h:i < ws.length):(ws.take (i + 1)).sum=(ws.take i).sum + ws[i]:=by
 rw[aAF,aAd h,List.sum_append];simp
def XJ(f t m n:Int):HO:=.tup [.int f,.int t,.int m,.int n]
structure PlanOk(f t m n:Int):Prop where
 hf:1≤f
 ht:1≤t
 ht2:t≤100
 hm:f≤m
 hn:1≤n
 hn2:n≤100
def Ld(i:Nat):Sp:=fun vs H Q _=>∃a x y z u,vs=[.ref a]∧H a=some (.tup [x,y,z,u])∧Q ([x,y,z,u].getD i .non) H
def SZ:Sp:=fun vs H Q _=>∃(c:Addr) (k f t m n:Int),vs=[.ref c,.int k]∧H c=some (XJ f t m n)∧PlanOk f t m n∧0≤k∧k < 1000∧Q (.int (wF f t m k.toNat)) H
def RK:Sp:=fun vs H Q _=>∃(c:Addr) (f t m n:Int),vs=[.ref c]∧H c=some (XJ f t m n)∧PlanOk f t m n∧∀l H',H l=none→Same H H'→H' l=some (.lst ((RG f t m n).map V.int))→Q (.ref l) H'
def Rb:Sp:=fun vs H Q _=>∃(c:Addr) (s f t m n:Int),vs=[.ref c,.int s]∧H c=some (XJ f t m n)∧PlanOk f t m n∧∀l H',H l=none→Same H H'→H' l=some (.lst ((moF s f t m n).map V.int))→Q (.ref l) H'
end L2
namespace L2
open PySem PySem.Spec PyProof.Rows PySem.W
def O8(σ0:St)(CX:RF)(X:Cx)(E:XK):Prop:=(∀(pins:List (Addr×Obj)) (H:Hp) (s:Shared),Inv X pins σ0 H s→X.A.handled≠none→Nev E)∧∀(pins:List (Addr×Obj)) (H:Hp) (s:Shared) (e:Value) (s':Shared),Inv X pins σ0 H s→CX X.stack H s E e s'→X.xe e s'
def acE(σ0:St)(t:TE):TE:=fun σ H Q=>σ=σ0∧t σ H Q
section
variable{X:Cx}{CX:RF}{k:Nat}{f C:Addr}{fd:FuncData}{ps:List Str}{sp:Sp}{E:XK}{m:Str}{p pos apos:Pos}{e o:Expr}{es:List Expr}{ta:TE}{t:TA}{σ0:St}
theorem Zl{pins:List (Addr×Obj)}{H:Hp}{s:Shared}{Q:VK}{us:List Value}{vs:List V}(F:FnOk X.prog X.w X.K X.mg X.base CX k f fd ps sp)(hr:Room k X.A)(hb:Binds X.K fd ps [])(hx:O8 σ0 CX X E)
 (I:Inv X pins σ0 H s)(r:Vals vs us)(h:sp (vs ++ []) H Q E):wpAny (model X.prog X.w) X.A (call (.ref f) us) (EP X pins σ0 Q) X.xe s:=by
 have r2:Vals (vs ++ []) (us ++ []):=r.append .nil
 have hl:(us ++ []).length=ps.length:=by rw[←r2.length];exact F.len _ _ _ _ h
 refine aDf (aBU (F.run X.A X.stack s H ⟨us,[]⟩ (us ++ []) (vs ++ []) Q E hr (hx.1 pins H s I) I.env0 (hb s us I.kIn hl) r2 h) fun r s' hq=>?_)
 cases r with
 | error e=>exact hx.2 pins H s e s' I hq
 | ok fl=>
   cases fl with
   | ret u=>exact I.after hq
   | next=>exact False.elim hq
   | brk=>exact False.elim hq
   | cont=>exact False.elim hq
theorem KY{pl:Sem Bool}(M:CalleeMX X.prog X.w X.K X.mg X.base k C m ps sp)(c:Cls X.K C)(hr:Room k X.A)(hx:O8 σ0 (LX X.prog X.w) X E)(he:PE X o ta)(ha:PAt X e es t)
 (ht:eval (.Call (.Attribute o m apos) (e :: es) [] pos) X.env=(do
  let ov ←eval o X.env
  standAt apos.atName
  let (f,first) ←holding [ov] (getMethod ov m pl)
  callWith pos f first (backTo pos (starEach (e :: es) X.env)) (backToKw pos (keywordEach [] X.env))):=by rfl) :
 PE X (.Call (.Attribute o m apos) (e :: es) [] pos) (acE σ0 (Q7 C m sp [] E ta t)):=by
 obtain⟨f,fd,F,hm,hb⟩:=M.ex
 have hst:=ha.all.he ha.tl
 have hpl:(backTo pos (starEach es X.env)).any (·.1)=false:=by rw[ha.tl];exact JG _ _ _
 intro pins s σ H Q I h
 obtain⟨rfl,h⟩:=h
 refine aCe (pl:=pl) (Ix (he pins s σ H _ I h) fun u s1 ⟨x,H1,I1,rx,a,dx,fs,ex,ea,l,q⟩=>?_) ht
 subst ex
 obtain rfl:u=Value.ref a:=rx
 refine MQ I1 ea c hm l ?_
 refine aBQ (first:=[.ref a]) (h₀:=X.base) I.ok.mod.kin hm.kp (Ix (ha.all.pa pos pins s1 σ H1 _ I1 q) fun us s2 ⟨vs,H2,I2,r,q2⟩=>⟨I2.kIn,?_⟩) hst hpl
 exact Zl (us:=.ref a :: us) (vs:=.ref a :: vs) F hr hb hx I2 (.cons rfl r) q2
end
def abD(K:W.Frag)(C:Addr)(tb:XK→St→TS)(ts:TS):TS:=fun D σ H=>∃E:XK,tb E σ D σ H∧∀cls a H',E cls none H'→H' a=none→W.exmOne K cls (.ref C)=some true∧ts D σ H'
section
variable{X:Cx}{body:List Stmt}{x:Str}{b0:Stmt}{suite:List Stmt}{np hpos pos:Pos}{tb:XK→St→TS}{ts:TS}{C:Addr}
theorem Zv(K:W.Frag)(hb:∀E σ0 pn xe,O8 σ0 (LX X.prog X.w) (X.tries pn xe) E→PSs (X.tries pn xe) body (tb E σ0))(hm:X.mg x=some (.ref C))(hs:∀p,PSs (X.held p) (b0 :: suite) ts)
 (hst:X.stack=X.env :: X.outer)(hfr:X.env.frame=some X.env.locals)(hK:X.K=K:=by rfl)(hg:Gl X x:=by rfl)(hd:(x == ("__debug__" : Str))=false:=by decide)(hc:X.calm=true:=by rfl) :
 PS X (.Try body [.ExceptHandler (some (.Name x np)) none (b0 :: suite) hpos] [] [] pos) (abD K C tb ts):=by
 subst hK
 intro pins s σ H D I h
 obtain⟨E,h1,h2⟩:=h
 have hp:O8 σ (LX X.prog X.w) (X.tries (X.pn ++ pins) fun e s'=>∃H0 s0,Inv X pins σ H0 s0∧LX X.prog X.w X.stack H0 s0 E e s') E:=⟨fun _ _ _ _ z=>absurd (I.ok.hd hc) z,fun pins' H' s' e s'' I' c=>⟨H',s',I'.untries I.ok,c⟩⟩
 have B:=hb _ _ _ _ hp [] s σ H D I.tries h1
 refine wpAny_Try_except (aA9 B (fun f s1 q=>?_) (fun e s1 q=>?_))
 · cases f with
   | next=>obtain⟨σ',H',I',q'⟩:=q;exact aCt ⟨σ',H',I'.untries I.ok,q'⟩
   | brk=>obtain⟨σ',H',I',q'⟩:=q;exact ⟨σ',H',I'.untries I.ok,q'⟩
   | cont=>obtain⟨σ',H',I',q'⟩:=q;exact ⟨σ',H',I'.untries I.ok,q'⟩
   | ret u=>obtain⟨v,σ',H',I',r,q'⟩:=q;exact ⟨v,σ',H',I'.untries I.ok,r,q'⟩
 · obtain⟨H0,s0,I0,a,cls,H',rfl,os,bare,⟨cx,B',a0,hr,Ls,fl,un,hok,cov,hL,sm,han⟩,ha,hE⟩:=q
   obtain⟨hh,g,d,t,os'⟩:=s1
   obtain rfl:os'=s0.os:=os
   have fl':Heap.FlyingW B' (X.env :: X.outer) a cls a0 hh:=by rw[←hst];exact fl
   have gone0:∀b o,s0.heap.get? b=some o→a≠b:=fun b o e z=>by
    obtain⟨o',e'⟩:=un.there b o e (by simp)
    rw[←z,han] at e';cases e'
   have nl:a≠X.env.locals:=by
    obtain⟨m,⟨o,_,_,ho,_⟩,_⟩:=I0.loc
    exact gone0 _ o ho
   have nf:a∉X.fs:=fun m=>by
    obtain⟨_,o,ho,_⟩:=I0.funs.mem m
    exact gone0 _ o ho rfl
   refine Yo (by rw[I0.ok.frames,hst]) hfr fl' cx fun h4 held4 sm4 cx4=>?_
   refine ab2 (s:=⟨h4,g,d,t,s0.os⟩) held4 cx4 fun h5 fl5 sm5 cx5=>?_
   have sm5':=sm.trans (sm4.trans sm5)
   obtain⟨o5,vs5,g5,d5,z5⟩:=id cx5
   have I5:=(I0.flown (g':=g) (d':=d) (t':=t) un hok cov hL fl5.1 sm5' bare).hold g5 d5 z5 ha nl nf
   obtain⟨hx1,hsu⟩:=h2 cls a H' hE ha
   refine wpAny_handleBy_cons (codeAny_handlers_test (Kv (X:=X.held (a,o5)) I5 hg hm ?_ hd)) (by intro q;cases q)
   obtain⟨ob,hob,hobc⟩:=fl5.there
   have LT:Looks (model X.prog X.w) h5 (typeOf (.ref a)) cls:=by rw[←hobc];exact (Looks.ld hob).andThen .now
   refine (exm_one I5.kIn LT hx1).here ?_
   show codeAny _ _ _ _ _
   refine codeAny_handlers_suite ?_
   refine U5 (s:=⟨h5,g,d,t,s0.os⟩) fl5 cx5 fun h6 fl6 sm6 cx6=>?_
   have sm6':=sm5'.trans sm6
   obtain⟨o6,vs6,g6,d6,z6⟩:=id cx6
   have I6:=(I0.flown (g':=g) (d':=d) (t':=t) un hok cov hL fl6.1 sm6' bare).hold g6 d6 z6 ha nl nf
   refine aA9 (hs (a,o6) pins _ _ _ _ I6 hsu) (fun f s10 q=>?_) (fun _ _ z=>z.elim)
   cases f with
   | next=>obtain⟨σ',H2,I10,q'⟩:=q;exact ⟨σ',H2,I10.unheld I.ok,q'⟩
   | brk=>obtain⟨σ',H2,I10,q'⟩:=q;exact ⟨σ',H2,I10.unheld I.ok,q'⟩
   | cont=>obtain⟨σ',H2,I10,q'⟩:=q;exact ⟨σ',H2,I10.unheld I.ok,q'⟩
   | ret u=>obtain⟨v,σ',H2,I10,r,q'⟩:=q;exact ⟨v,σ',H2,I10.unheld I.ok,r,q'⟩
end
end L2
namespace L2
open PySem PySem.Spec PyProof.Rows PySem.W
theorem Ia{X:Cx}:La (LX X.prog X.w) X E0:=by
 refine ⟨fun _ _ _ _ _ _ _ _ _ h=>h,?_⟩
 rintro pins σ H s e s' I ⟨a,cls,H',_,_,_,_,_,h⟩
 exact h.elim
theorem inV_ints{n:Int}:∀{ns:List Int},W9 (.int n) (ns.map V.int)=true↔n∈ns
 | []=>by simp[W9]
 | a :: ns=>by
   have h:=inV_ints (n:=n) (ns:=ns)
   unfold W9 at h ⊢
   rw[aAr,aBt,Bool.or_eq_true,h,aAg]
   show (a == n)=true∨_↔_
   rw[aB8]
   exact ⟨fun z=>z.elim (fun y=>.inl y.symm) .inr,fun z=>z.elim (fun y=>.inl y.symm) .inr⟩
theorem abe{n:Int}{ns:List Int}(h:n∉ns):W9 (.int n) (ns.map V.int)=false:=by
 cases e:W9 (.int n) (ns.map V.int) with
 | false=>rfl
 | true=>exact absurd (inV_ints.mp e) h
structure WS where
 room:Int
 way:List Msg
 rows:List Msg
 arr:Int
def JQ(s:WS):Int:=if s.room - (s.way.length:Int) > 0 then s.room - (s.way.length:Int) else 0
def goS(s:WS):WS:={ s with way:=s.way ++ s.rows.take (JQ s).toNat,rows:=s.rows.drop (JQ s).toNat }
def goL(s:WS):List Msg:=s.rows.take (JQ s).toNat
theorem YJ(s:WS):0≤JQ s:=by unfold JQ;split <;> omega
def nF(room:Int)(w r:Addr)(a:Int):List (Str×V):=[("room",.int room),("on_way",.ref w),("row",.ref r),("arrived",.int a)]
section
variable{room:Int}{w r:Addr}{a:Int}
theorem ZM:(nF room w r a).lookup ("room" : Str)=some (V.int room):=Iu
theorem P8:(nF room w r a).lookup ("on_way" : Str)=some (V.ref w):=(Hg (by decide +kernel)).trans Iu
theorem Sj:(nF room w r a).lookup ("row" : Str)=some (V.ref r):=(Hg (by decide +kernel)).trans ((Hg (by decide +kernel)).trans Iu)
theorem Yd:(nF room w r a).lookup ("arrived" : Str)=some (V.int a):=(Hg (by decide +kernel)).trans ((Hg (by decide +kernel)).trans ((Hg (by decide +kernel)).trans Iu))
theorem VU{f:Str}(h1:¬f = "room")(h2:¬f = "on_way")(h3:¬f = "row")(h4:¬f = "arrived"):(nF room w r a).lookup f=none:=(Hg h1).trans ((Hg h2).trans ((Hg h3).trans (Hg h4)))
theorem ZN:Hm "arrived" (.int a) (Hm "row" (.ref r) (Hm "on_way" (.ref w) (Hm "room" (.int room) [])))=nF room w r a:=by
 show Hm "arrived" (.int a) (Hm "row" (.ref r) (Hm "on_way" (.ref w) [("room",.int room)]))=_
 rw[Hj (by decide +kernel)]
 show Hm "arrived" (.int a) (Hm "row" (.ref r) [("room",.int room),("on_way",.ref w)])=_
 rw[Hj (by decide +kernel),Hj (by decide +kernel)]
 show Hm "arrived" (.int a) [("room",.int room),("on_way",.ref w),("row",.ref r)]=_
 rw[Hj (by decide +kernel),Hj (by decide +kernel),Hj (by decide +kernel)]
 rfl
theorem Ww{x:Addr}:Hm "on_way" (.ref x) (nF room w r a)=nF room x r a:=by unfold nF;rw[Hj (by decide +kernel),MI]
theorem Wx{x:Addr}:Hm "row" (.ref x) (nF room w r a)=nF room w x a:=by unfold nF;rw[Hj (by decide +kernel),Hj (by decide +kernel),MI]
theorem Wy{x:Int}:Hm "arrived" (.int x) (nF room w r a)=nF room w r x:=by unfold nF;rw[Hj (by decide +kernel),Hj (by decide +kernel),Hj (by decide +kernel),MI]
theorem U0:(nF room w r a).length < 1000:=by show 4 < 1000;decide
end
structure WAt(C:Addr)(H:Hp)(p:Addr)(s:WS)(w r:Addr):Prop where
 ob:∃dx,H p=some (.ins C dx (nF s.room w r s.arr))
 wy:∃ys,H w=some (.lst ys)∧Ms H ys s.way
 ro:∃ys,H r=some (.lst ys)∧Ms H ys s.rows
 ne:w≠r
section
variable{C:Addr}{H H':Hp}{p:Addr}{s:WS}{w r:Addr}
theorem WAt.step{ps ps':List Addr}(h:WAt C H p s w r)(st:Stp ps H ps' H')(hd:∀c∈[p,w,r],c∉ps):WAt C H' p s w r:=by
 obtain⟨⟨dx,h1⟩,⟨ys,h2,h3⟩,⟨zs,h4,h5⟩,h6⟩:=h
 exact ⟨⟨dx,st.keep h1 (hd _ (by simp))⟩,⟨ys,st.keep h2 (hd _ (by simp)),h3.step st⟩,⟨zs,st.keep h4 (hd _ (by simp)),h5.step st⟩,h6⟩
theorem WAt.out{ps ps':List Addr}(h:WAt C H p s w r)(st:Stp ps H ps' H')(hd:∀c∈[p,w,r],c∉ps):∀c∈[p,w,r],c∉ps':=by
 obtain⟨⟨dx,h1⟩,⟨ys,h2,h3⟩,⟨zs,h4,h5⟩,h6⟩:=h
 intro c hc
 have hc':=hd c hc
 simp only[aAg,aAa,aBa] at hc
 rcases hc with rfl | rfl | rfl
 · exact st.out h1 hc'
 · exact st.out h2 hc'
 · exact st.out h4 hc'
theorem WAt.same(h:WAt C H p s w r)(e:Same H H'):WAt C H' p s w r:=h.step (e.step []) fun _ _=>aAa
theorem WAt.free(h:WAt C H p s w r){c:Addr}(hc:H c=none):c∉[p,w,r]:=by
 obtain⟨⟨dx,h1⟩,⟨ys,h2,h3⟩,⟨zs,h4,h5⟩,h6⟩:=h
 simp[(G5 h1 hc).symm,(G5 h2 hc).symm,(G5 h4 hc).symm]
theorem WAt.npw(h:WAt C H p s w r):p≠w:=by
 obtain⟨⟨dx,h1⟩,⟨ys,h2,h3⟩,⟨zs,h4,h5⟩,h6⟩:=h
 exact HY h1 h2 (by intro z;cases z)
theorem WAt.npr(h:WAt C H p s w r):p≠r:=by
 obtain⟨⟨dx,h1⟩,⟨ys,h2,h3⟩,⟨zs,h4,h5⟩,h6⟩:=h
 exact HY h1 h4 (by intro z;cases z)
end
structure WindowC(K:W.Frag)(mg:Str→Option Value)(C:Addr):Prop where
 cl_Window:Cls K C
 mg_Window:mg "Window" = some (.ref C)
 n_room:NoAttr K C "room"
 n_on_way:NoAttr K C "on_way"
 n_row:NoAttr K C "row"
 n_arrived:NoAttr K C "arrived"
def GoQ(C:Addr)(H:Hp)(p:Addr)(s:WS)(w r:Addr)(Q:VK):Prop:=∀l ys w' r' H',WAt C H' p (goS s) w' r'→Stp [p,w,r] H [p,w',r'] H'→H l=none→l∉[p,w',r']→H' l=some (.lst ys)→Ms H' ys (goL s)→Q (.ref l) H'
def RQ(C:Addr):Sp:=fun vs H Q _=>∃(p dx:Addr) (room:Int),vs=[.ref p,.int room]∧H p=some (.ins C dx [])∧∀w r H',WAt C H' p ⟨room,[],[],0⟩ w r→Stp [p] H [p,w,r] H'→Q .non H'
def RR(C:Addr):Sp:=fun vs H Q _=>∃p s w r,vs=[.ref p]∧WAt C H p s w r∧Q (.int (JQ s)) H
def Xn(C:Addr):Sp:=fun vs H Q _=>∃p s w r,vs=[.ref p]∧WAt C H p s w r∧s.way.length + s.rows.length < 1000∧GoQ C H p s w r Q
def VB(C:Addr):Sp:=fun vs H Q _=>∃p c m s w r,vs=[.ref p,.ref c]∧WAt C H p s w r∧H c=some (mT m)∧s.way.length + s.rows.length < 900∧GoQ C H p { s with rows:=s.rows ++ [m] } w r Q
def VG(C CN:Addr):Sp:=fun vs H Q E=>∃p x s w r,vs=[.ref p,.int x]∧WAt C H p s w r∧s.way.length + s.rows.length < 1000∧
 ((∃j,(s.way.map (·.n))[j]?=some x∧(∀m,m < j→∀k,(s.way.map (·.n))[m]?=some k→k≠x)∧GoQ C H p { s with way:=s.way.drop (j + 1),arr:=s.arr + ((j:Int) + 1) } w r Q)∨
  (x∉s.way.map (·.n)∧∀H',Same H H'→E (.ref CN) none H'))
def VH(C:Addr):Sp:=fun vs H Q _=>∃p s w r,vs=[.ref p]∧WAt C H p s w r∧∀l ys,H l=none→Ms (Hq H l (.lst ys)) ys s.way→Q (.ref l) (Hq H l (.lst ys))
def Pc(C:Addr):Sp:=fun vs H Q _=>∃p s w r,vs=[.ref p]∧WAt C H p s w r∧∀l ys,H l=none→Ms (Hq H l (.lst ys)) ys s.rows→Q (.ref l) (Hq H l (.lst ys))
def Xq(C:Addr):Sp:=fun vs H Q _=>∃p s w r,vs=[.ref p]∧WAt C H p s w r∧Q (.int s.arr) H
end L2
namespace L2
open PySem PySem.Spec PyProof.Rows PySem.W
structure ClsM(K:W.Frag)(C:Addr)(m:Str)(f:Addr):Prop where
 ga:W.specialIn K (.ref C) "__getattribute__" = some (some (.builtin "type.__getattribute__"))
 rd:W.readsIn K C (.type "type")=true
 fd:W.findCls K (.ref C) (.type "type") m=some (.val (.ref f))
 ha:W.handedIn (.ref f)=true
 kp:W.keepIn K (.ref f)=true
structure CalleeB(P:Program)(w:World)(K:W.Frag)(mg:Str→Option Value)(base:Heap)(k:Nat)(C:Addr)(m:Str)(ps:List Str)(sp:Sp):Prop where
 ex:∃f fd,FnOk P w K mg base Jg k f fd ps sp∧ClsM K C m f∧Binds K fd ps []
section
variable{X:Cx}{k:Nat}{C f:Addr}{m x:Str}{ps:List Str}{sp:Sp}{e:Expr}{es:List Expr}{t:TA}{p apos pos:Pos}
theorem abr{pl:Sem Bool}(M:CalleeB X.prog X.w X.K X.mg X.base k C m ps sp)(hr:Room k X.A)(hg:Gl X x)(hm:X.mg x=some (.ref C))(ha:PAt X e es t)(hdb:(x == ("__debug__" : Str))=false:=by decide)
 (ht:eval (.Call (.Attribute (.Name x p) m apos) (e :: es) [] pos) X.env=(do
  let ov ←eval (.Name x p) X.env
  standAt apos.atName
  let (f,first) ←holding [ov] (getMethod ov m pl)
  callWith pos f first (backTo pos (starEach (e :: es) X.env)) (backToKw pos (keywordEach [] X.env))):=by rfl) :
 PE X (.Call (.Attribute (.Name x p) m apos) (e :: es) [] pos) (SW sp [] E0 t):=by
 obtain⟨f,fd,F,c,hb⟩:=M.ex
 intro pins s σ H Q I h
 refine aCe (pl:=pl) (Kv I hg hm ?_ hdb) ht
 refine W.method_cls I.kIn c.ga (W.cls_value I.kIn c.rd c.fd c.ha ?_)
 have I1:Inv X pins σ H { s with toks:=s.toks + 1 }:=I.kept (t':=s.toks + 1) fun _ _ z=>z
 refine aBQ (first:=[]) (h₀:=X.base) I.ok.mod.kin c.kp (Ix (ha.all.pa pos pins { s with toks:=s.toks + 1 } σ H _ I1 h) fun us s2 ⟨vs,H2,I2,r,q2⟩=>⟨I2.kIn,?_⟩) (ha.all.he ha.tl) (by rw[ha.tl];exact JG _ _ _)
 exact R5 F hr hb .nil Rk I2 r q2
end
end L2
namespace L2
open PySem PySem.Spec PyProof.Rows PySem.W
structure RelayC(K:W.Frag)(mg:Str→Option Value)(C:Addr):Prop where
 cl_Relay:Cls K C
 mg_Relay:mg "Relay" = some (.ref C)
 n_next_number:NoAttr K C "next_number"
 n_past:NoAttr K C "past"
 n_held:NoAttr K C "held"
 n_known:NoAttr K C "known"
 n_given_up:NoAttr K C "given_up"
 n_keep:NoAttr K C "keep"
theorem RelayC.toHearC{K:W.Frag}{mg:Str→Option Value}{C:Addr}(h:RelayC K mg C):HearC K C:=⟨h.cl_Relay,h.n_next_number,h.n_past,h.n_held,h.n_known,h.n_given_up⟩
structure HearB(K:W.Frag)(mg:Str→Option Value)(C:Addr):Prop where
 cl_Hearer:Cls K C
 mg_Hearer:mg "Hearer" = some (.ref C)
def WF(k:Int):List (Str×V):=[("keep",.int k)]
theorem Z1{nx k:Int}{q h kk g:Addr}:(hF nx q h kk g (WF k)).lookup ("keep" : Str)=some (V.int k):=
 (Hg (by decide +kernel)).trans ((Hg (by decide +kernel)).trans ((Hg (by decide +kernel)).trans ((Hg (by decide +kernel)).trans ((Hg (by decide +kernel)).trans Iu))))
theorem Va{nx k:Int}{q h kk g:Addr}:Hm "keep" (.int k) (hF nx q h kk g [])=hF nx q h kk g (WF k):=by
 unfold hF
 rw[Hj (by decide +kernel),Hj (by decide +kernel),Hj (by decide +kernel),Hj (by decide +kernel),Hj (by decide +kernel)]
 rfl
theorem HAt.keep{C dx:Addr}{H:Hp}{a:HA}{s:HS}{k:Int}(h:HAt C H a s [])(h1:H a.p=some (.ins C dx (hF s.next a.q a.h a.k a.g []))):HAt C (Hq H a.p (.ins C dx (hF s.next a.q a.h a.k a.g (WF k)))) a s (WF k)∧Stp a.fp H a.fp (Hq H a.p (.ins C dx (hF s.next a.q a.h a.k a.g (WF k)))):=by
 obtain⟨n1,n2,n3,n4,n5,n6,n7,n8,n9,n10⟩:=h.apart
 obtain⟨_,⟨ys,h2,h3⟩,⟨kvs,h4,h5⟩,hk,h6,h7,h8,h9,h10⟩:=h
 have st:=Stp.put (ps:=[a.p]) (o:=.ins C dx (hF s.next a.q a.h a.k a.g (WF k))) h1 (fun _ z=>by cases z) (by simp)
 refine ⟨⟨⟨dx,GU⟩,⟨ys,st.keep h2 (by simp[n1.symm]),h3.step st⟩,⟨kvs,st.keep h4 (by simp[n2.symm]),h5.tups st.tup⟩,hk.tups (GY n3.symm) st.tup,st.keep h6 (by simp[n4.symm]),h7,h8,fun f hf=>Hg hf,by show 1 < 100;decide⟩,st.up (by simp[HA.fp])⟩
def Pj(C:Addr):Sp:=fun vs H Q _=>∃(p dx:Addr) (k:Int),vs=[.ref p,.int k]∧H p=some (.ins C dx [])∧∀a H',a.p=p→HAt C H' a Ot (WF k)→Stp [p] H a.fp H'→Q .non H'
def Pi(C:Addr):Sp:=fun vs H Q _=>∃a s k,vs=[.ref (HA.p a)]∧HAt C H a s (WF k)∧0≤k∧∀l ys H',Same H H'→H l=none→H' l=some (.lst ys)→Ms H' ys (Im k s.heard)→Q (.ref l) H'
def Y3(k n:Int)(s:HS):List Msg:=(Im k s.heard).filter fun m=>decide (m.n > n)
def L3(K:W.Frag)(C CN:Addr):Sp:=fun vs H Q E=>∃a s k n tv ts,vs=[.ref (HA.p a),.int n,tv]∧HAt C H a s (WF k)∧0≤k∧s.heard.length < 64∧TopV K H tv ts∧
 ((0≤n∧n < s.next∧∀q l ys H',Same H H'→H q=none→H l=none→H' q=some (.tup [.ref l,.int (s.next - 1 - n - ((Y3 k n s).length:Int))])→H' l=some (.lst ys)→Ms H' ys (ofT ts (Y3 k n s))→Q (.ref q) H')∨(¬(0≤n∧n < s.next)∧E (.ref CN) none H))
end L2
namespace L2
open PySem PySem.Spec PyProof.Rows PySem.W
section
variable{P:Program}{w:World}{H:Hp}{h:Heap}{a:Addr}{o:Obj}{u:HO}
theorem YC{v:HO}(x:HOk P w H h)(hm:∀xs,H a≠some (.tup xs))(ho:∀y,H a≠some (.own y))(new:ObjOk P w (Hq H a v) h a v):HOk P w (Hq H a v) h:=fun b q e=>by
 by_cases hb:b=a
 · subst hb;rw[GU] at e;cases e;exact new
 · rw[GY hb] at e
   refine (x b q e).stay (fun c v _ q=>q) (fun c q=>?_) fun c xs q=>?_
   · rw[GY (fun z=>ho _ (z ▸ q))];exact q
   · rw[GY (fun z=>hm _ (z ▸ q))];exact q
end
section
variable{X:Cx}{pins:List (Addr×Obj)}{σ:St}{H:Hp}{s:Shared}{a:Addr}{kvs:List (HX×V)}
theorem Y7{fs ex:List Addr}{H0 H:Hp}{h0 h:Heap}{a:Addr}{v:HO}(u:Un fs ex H0 H h0 h)(hn:H a≠none)(hm:∀xs,H a≠some (.tup xs))(hf:∀o u,H0 a=some (.frz o u)→False)(ht:∀ps,H a≠some (.tbl ps)):Un fs ex H0 (Hq H a v) h0 h where
 keep:=u.keep
 slot:=u.slot
 free:=fun b o q n hx=>by
  have e:=u.free b o q n hx
  rw[GY (fun z:b=a=>hn (by rw[←z];exact e))];exact e
 there:=u.there
 tups:=fun b xs q=>by
  have e:=u.tups b xs q
  rw[GY (fun z=>hm _ (z ▸ e))];exact e
 frzs:=fun b o w q=>by
  have e:=u.frzs b o w q
  by_cases z:b=a
  · subst z;exact (hf _ _ q).elim
  · rw[GY z];exact e
 tbls:=fun b ps q=>by
  obtain⟨more,e⟩:=u.tbls b ps q
  exact ⟨more,by rw[GY (fun z=>ht _ (z ▸ e))];exact e⟩
theorem Inv.tell{v:HO}(I:Inv X pins σ H s)(hn:H a≠none)(hm:∀xs,H a≠some (.tup xs))(ho:∀y,H a≠some (.own y))(ht:∀ps,H a≠some (.tbl ps))(hf:∀o u,X.H₀ a=some (.frz o u)→False)(new:ObjOk X.prog X.w (Hq H a v) s.heap a v):Inv X pins σ (Hq H a v) s where
 ok:=I.ok
 os:=I.os
 bare:=I.bare
 base:=Y7 I.base hn hm hf ht
 loc:=I.loc
 cell:=I.cell
 free:=by rw[GY (fun z:X.env.locals=a=>hn (by rw[←z];exact I.free))];exact I.free
 freeC:=fun x c e=>by rw[GY (fun z:c=a=>hn (by rw[←z];exact I.freeC x c e))];exact I.freeC x c e
 pin:=fun p hp=>by
  obtain⟨h1,h2,h3⟩:=I.pin p hp
  exact ⟨h1,by rw[GY (fun z:p.1=a=>hn (by rw[←z];exact h2))];exact h2,h3⟩
 hok:=YC I.hok hm ho new
 len:=I.len
theorem Inv.freeze(I:Inv X pins σ H s)(ha:H a=some (.dK kvs))(hf:∀o u,X.H₀ a=some (.frz o u)→False):∃o es ep,s.heap.get? a=some o∧o.data=.dict es ep∧Inv X pins σ (Hq H a (.frz o (.dK kvs))) s:=by
 obtain⟨z,hd,vs,rel,o,es,ep,ho,hx,hdat,r⟩:=(show ObjOk X.prog X.w H s.heap a (.dK kvs) from I.hok a _ ha)
 refine ⟨o,es,ep,ho,hdat,I.tell (by rw[ha];exact fun z=>nomatch z) (fun xs=>by rw[ha];exact fun z=>nomatch z) (fun xs=>by rw[ha];exact fun z=>nomatch z) (fun xs=>by rw[ha];exact fun z=>nomatch z) hf ⟨ho,z,hd,vs,rel,o,es,ep,ho,hx,hdat,r⟩⟩
theorem Inv.thaw{o:Obj}(I:Inv X pins σ H s)(ha:H a=some (.frz o (.dK kvs)))(hf:∀o u,X.H₀ a=some (.frz o u)→False):Inv X pins σ (Hq H a (.dK kvs)) s:=by
 obtain⟨_,x⟩:=(show ObjOk X.prog X.w H s.heap a (.frz o (.dK kvs)) from I.hok a _ ha)
 exact I.tell (by rw[ha];exact fun z=>nomatch z) (fun xs=>by rw[ha];exact fun z=>nomatch z) (fun xs=>by rw[ha];exact fun z=>nomatch z) (fun xs=>by rw[ha];exact fun z=>nomatch z) hf x
end
def abt(H0 H:Hp)(R:Hp→Prop):Prop:=∃a o kvs,H a=some (.frz o (.dK kvs))∧(∀o u,H0 a=some (.frz o u)→False)∧R (Hq H a (.dK kvs))
def acx(H0:Hp)(t:TE):TE:=fun σ H Q=>t σ H fun v H'=>abt H0 H' (Q v)
def acw(H0:Hp)(t:TS):TS:=fun D σ H=>t { nx:=fun σ' H'=>abt H0 H' (D.nx σ'),rt:=fun v H'=>abt H0 H' (D.rt v) } σ H
section
variable{X:Cx}
theorem Zz{e:Expr}{t:TE}(h:PE X e t):PE X e (acx X.H₀ t):=by
 intro pins s σ H Q I hw
 refine Ix (h pins s σ H _ I hw) fun u s1 ⟨v,H1,I1,r1,a,o,kvs,ha,hf,q⟩=>⟨v,_,I1.thaw ha hf,r1,q⟩
theorem VM{st:Stmt}{t:TS}(h:PS X st t):PS X st (acw X.H₀ t):=by
 intro pins s σ H D I hw
 refine Ix (h pins s σ H _ I hw) fun f s1 q=>?_
 cases f with
 | next=>obtain⟨σ',H1,I1,a,o,kvs,ha,hf,q⟩:=q;exact ⟨σ',_,I1.thaw ha hf,q⟩
 | ret v=>obtain⟨x,σ',H1,I1,r1,a,o,kvs,ha,hf,q⟩:=q;exact ⟨x,σ',_,I1.thaw ha hf,r1,q⟩
 | brk=>obtain⟨σ',H1,I1,q⟩:=q;exact q.elim
 | cont=>obtain⟨σ',H1,I1,q⟩:=q;exact q.elim
end
def Itk(a:Addr)(o:Obj)(kvs:List (HX×V)):It:=
 ⟨fun i H=>H a=some (.frz o (.dK kvs))∧i < kvs.length,fun i H x H'=>H'=H∧∃kv,kvs[i]?=some kv∧x=kV kv.1,fun i H=>H a=some (.frz o (.dK kvs))∧kvs.length≤i⟩
def aco(a:Addr)(o:Obj)(kvs:List (HX×V)):It:=
 ⟨fun i H=>H a=some (.frz o (.dK kvs))∧i < kvs.length,fun i H x H'=>H'=H∧∃kv,kvs[i]?=some kv∧x=kv.2,fun i H=>H a=some (.frz o (.dK kvs))∧kvs.length≤i⟩
theorem Lz{X:Cx}{pins:List (Addr×Obj)}{σ:St}{H:Hp}{s:Shared}{a:Addr}{o:Obj}{kvs:List (HX×V)}{es:Array DictEntry}{ep:Nat}(I:Inv X pins σ H s)(ha:H a=some (.frz o (.dK kvs)))(hd:o.data=.dict es ep) :
 ∃ws,KV kvs ws∧s.heap.DictAt (HK X.prog X.w) a ws ep:=by
 obtain⟨ho,z,_,ws,rel,o',es',ep',ho',hx,hdat,r⟩:=(show ObjOk X.prog X.w H s.heap a (.frz o (.dK kvs)) from I.hok a _ ha)
 rw[ho] at ho'
 obtain rfl:=aAi ho'
 rw[hd] at hdat
 injection hdat with e1 e2
 subst e1;subst e2
 exact ⟨ws,rel,o,es,ho,hx,hd,r⟩
theorem Yu:∀{kvs:List (HX×V)} {ws:List (HX×Value)} {i:Nat} {kv:HX×V},KV kvs ws→kvs[i]?=some kv→∃u,ws[i]?=some (kv.1,u)∧RelV kv.2 u
 | _,_,i,kv,.nil,h=>by simp at h
 | _,_,0,kv,.cons (a:=x) (b:=y) r t,h=>by
   simp at h;subst h
   exact ⟨y.2,by rw[r.1];rfl,r.2⟩
 | _,_,i + 1,kv,.cons r t,h=>by
   obtain⟨u,h1,h2⟩:=Yu (i:=i) t (by simpa using h)
   exact ⟨u,by simpa using h1,h2⟩
theorem ZU{P:Program}{w:World}{k:HX}{v:Value}(h:(HK P w).is k v=true):RelV (kV k) v:=by
 have h':Oq k v=true:=h
 rcases Ii h' with ⟨i,t,e1,e2⟩ | ⟨y,t,e1,e2⟩
 · rw[e1,e2];exact ⟨t,rfl⟩
 · rw[e1,e2];exact ⟨t,rfl⟩
theorem Wg{P:Program}{w:World}{K:W.Frag}{tg:Expr}(a it:Addr)(o:Obj)(kvs:List (HX×V))(es:Array DictEntry)(ep:Nat)(hd:o.data=.dict es ep):Turn P w K tg (Itk a o kvs) [it] it (fun i h=>h.IsKeyIter it a i kvs.length ep) where
 mem:=by simp
 obj:=fun i h st b hb=>by
  have e:b=it:=by simpa using hb
  subst e
  obtain⟨o,e,c,d⟩:=st
  exact ⟨o,e,fun v z=>by rw[d] at z;cases z⟩
 keep:=fun i h h' st k=>st.at fun o e=>k it (by simp) o e
 item:=by
  intro X hP hw hK hc i pins s σ H E I hf st ⟨ha,hi⟩
  subst hP hw hK
  obtain⟨ws,rel,hat⟩:=Lz I ha hd
  have hl:=aAV rel
  have hx:kvs[i]?=some kvs[i]:=aAd hi
  obtain⟨u,hu,ru⟩:=Yu rel hx
  obtain⟨f0,f1,f2,f3,f4,f5⟩:=hf it (by simp)
  rw[hl] at st
  refine wpAny_pyNext_dict_item st hat hu fun key h' hkey st' sb=>?_
  have I1:Inv X pins σ H { s with heap:=h' }:=I.turned (t':=s.toks) (fun b o hb e=>(sb.2 b hb).trans e) f0 f1 f3 f4 f5
  obtain⟨o',e',c',d'⟩:=id st'
  rw[←hl] at st'
  exact ⟨key,rfl,V5 (s:={ s with heap:=h' }) e' c' d' (by decide) ⟨kV kvs[i].1,H,I1,ZU hkey,⟨rfl,kvs[i],hx,rfl⟩,st',fun b hb=>(hf b hb).1⟩⟩
 done:=by
  intro X hP hw hK hc i pins s σ H E I hf st ⟨ha,hi⟩
  subst hP hw hK
  obtain⟨ws,rel,hat⟩:=Lz I ha hd
  have hl:=aAV rel
  obtain⟨f0,f1,f2,f3,f4,f5⟩:=hf it (by simp)
  rw[hl] at st
  exact Rs I.heldAt st hat (List.getElem?_eq_none (by omega)) fun h' eb=>⟨rfl,I.turned (t':=s.toks) (fun b o hb e=>eb b o hb e) f0 f1 f3 f4 f5⟩
 self:=fun _ _ _ _ _ st h=>wpAny_pyIter_keyiter st h
theorem We{P:Program}{w:World}{K:W.Frag}{tg:Expr}(a it:Addr)(o:Obj)(kvs:List (HX×V))(es:Array DictEntry)(ep:Nat)(hd:o.data=.dict es ep):Turn P w K tg (aco a o kvs) [it] it (fun i h=>h.IsValIter it a i kvs.length ep) where
 mem:=by simp
 obj:=fun i h st b hb=>by
  have e:b=it:=by simpa using hb
  subst e
  obtain⟨o,e,c,d⟩:=st
  exact ⟨o,e,fun v z=>by rw[d] at z;cases z⟩
 keep:=fun i h h' st k=>st.at fun o e=>k it (by simp) o e
 item:=by
  intro X hP hw hK hc i pins s σ H E I hf st ⟨ha,hi⟩
  subst hP hw hK
  obtain⟨ws,rel,hat⟩:=Lz I ha hd
  have hl:=aAV rel
  have hx:kvs[i]?=some kvs[i]:=aAd hi
  obtain⟨u,hu,ru⟩:=Yu rel hx
  obtain⟨f0,f1,f2,f3,f4,f5⟩:=hf it (by simp)
  rw[hl] at st
  refine wpAny_pyNext_values_item st hat hu fun h' st' sb=>?_
  have I1:Inv X pins σ H { s with heap:=h' }:=I.turned (t':=s.toks) (fun b o hb e=>(sb.2 b hb).trans e) f0 f1 f3 f4 f5
  obtain⟨o',e',c',d'⟩:=id st'
  rw[←hl] at st'
  exact ⟨u,rfl,V5 (s:={ s with heap:=h' }) e' c' d' (by decide) ⟨kvs[i].2,H,I1,ru,⟨rfl,kvs[i],hx,rfl⟩,st',fun b hb=>(hf b hb).1⟩⟩
 done:=by
  intro X hP hw hK hc i pins s σ H E I hf st ⟨ha,hi⟩
  subst hP hw hK
  obtain⟨ws,rel,hat⟩:=Lz I ha hd
  have hl:=aAV rel
  obtain⟨f0,f1,f2,f3,f4,f5⟩:=hf it (by simp)
  rw[hl] at st
  exact Q3 I.heldAt st hat (List.getElem?_eq_none (by omega)) fun h' eb=>⟨rfl,I.turned (t':=s.toks) (fun b o hb e=>eb b o hb e) f0 f1 f3 f4 f5⟩
 self:=fun _ _ _ _ _ st h=>wpAny_pyIter_valiter st h
section
variable{X:Cx}{tg:Expr}
def ab6(H0:Hp)(tl:TE):TI:=fun σ H R=>tl σ H fun x H1=>∃a kvs,x=.ref a∧H1 a=some (.dK kvs)∧(∀o u,H0 a=some (.frz o u)→False)∧∀o,R (Itk a o kvs) (Hq H1 a (.frz o (.dK kvs)))
def ab3(H0:Hp)(tl:TE):TI:=fun σ H R=>tl σ H fun x H1=>∃p a kvs,x=.ref p∧H1 p=some (K0 p a)∧H1 a=some (.dK kvs)∧(∀o u,H0 a=some (.frz o u)→False)∧∀o,R (aco a o kvs) (Hq H1 a (.frz o (.dK kvs)))
theorem VO{l:Expr}{tl:TE}(hl:PE X l tl):PI X tg l (ab6 X.H₀ tl):=by
 intro pins s σ H R I h
 refine Ix (hl pins s σ H _ I h) fun v s1 ⟨x,H1,I1,r1,q1⟩=>?_
 obtain⟨a,kvs,e,ha,hf,q⟩:=q1
 subst e
 cases r1
 obtain⟨o,es,ep,ho,hd,I2⟩:=I1.freeze ha hf
 obtain⟨ws,rel,hat⟩:=Lz (kvs:=kvs) I2 GU hd
 have hlo:(a == sysModules)=false:=by
  obtain⟨_,lo,_⟩:=(show ObjOk X.prog X.w H1 s1.heap a (.dK kvs) from I1.hok a _ ha)
  exact lo
 refine wpAny_pyIter_dict hlo hat ?_
 refine ⟨s1.heap.objs.size,[s1.heap.objs.size],_,_,_,rfl,I2.kept (t':=s1.toks) fun b o e=>aAe _ e,Wg a _ o kvs es ep hd,?_,fun b hb=>?_,q o⟩
 · rw[aAV rel];exact ⟨_,aAo _ rfl,rfl,rfl⟩
 · have e:b=s1.heap.objs.size:=by simpa using hb
   subst e
   exact I2.fpOk (aAh _) (I2.hok.fresh (aAh _))
theorem Zx{l:Expr}{tl:TE}(hl:PE X l tl):PI X tg l (ab3 X.H₀ tl):=by
 intro pins s σ H R I h
 refine Ix (hl pins s σ H _ I h) fun v s1 ⟨x,H1,I1,r1,q1⟩=>?_
 obtain⟨p,a,kvs,e,hp,ha,hf,q⟩:=q1
 subst e
 cases r1
 obtain⟨hv,_,_⟩:=(show ObjOk X.prog X.w H1 s1.heap p (K0 p a) from I1.hok p _ hp)
 obtain⟨o,es,ep,ho,hd,I2⟩:=I1.freeze ha hf
 obtain⟨ws,rel,hat⟩:=Lz (kvs:=kvs) I2 GU hd
 refine wpAny_pyIter_values hv hat ?_
 refine ⟨s1.heap.objs.size,[s1.heap.objs.size],_,_,_,rfl,I2.kept (t':=s1.toks) fun b o e=>aAe _ e,We a _ o kvs es ep hd,?_,fun b hb=>?_,q o⟩
 · rw[aAV rel];exact ⟨_,aAo _ rfl,rfl,rfl⟩
 · have e:b=s1.heap.objs.size:=by simpa using hb
   subst e
   exact I2.fpOk (aAh _) (I2.hok.fresh (aAh _))
end
end L2
namespace L2
open PySem PySem.Spec PyProof.Rows PySem.W
theorem YL{J:It}{n:Nat}{g:TG}{tb:TS}{D:Ends}{σ:St}{H:Hp}(Pv:Nat→St→Hp→Prop)(h0:Pv 0 σ H)
 (hs:∀i σ H,i < n→Pv i σ H→J.go i H∧∀x H',J.yld i H x H'→g x σ H' fun σ2 H2=>tb { D with nx:=Pv (i + 1),ct:=Pv (i + 1),bk:=D.nx } σ2 H2)(hd:∀σ H,Pv n σ H→J.stop n H∧D.nx σ H) :
 ∃ W:Nat→Nat→St→Hp→Prop,(∃m,W 0 m σ H)∧∀i m σ H,W i m σ H→
   (J.stop i H∧D.nx σ H)∨(J.go i H∧∃N:St→Hp→Prop,(∀σ' H',N σ' H'→∃m',m' < m∧W (i + 1) m' σ' H')∧∀x H',J.yld i H x H'→g x σ H' fun σ2 H2=>tb { D with nx:=N,ct:=N,bk:=D.nx } σ2 H2):=by
 refine ⟨fun i m σ H=>m=n - i∧i≤n∧Pv i σ H,⟨n,by simp,aAJ _,h0⟩,?_⟩
 rintro i m σ H ⟨rfl,hi,p⟩
 by_cases z:i < n
 · obtain⟨g1,g2⟩:=hs i σ H z p
   exact .inr ⟨g1,Pv (i + 1),fun σ' H' q=>⟨n - (i + 1),by omega,rfl,z,q⟩,g2⟩
 · have e:i=n:=by omega
   subst e
   exact .inl (hd σ H p)
end L2
namespace L2
open PySem PySem.Spec PyProof.Rows PySem.W
def LY(f:Str→HS)(n:Str)(s:HS):Str→HS:=fun m=>if m=n then s else f m
theorem NA{f:Str→HS}{n:Str}{s:HS}:LY f n s n=s:=aAE rfl
theorem Y6{f:Str→HS}{n m:Str}{s:HS}(h:m≠n):LY f n s m=f m:=aAz h
abbrev HL:=List (Str×HA)
def HsAt(C:Addr)(H:Hp)(l:HL)(f:Str→HS):Prop:=∀x∈l,HAt C H x.2 (f x.1) []
def T4(l:HL):List Addr:=l.flatMap fun x=>x.2.fp
def TV(l:HL):List (HX×V):=l.map fun x=>(Sum.inr x.1,V.ref x.2.p)
structure DisH(l:HL):Prop where
 nd:(l.map (·.1)).Nodup
 ap:l.Pairwise fun x y=>∀c∈x.2.fp,c∉y.2.fp
theorem mem_fpH{l:HL}{c:Addr}:c∈T4 l↔∃x∈l,c∈x.2.fp:=by unfold T4;rw[List.mem_flatMap]
theorem DisH.apart{l:HL}(h:DisH l){x y:Str×HA}(hx:x∈l)(hy:y∈l)(hn:x.1≠y.1):∀c∈x.2.fp,c∉y.2.fp:=by
 obtain⟨i,hi,rfl⟩:=aAS hx
 obtain⟨j,hj,rfl⟩:=aAS hy
 rcases Nat.lt_trichotomy i j with z | z | z
 · exact aAZ.mp h.ap i j hi hj z
 · subst z;exact absurd rfl hn
 · have:=aAZ.mp h.ap j i hj hi z
   exact fun c hc w=>this c w hc
theorem DisH.uniq{l:HL}(h:DisH l){x y:Str×HA}(hx:x∈l)(hy:y∈l)(hn:x.1=y.1):x=y:=by
 have nd:=aA0.mp h.nd
 obtain⟨i,hi,rfl⟩:=aAS hx
 obtain⟨j,hj,rfl⟩:=aAS hy
 rcases Nat.lt_trichotomy i j with z | z | z
 · exact absurd hn (aAZ.mp nd i j hi hj z)
 · subst z;rfl
 · exact absurd hn.symm (aAZ.mp nd j i hj hi z)
section
variable{C:Addr}{H H':Hp}{l:HL}{f:Str→HS}
theorem HsAt.step{ps ps':List Addr}(h:HsAt C H l f)(st:Stp ps H ps' H')(hd:∀c∈T4 l,c∉ps):HsAt C H' l f:=fun x hx=>(h x hx).step st fun c hc=>hd c (mem_fpH.mpr ⟨x,hx,hc⟩)
theorem HsAt.same(h:HsAt C H l f)(e:Same H H'):HsAt C H' l f:=fun x hx=>(h x hx).same e
theorem HsAt.live(h:HsAt C H l f):∀c∈T4 l,∃o,H c=some o:=fun c hc=>by
 obtain⟨x,hx,hc⟩:=mem_fpH.mp hc
 exact (h x hx).live c hc
theorem HsAt.out{ps ps':List Addr}(h:HsAt C H l f)(st:Stp ps H ps' H')(hd:∀c∈T4 l,c∉ps):∀c∈T4 l,c∉ps':=fun c hc=>by
 obtain⟨o,ho⟩:=h.live c hc
 exact st.out ho (hd c hc)
theorem HsAt.put(h:HsAt C H l f)(d:DisH l){x:Str×HA}{s:HS}(hx:x∈l)(st:Stp x.2.fp H x.2.fp H')(ha:HAt C H' x.2 s []):HsAt C H' l (LY f x.1 s)∧Stp (T4 l) H (T4 l) H':=by
 refine ⟨fun y hy=>?_,st.up fun c hc=>mem_fpH.mpr ⟨x,hx,hc⟩⟩
 by_cases e:y.1=x.1
 · rw[d.uniq hy hx e,NA];exact ha
 · rw[Y6 e]
   exact (h y hy).step st (d.apart hy hx e)
theorem HsAt.more{n:Str}{a:HA}(h:HsAt C H l f)(ha:HAt C H a (f n) []):HsAt C H (l ++ [(n,a)]) f:=fun y hy=>by
 rcases aAx.mp hy with z | z
 · exact h y z
 · rw[aAc] at z;rw[z];exact ha
end
theorem T3(l:HL)(n:Str)(a:HA):T4 (l ++ [(n,a)])=T4 l ++ a.fp:=by
 unfold T4
 rw[List.flatMap_append]
 congr 1
theorem DisH.more{l:HL}{n:Str}{a:HA}(h:DisH l)(hn:n∉l.map (·.1))(hd:∀c∈T4 l,c∉a.fp):DisH (l ++ [(n,a)]) where
 nd:=by
  rw[aAy]
  exact aBF.mpr ⟨h.nd,by simp,fun x hx y hy e=>by simp at hy;rw[hy] at e;rw[e] at hx;exact hn hx⟩
 ap:=List.pairwise_append.mpr ⟨h.ap,aB6 _ _,fun x hx y hy c hc=>by
  rw[aAc] at hy;rw[hy];exact hd c (mem_fpH.mpr ⟨x,hx,hc⟩)⟩
theorem Su{l:HL}(d:DisH l){x:Str×HA}(hx:x∈l):Jh (TV l) (Sum.inr x.1)=some (.ref x.2.p):=by
 have key:∀(l:HL),(l.map (·.1)).Nodup→x∈l→Jh (TV l) (Sum.inr x.1)=some (.ref x.2.p):=by
  intro l
  induction l with
  | nil=>intro _ h;exact absurd h aAa
  | cons y r ih=>
    intro nd h
    rw[aAr,aBb] at nd
    by_cases e:y.1=x.1
    · rcases aAg.mp h with rfl | z
      · exact J1 rfl
      · exact absurd (by rw[e];exact aBZ z) nd.1
    · rcases aAg.mp h with rfl | z
      · exact absurd rfl e
      · refine (IT ?_).trans (ih nd.2 z)
        intro w
        exact e (aBT w)
 exact key l d.nd hx
theorem TU{l:HL}{n:Str}(h:n∉l.map (·.1)):Jh (TV l) (Sum.inr n)=none:=by
 induction l with
 | nil=>rfl
 | cons y r ih=>
   rw[aAr,aAg,not_or] at h
   refine (IT ?_).trans (ih h.2)
   intro w
   exact h.1 (aBT w).symm
theorem Yv{l:HL}{n:Str}{a:HA}(h:n∉l.map (·.1)):Ir (TV l) (Sum.inr n) (.ref a.p)=TV (l ++ [(n,a)]):=by
 rw[PM _ (TU h)]
 unfold TV
 rw[aAy];rfl
theorem Sv(l:HL):(TV l).length=l.length:=by unfold TV;rw[aAf]
def VJ(r:Str×Msg):PyData:=.tuple [.str r.1,.int r.2.n,.str r.2.t,.str r.2.x]
theorem Lv:∀rs:List (Str×Msg),Ib (rs.map VJ)=true
 | []=>rfl
 | r :: rs=>by simp[Ib,JP,VJ,Lv rs]
structure SourcesC(K:W.Frag)(mg:Str→Option Value)(C:Addr):Prop where
 cl_Sources:Cls K C
 mg_Sources:mg "Sources" = some (.ref C)
 n_hearers:NoAttr K C "hearers"
 n_story:NoAttr K C "story"
structure SA where
 p:Addr
 hd:Addr
 st:Addr
def Y2(a:SA):List (Str×V):=[("hearers",.ref a.hd),("story",.ref a.st)]
theorem Td(a:SA):(Y2 a).lookup ("hearers" : Str)=some (V.ref a.hd):=Iu
theorem aak(a:SA):(Y2 a).lookup ("story" : Str)=some (V.ref a.st):=(Hg (by decide +kernel)).trans Iu
theorem aaS{a:SA}{f:Str}(h1:¬f = "hearers")(h2:¬f = "story"):(Y2 a).lookup f=none:=(Hg h1).trans (Hg h2)
theorem Xs(a:SA):Hm "story" (.ref a.st) (Hm "hearers" (.ref a.hd) [])=Y2 a:=by
 show Hm "story" (.ref a.st) [("hearers",.ref a.hd)]=_
 rw[Hj (by decide +kernel)]
 rfl
def SA.own(a:SA):List Addr:=[a.p,a.hd,a.st]
structure SAt(C CH:Addr)(H:Hp)(a:SA)(l:HL)(f:Str→HS)(story:List (Str×Msg)):Prop where
 ob:∃dx,H a.p=some (.ins C dx (Y2 a))
 hs:H a.hd=some (.dK (TV l))
 sy:∃ys,H a.st=some (.lst ys)∧HasL H ys (story.map VJ)
 all:HsAt CH H l f
 dis:DisH l
 own:∀c∈T4 l,c∉a.own
def SA.fp(a:SA)(l:HL):List Addr:=a.own ++ T4 l
section
variable{C CH:Addr}{H H':Hp}{a:SA}{l:HL}{f:Str→HS}{story:List (Str×Msg)}
theorem SAt.step{ps ps':List Addr}(h:SAt C CH H a l f story)(st:Stp ps H ps' H')(hd:∀c∈a.fp l,c∉ps):SAt C CH H' a l f story:=by
 obtain⟨⟨dx,h1⟩,h2,⟨ys,h3,h4⟩,h5,h6,h7⟩:=h
 have ho:∀c∈a.own,c∉ps:=fun c hc=>hd c (aAj _ hc)
 exact ⟨⟨dx,st.keep h1 (ho _ (by simp[SA.own]))⟩,st.keep h2 (ho _ (by simp[SA.own])),⟨ys,st.keep h3 (ho _ (by simp[SA.own])),h4.tups st.tup (Lv story)⟩,h5.step st fun c hc=>hd c (aAu _ hc),h6,h7⟩
theorem SAt.same(h:SAt C CH H a l f story)(e:Same H H'):SAt C CH H' a l f story:=h.step (e.step []) fun _ _=>aAa
theorem SAt.live(h:SAt C CH H a l f story):∀c∈a.fp l,∃o,H c=some o:=fun c hc=>by
 rcases aAx.mp hc with z | z
 · simp only[SA.own,aAg,aAa,aBa] at z
   rcases z with rfl | rfl | rfl
   · obtain⟨dx,e⟩:=h.ob;exact ⟨_,e⟩
   · exact ⟨_,h.hs⟩
   · obtain⟨ys,e,_⟩:=h.sy;exact ⟨_,e⟩
 · exact h.all.live c z
theorem SAt.free(h:SAt C CH H a l f story){c:Addr}(hc:H c=none):c∉a.fp l:=fun z=>by
 obtain⟨o,ho⟩:=h.live c z
 rw[ho] at hc;cases hc
theorem SAt.out{ps ps':List Addr}(h:SAt C CH H a l f story)(st:Stp ps H ps' H')(hd:∀c∈a.fp l,c∉ps):∀c∈a.fp l,c∉ps':=fun c hc=>by
 obtain⟨o,ho⟩:=h.live c hc
 exact st.out ho (hd c hc)
theorem SAt.ne(h:SAt C CH H a l f story):a.p≠a.hd∧a.p≠a.st∧a.hd≠a.st:=by
 obtain⟨⟨dx,h1⟩,h2,⟨ys,h3,h4⟩,_⟩:=h
 exact ⟨HY h1 h2 (by intro z;cases z),HY h1 h3 (by intro z;cases z),HY h2 h3 (by intro z;cases z)⟩
end
def Ma(f:Str→HS)(l:HL)(n:Str):Int:=if n∈l.map (·.1) then (f n).next - 1 else 0
def VX(l:HL)(f:Str→HS):List (HX×V):=l.map fun x=>(Sum.inr x.1,V.int ((f x.1).next - 1))
theorem TZ{es:List (Str×Int)}(h:(es.map (·.1)).Nodup){x:Str×Int}(hx:x∈es):Jh (List.map (fun (e:Str×Int)=>((Sum.inr e.1:HX),V.int e.2)) es) (Sum.inr x.1)=some (V.int x.2):=by
 induction es with
 | nil=>exact absurd hx aAa
 | cons y r ih=>
   rw[aAr,aBb] at h
   by_cases e:y.1=x.1
   · rcases aAg.mp hx with rfl | z
     · exact J1 rfl
     · exact absurd (by rw[e];exact aBZ z) h.1
   · rcases aAg.mp hx with rfl | z
     · exact absurd rfl e
     · refine (IT ?_).trans (ih h.2 z)
       intro w
       exact e (aBT w)
theorem TJ{l:HL}{f:Str→HS}{n:Str}(h:n∉l.map (·.1)):Jh (VX l f) (Sum.inr n)=none:=by
 induction l with
 | nil=>rfl
 | cons y r ih=>
   rw[aAr,aAg,not_or] at h
   refine (IT ?_).trans (ih h.2)
   intro w
   exact h.1 (aBT w).symm
theorem Yh{l:HL}{f:Str→HS}{n:Str}(h:n∈l.map (·.1)):Jh (VX l f) (Sum.inr n)=some (.int ((f n).next - 1)):=by
 induction l with
 | nil=>exact absurd h aAa
 | cons y r ih=>
   by_cases e:y.1=n
   · subst e
     exact J1 rfl
   · rw[aAr,aAg] at h
     rcases h with z | z
     · exact absurd z.symm e
     · refine (IT ?_).trans (ih z)
       intro w
       exact e (aBT w)
theorem VW(l:HL)(f:Str→HS)(n:Str):(Jh (VX l f) (Sum.inr n)).getD (.int 0)=.int (Ma f l n):=by
 unfold Ma
 by_cases h:n∈l.map (·.1)
 · rw[Yh h,aAE h];rfl
 · rw[TJ h,aAz h];rfl
theorem Yi{l:HL}(d:DisH l){f:Str→HS}{i:Nat}(hi:i < l.length):some (HO.dK (Ir (VX (l.take i) f) (Sum.inr l[i].1) (V.int ((f l[i].1).next - 1))))=some (HO.dK (VX (l.take (i + 1)) f)):=by
 have hn:l[i].1∉(l.take i).map (·.1):=fun z=>by
  obtain⟨y,hy,e⟩:=aA6.mp z
  obtain⟨j,hj,rfl⟩:=aAS hy
  rw[aAM] at hj
  rw[aDa] at e
  exact aAZ.mp (aA0.mp d.nd) j i (by omega) hi (by omega) e
 rw[PM _ (TJ hn),aAF,aAd hi]
 unfold VX
 rw[aAy];rfl
section
variable(C CH:Addr)
def RM:Sp:=fun vs H Q _=>∃(p dx:Addr),vs=[.ref p]∧H p=some (.ins C dx [])∧∀a H',SA.p a=p→(∀f,SAt C CH H' a [] f [])→Stp [p] H a.own H'→Q .non H'
def Pf:Sp:=fun vs H Q _=>∃a l f story,vs=[.ref (SA.p a)]∧SAt C CH H a l f story∧∀q ys,H q=none→HasL (Hq H q (.lst ys)) ys (story.map VJ)→Q (.ref q) (Hq H q (.lst ys))
def MY:Sp:=fun vs H Q _=>∃a l f story,vs=[.ref (SA.p a)]∧SAt C CH H a l f story∧l.length < 100∧∀q H',Same H H'→H q=none→H' q=some (.dK (VX l f))→Q (.ref q) H'
end
end L2
namespace L2
open PySem PySem.Spec PyProof.Rows PySem.W
theorem SX:∀{ss:List Str} {us:List Value},Vals (ss.map V.str) us→StrsAre us ss
 | [],_,.nil=>.nil
 | _ :: _,_,.cons ⟨t,e⟩ r=>by subst e;exact .cons _ t (SX r)
theorem Ue:∀{us:List Value} {ss:List Str},StrsAre us ss→Vals (ss.map V.str) us
 | _,_,.nil=>.nil
 | _,_,.cons n t r=>.cons ⟨t,rfl⟩ (Ue r)
def VY(a b:Str):Prop:=ltCps b.cps.toList a.cps.toList=false
theorem Yq{a b:Str}:VY a b↔¬(b.cps.toList < a.cps.toList):=by
 unfold VY;rw[ltCps_eq];exact decide_eq_false_iff_not
theorem Yr{a b:Str}(h:VY a b)(h':VY b a):a=b:=by
 rw[Yq] at h h'
 have e:a.cps.toList=b.cps.toList:=List.le_antisymm (aDb.mp h) (aDb.mp h')
 have e2:a.cps=b.cps:=Array.toList_inj.mp e
 cases a;cases b;simp only at e2;subst e2;rfl
theorem WE{a b c:Str}(h:VY a b)(h':VY b c):VY a c:=by
 rw[Yq] at h h' ⊢
 exact aDb.mpr (List.le_trans (aDb.mp h) (aDb.mp h'))
theorem PF:∀(l:List Str) (p:Str),risingS p l=true→(p :: l).Pairwise VY
 | [],p,_=>aB6 _ _
 | x :: r,p,h=>by
   unfold risingS at h
   simp only[aAR,aC5] at h
   have ih:=PF r x h.2
   refine aBj.mpr ⟨fun y hy=>?_,ih⟩
   rcases aAg.mp hy with rfl | z
   · exact h.1
   · exact WE h.1 ((aBj.mp ih).1 y z)
theorem UD:∀{l:List Str},sortedS l=true→l.Pairwise VY
 | [],_=>.nil
 | x :: r,h=>PF r x h
theorem SR:∀{a b:List Str},a.Perm b→a.Pairwise VY→b.Pairwise VY→a=b
 | [],b,h,_,_=>(List.nil_perm.mp h).symm ▸ rfl
 | x :: r,[],h,_,_=>by have:=h.length_eq;simp at this
 | x :: r,y :: t,h,ha,hb=>by
   have hx:x∈y :: t:=h.mem_iff.mp aAp
   have hy:y∈x :: r:=h.mem_iff.mpr aAp
   have e:x=y:=by
    rcases aAg.mp hx with z | z
    · exact z
    rcases aAg.mp hy with w | w
    · exact w.symm
    exact Yr ((aBj.mp ha).1 y w) ((aBj.mp hb).1 x z)
   subst e
   rw[SR (List.Perm.cons_inv h) (aBj.mp ha).2 (aBj.mp hb).2]
def TxtSrc(K:W.Frag)(x:V)(H:Hp)(ss:List Str):Prop:=(∃a,x=.ref a∧SqL K H a (ss.map V.str))∨∃d kvs,x=.ref d∧H d=some (.dK kvs)∧kvs.map (·.1)=ss.map Sum.inr
section
variable{X:Cx}
theorem TxtSrc.coll{x:V}{H:Hp}{ss:List Str}(h:TxtSrc X.K x H ss):Uo X x H (ss.map V.str):=by
 rcases h with ⟨a,rfl,h⟩ | ⟨d,kvs,rfl,h,e⟩
 · exact Mp h
 · have z:=Od (X:=X) h
   have e2:kvs.map (fun kv=>kV kv.1)=ss.map V.str:=by
    have:kvs.map (fun kv=>kV kv.1)=(kvs.map (·.1)).map kV:=by rw[aA3];rfl
    rw[this,e,aA3];rfl
   rw[e2] at z
   exact z
structure SortT(ss ts:List Str):Prop where
 perm:ts.Perm ss
 rise:ts.Pairwise VY
theorem SortT.eq{ss ts:List Str}(h:SortT ss ts){us:List Str}(hp:us.Perm ss)(hu:us.Pairwise VY):ts=us:=SR (h.perm.trans hp.symm) h.rise hu
theorem Wj{pins:List (Addr×Obj)}{σ:St}{H:Hp}{s1:Shared}{ss:List Str}{vs:List Value}{A:Around}{E:Value→Shared→Prop}{Q:VK}{R:PySem.Fin→Shared→Prop}(I1:Inv X pins σ H s1)(rv:Vals (ss.map V.str) vs)(h64:ss.length < 64)
 (q:∀p ts s',SortT ss ts→p=s1.heap.objs.size→H p=none→Inv X pins σ (Hq H p (.lst (ts.map V.str))) s'→R (.done (.ret .none)) s') :
 wpAny (model X.prog X.w) A (Builtin.«list.sort» ⟨[.ref s1.heap.objs.size],[]⟩) R E { s1 with heap:=s1.heap.push (seqObj "list" vs.toArray 0) }:=by
 have hl:=rv.length
 rw[aAf] at hl
 have fD:J0 X pins H s1.heap.objs.size:=I1.fpOk (aAh _) (I1.hok.fresh (aAh _))
 have hoL:(s1.heap.push (seqObj "list" vs.toArray 0)).get? s1.heap.objs.size=some (seqObj "list" vs.toArray 0):=aAo _ rfl
 have hS:=SX rv
 refine list_sort_treeK strKind_oneLt (s:={ s1 with heap:=s1.heap.push (seqObj "list" vs.toArray 0) }) hoL hS.keysOf (fun v₁ v₂ LU e=>keyKind_strs (by rw[←e];exact hS)) (by omega) fun st' hp hs=>?_
 obtain⟨ts,h1,h2,h3⟩:=sorted_out_str hS hp hs
 generalize (arrOf st').map (·.2)=out at h1
 obtain⟨c,hat⟩:=sortedHeap_at (out:=out) hoL
 refine q s1.heap.objs.size ts _ ⟨h2,UD h3⟩ rfl fD.1 ?_
 have I3:Inv X pins σ H { s1 with heap:=sortedHeap (s1.heap.push (seqObj "list" vs.toArray 0)) s1.heap.objs.size vs out }:=I1.kept (t':=s1.toks) fun b o e=>by
  have hb:b≠s1.heap.objs.size:=aAB (aAl e)
  rw[sortedHeap_old hb (by rw[aBo];exact aBS (aAl e))]
  exact aAe _ e
 refine I3.track fD ⟨?_,out.toList,c,Ue h1,?_⟩
 · rw[aAf,h2.length_eq,aAs];omega
 · simpa [seqObj] using hat
def Xv(K:W.Frag):List V→Hp→VK→Prop:=fun xs H Q=>∃x ss,xs=[x]∧TxtSrc K x H ss∧ss.length < 64∧∀p ts,H p=none→SortT ss ts→Q (.ref p) (Hq H p (.lst (ts.map V.str)))
theorem Vk(hc:X.prog=X.prog):Kr X (.builtin "sorted") (Xv X.K):=by
 intro pins s σ H xs us Q I r h
 obtain⟨x,ss,rfl,hx,h64,q⟩:=h
 obtain⟨u,rfl,ru⟩:=Q5 r
 refine aCm aDo aDh aDi (args_sorted1 _) ?_
 unfold Builtin.«sorted»
 refine aAb (m:=checkCount "sorted" 1 1 _) (aAm ?_)
 refine aAb (hx.coll pins s σ u _ _ _ I ru I.heldAt fun vs s1 rv I1=>?_)
 have hl:=rv.length
 rw[aAf] at hl
 refine aAb (aBM ?_ (by rw[aAs];omega))
 have hoL:(s1.heap.push (seqObj "list" vs.toArray 0)).get? s1.heap.objs.size=some (seqObj "list" vs.toArray 0):=aAo _ rfl
 refine aAb (aA5 (aBy aC0 ⟨_,hoL,rfl⟩ aCR ?body (aDp _)))
 case body=>exact Wj (Q:=Q) I1 rv h64 fun p ts s' hs e hn I'=>⟨_,rfl,by subst e;exact aAm ⟨_,rfl,.ref _,_,I',rfl,q _ ts hn hs⟩⟩
theorem ZV(K:W.Frag)(hc:X.prog=X.prog)(h:X.K=K:=by rfl):Kr X (.builtin "sorted") (Xv K):=h ▸ Vk hc
end
end L2
namespace L2
open PySem PySem.Spec PyProof.Rows PySem.W
def LZ(l:List Str)(F:Str→V):List (HX×V):=l.map fun n=>(Sum.inr n,F n)
theorem Lk{l:List Str}{F:Str→V}{n:Str}(h:n∈l):Jh (LZ l F) (Sum.inr n)=some (F n):=by
 induction l with
 | nil=>exact absurd h aAa
 | cons m r ih=>
   by_cases e:m=n
   · subst e;exact J1 rfl
   · rcases aAg.mp h with z | z
     · exact absurd z.symm e
     · exact (IT (fun w=>e (aBT w))).trans (ih z)
theorem NB{l:List Str}{F:Str→V}{n:Str}(h:n∉l):Jh (LZ l F) (Sum.inr n)=none:=by
 induction l with
 | nil=>rfl
 | cons m r ih=>
   rw[aAg,not_or] at h
   exact (IT (fun w=>h.1 (aBT w).symm)).trans (ih h.2)
theorem MW(l:List Str)(F:Str→V):(LZ l F).length=l.length:=by unfold LZ;rw[aAf]
theorem Q6{l:List Str}{F:Str→V}{n:Str}(h:n∉l)(v:V):Ir (LZ l F) (Sum.inr n) v=LZ (l ++ [n]) (fun m=>if m=n then v else F m):=by
 rw[PM _ (NB h)]
 unfold LZ
 rw[aAy]
 congr 1
 · refine aBK fun m hm=>?_
   show (Sum.inr m,F m)=(Sum.inr m,if m=n then v else F m)
   rw[aAz (fun (z:m=n)=>h (z ▸ hm))]
 · show _=[(Sum.inr n,if n=n then v else F n)]
   rw[aAE rfl]
theorem KN{l:List Str}{F G:Str→V}(h:∀n∈l,F n=G n):LZ l F=LZ l G:=aBK fun n hn=>by rw[h n hn]
theorem Wi(l:List Str)(F:Str→V):(LZ l F).map (·.1)=l.map Sum.inr:=by unfold LZ;rw[aA3];rfl
structure FE where
 p:Addr
 r:Addr
 d:Addr
 sz:Int
 way:Str
 s:RS
 B:HA
 h:HS
def FE.fp(e:FE):List Addr:=[e.p,e.r,e.d] ++ e.B.fp
structure FEAt(CR CH:Addr)(H:Hp)(e:FE):Prop where
 ra:RAt CR H e.p e.sz e.way e.s e.r e.d
 ha:HAt CH H e.B e.h []
 ap:∀c∈[e.p,e.r,e.d],c∉e.B.fp
section
variable{CR CH:Addr}{H H':Hp}{e:FE}
theorem FEAt.step{ps ps':List Addr}(h:FEAt CR CH H e)(st:Stp ps H ps' H')(hd:∀c∈e.fp,c∉ps):FEAt CR CH H' e:=
 ⟨h.ra.step st fun c hc=>hd c (aAj _ hc),h.ha.step st fun c hc=>hd c (aAu _ hc),h.ap⟩
theorem FEAt.same(h:FEAt CR CH H e)(s:Same H H'):FEAt CR CH H' e:=h.step (s.step []) fun _ _=>aAa
theorem FEAt.live(h:FEAt CR CH H e):∀c∈e.fp,∃o,H c=some o:=fun c hc=>by
 rcases aAx.mp hc with z | z
 · obtain⟨⟨dx,h1⟩,⟨ys,h2,_⟩,h4,_⟩:=h.ra
   simp only[aAg,aAa,aBa] at z
   rcases z with rfl | rfl | rfl
   · exact ⟨_,h1⟩
   · exact ⟨_,h2⟩
   · exact ⟨_,h4⟩
 · exact h.ha.live c z
theorem FEAt.out{ps ps':List Addr}(h:FEAt CR CH H e)(st:Stp ps H ps' H')(hd:∀c∈e.fp,c∉ps):∀c∈e.fp,c∉ps':=fun c hc=>by
 obtain⟨o,ho⟩:=h.live c hc
 exact st.out ho (hd c hc)
theorem FEAt.road(h:FEAt CR CH H e){s':RS}{r':Addr}(st:Stp [e.p,e.r,e.d] H [e.p,r',e.d] H')(hr:RAt CR H' e.p e.sz e.way s' r' e.d):FEAt CR CH H' { e with s:=s',r:=r' }∧Stp e.fp H (FE.fp { e with s:=s',r:=r' }) H':=by
 refine ⟨⟨hr,h.ha.step st (fun c hc z=>h.ap c z hc),fun c hc z=>?_⟩,st.weak (fun c hc=>aAj _ hc) fun c hc=>?_⟩
 · obtain⟨o,ho⟩:=h.ha.live c z
   exact st.out ho (fun y=>h.ap c y z) hc
 · rcases aAx.mp hc with z | z
   · exact .inl z
   · exact .inr (aAu _ z)
theorem FEAt.hear(h:FEAt CR CH H e){h':HS}(st:Stp e.B.fp H e.B.fp H')(hh:HAt CH H' e.B h' []):FEAt CR CH H' { e with h:=h' }∧Stp e.fp H (FE.fp { e with h:=h' }) H':=
 ⟨⟨h.ra.step st h.ap,hh,h.ap⟩,st.up fun c hc=>aAu _ hc⟩
end
def Lj(g:Str→FE)(n:Str)(e:FE):Str→FE:=fun m=>if m=n then e else g m
theorem HV{g:Str→FE}{n:Str}{e:FE}:Lj g n e n=e:=aAE rfl
theorem JB{g:Str→FE}{n m:Str}{e:FE}(h:m≠n):Lj g n e m=g m:=aAz h
def fpF(l:List Str)(g:Str→FE):List Addr:=l.flatMap fun n=>(g n).fp
theorem mem_fpF{l:List Str}{g:Str→FE}{c:Addr}:c∈fpF l g↔∃n∈l,c∈(g n).fp:=by unfold fpF;rw[List.mem_flatMap]
structure FanC(K:W.Frag)(mg:Str→Option Value)(C:Addr):Prop where
 cl_Fan:Cls K C
 mg_Fan:mg "Fan" = some (.ref C)
 n_teller:NoAttr K C "teller"
 n_roads:NoAttr K C "roads"
 n_hearers:NoAttr K C "hearers"
structure FA where
 p:Addr
 rd:Addr
 hd:Addr
 tp:Addr
 ts:Addr
 td:Addr
def Up(a:FA):List (Str×V):=[("teller",.ref a.tp),("roads",.ref a.rd),("hearers",.ref a.hd)]
theorem YM(a:FA):(Up a).lookup ("teller" : Str)=some (V.ref a.tp):=Iu
theorem Qk(a:FA):(Up a).lookup ("roads" : Str)=some (V.ref a.rd):=(Hg (by decide +kernel)).trans Iu
theorem YO(a:FA):(Up a).lookup ("hearers" : Str)=some (V.ref a.hd):=(Hg (by decide +kernel)).trans ((Hg (by decide +kernel)).trans Iu)
theorem abi{a:FA}{f:Str}(h1:¬f = "teller")(h2:¬f = "roads")(h3:¬f = "hearers"):(Up a).lookup f=none:=(Hg h1).trans ((Hg h2).trans (Hg h3))
theorem YN(a:FA):Hm "hearers" (.ref a.hd) (Hm "roads" (.ref a.rd) (Hm "teller" (.ref a.tp) []))=Up a:=by
 show Hm "hearers" (.ref a.hd) (Hm "roads" (.ref a.rd) [("teller",.ref a.tp)])=_
 rw[Hj (by decide +kernel)]
 show Hm "hearers" (.ref a.hd) [("teller",.ref a.tp),("roads",.ref a.rd)]=_
 rw[Hj (by decide +kernel),Hj (by decide +kernel)]
 rfl
def FA.own(a:FA):List Addr:=[a.p,a.rd,a.hd,a.tp,a.ts,a.td]
def FA.fp(a:FA)(l:List Str)(g:Str→FE):List Addr:=a.own ++ fpF l g
def M8(l:List Str)(g:Str→FE):List (HX×V):=LZ l fun n=>.ref (g n).p
def WK(l:List Str)(g:Str→FE):List (HX×V):=LZ l fun n=>.ref (g n).B.p
structure FAt0(CF CT CR CH:Addr)(H:Hp)(a:FA)(l:List Str)(g:Str→FE)(k:Int)(all:List Msg):Prop where
 ob:∃dx,H a.p=some (.ins CF dx (Up a))
 tl:TAt CT H a.tp k 0 all a.ts a.td
 hs:H a.hd=some (.dK (WK l g))
 en:∀n∈l,FEAt CR CH H (g n)
 nd:l.Nodup
 ap:∀n∈l,∀m∈l,n≠m→∀c∈(g n).fp,c∉(g m).fp
 own:∀n∈l,∀c∈(g n).fp,c∉a.own
 ne:a.rd∉[a.p,a.hd]
 bt:∀c∈[a.p,a.rd,a.hd],c∉[a.tp,a.ts,a.td]
structure FAt(CF CT CR CH:Addr)(H:Hp)(a:FA)(l:List Str)(g:Str→FE)(k:Int)(all:List Msg):Prop extends FAt0 CF CT CR CH H a l g k all where
 rs:H a.rd=some (.dK (M8 l g))
section
variable{CF CT CR CH:Addr}{H H':Hp}{a:FA}{l:List Str}{g:Str→FE}{k:Int}{all all':List Msg}{n:Str}{e:FE}
theorem FAt0.step{ps ps':List Addr}(h:FAt0 CF CT CR CH H a l g k all)(st:Stp ps H ps' H')(hd:∀c∈a.fp l g,c≠a.rd→c∉ps):FAt0 CF CT CR CH H' a l g k all:=by
 obtain⟨⟨dx,h1⟩,h2,h4,h5,h6,h7,h8,h9,h10⟩:=h
 have n1:a.p≠a.rd:=fun z=>h9 (by simp[z])
 have n2:a.hd≠a.rd:=fun z=>h9 (by simp[z])
 have nt:∀c∈[a.tp,a.ts,a.td],c≠a.rd:=fun c hc z=>h10 a.rd (by simp) (z ▸ hc)
 have ho:∀c∈a.own,c≠a.rd→c∉ps:=fun c hc hn=>hd c (aAj _ hc) hn
 refine ⟨⟨dx,st.keep h1 (ho _ (by simp[FA.own]) n1)⟩,h2.stp st (fun c hc=>ho c ?_ (nt c hc)),st.keep h4 (ho _ (by simp[FA.own]) n2),fun n hn=>(h5 n hn).step st fun c hc=>hd c (aAu _ (mem_fpF.mpr ⟨n,hn,hc⟩)) (fun z=>h8 n hn c hc (by rw[z];simp[FA.own])),h6,h7,h8,h9,h10⟩
 simp only[aAg,aAa,aBa] at hc
 rcases hc with rfl | rfl | rfl <;> simp[FA.own]
theorem FAt.step{ps ps':List Addr}(h:FAt CF CT CR CH H a l g k all)(st:Stp ps H ps' H')(hd:∀c∈a.fp l g,c∉ps):FAt CF CT CR CH H' a l g k all:=
 ⟨h.toFAt0.step st fun c hc _=>hd c hc,st.keep h.rs (hd _ (aAj _ (by simp[FA.own])))⟩
theorem FAt.same(h:FAt CF CT CR CH H a l g k all)(s:Same H H'):FAt CF CT CR CH H' a l g k all:=h.step (s.step []) fun _ _=>aAa
theorem TAt.live3{C:Addr}{H:Hp}{p:Addr}{k r:Int}{all:List Msg}{s d:Addr}(h:TAt C H p k r all s d):∀c∈[p,s,d],∃o,H c=some o:=fun c hc=>by
 obtain⟨⟨dx,h1⟩,⟨ys,h2,h3⟩,⟨kvs,h4,h5⟩⟩:=h
 simp only[aAg,aAa,aBa] at hc
 rcases hc with rfl | rfl | rfl
 · exact ⟨_,h1⟩
 · exact ⟨_,h2⟩
 · exact ⟨_,h4⟩
theorem FAt.live(h:FAt CF CT CR CH H a l g k all):∀c∈a.fp l g,∃o,H c=some o:=fun c hc=>by
 rcases aAx.mp hc with z | z
 · simp only[FA.own,aAg,aAa,aBa] at z
   rcases z with rfl | rfl | rfl | rfl | rfl | rfl
   · obtain⟨dx,e⟩:=h.ob;exact ⟨_,e⟩
   · exact ⟨_,h.rs⟩
   · exact ⟨_,h.hs⟩
   · exact h.tl.live3 _ (by simp)
   · exact h.tl.live3 _ (by simp)
   · exact h.tl.live3 _ (by simp)
 · obtain⟨n,hn,hc⟩:=mem_fpF.mp z
   exact (h.en n hn).live c hc
theorem FAt.free(h:FAt CF CT CR CH H a l g k all){c:Addr}(hc:H c=none):c∉a.fp l g:=fun z=>by
 obtain⟨o,ho⟩:=h.live c z
 rw[ho] at hc;cases hc
theorem FAt.out{ps ps':List Addr}(h:FAt CF CT CR CH H a l g k all)(st:Stp ps H ps' H')(hd:∀c∈a.fp l g,c∉ps):∀c∈a.fp l g,c∉ps':=fun c hc=>by
 obtain⟨o,ho⟩:=h.live c hc
 exact st.out ho (hd c hc)
theorem FAt0.put(h:FAt0 CF CT CR CH H a l g k all)(hn:n∈l)(lv:∃o,H a.rd=some o)(st:Stp (g n).fp H e.fp H')(he:FEAt CR CH H' e)(hp:e.p=(g n).p)(hb:e.B.p=(g n).B.p):FAt0 CF CT CR CH H' a l (Lj g n e) k all∧Stp (a.fp l g) H (a.fp l (Lj g n e)) H':=by
 have oo:∀c∈a.own,c∉(g n).fp:=fun c hc z=>h.own n hn c z hc
 have ho:∀c∈a.own,c∉e.fp:=fun c hc=>by
  have hl:∃o,H c=some o:=by
   have hc':=hc
   simp only[FA.own,aAg,aAa,aBa] at hc'
   rcases hc' with rfl | rfl | rfl | rfl | rfl | rfl
   · obtain⟨dx,e⟩:=h.ob;exact ⟨_,e⟩
   · exact lv
   · exact ⟨_,h.hs⟩
   · exact h.tl.live3 _ (by simp)
   · exact h.tl.live3 _ (by simp)
   · exact h.tl.live3 _ (by simp)
  obtain⟨o,hl⟩:=hl
  exact st.out hl (oo c hc)
 have hoth:∀m∈l,m≠n→∀c∈(g m).fp,c∉(g n).fp:=fun m hm hne=>h.ap m hm n hn hne
 have hT:WK l (Lj g n e)=WK l g:=KN fun m _=>by
  by_cases z:m=n
  · subst z;rw[HV,hb]
  · rw[JB z]
 obtain⟨dx,h1⟩:=h.ob
 refine ⟨⟨⟨dx,st.keep h1 (oo _ (by simp[FA.own]))⟩,h.tl.stp st (fun c hc=>oo c ?_),by rw[hT];exact st.keep h.hs (oo _ (by simp[FA.own])),fun m hm=>?_,h.nd,fun m hm m' hm' hne=>?_,fun m hm c hc=>?_,h.ne,h.bt⟩,st.weak (fun c hc=>aAu _ (mem_fpF.mpr ⟨n,hn,hc⟩)) fun c hc=>?_⟩
 · simp only[aAg,aAa,aBa] at hc
   rcases hc with rfl | rfl | rfl <;> simp[FA.own]
 · by_cases z:m=n
   · subst z;rw[HV];exact he
   · rw[JB z];exact (h.en m hm).step st (hoth m hm z)
 · by_cases z:m=n
   · subst z
     rw[HV,JB (aBg hne)]
     exact fun c hc y=>(h.en m' hm').out st (hoth m' hm' (aBg hne)) c y hc
   · rw[JB z]
     by_cases z':m'=n
     · subst z'
       rw[HV]
       exact (h.en m hm).out st (hoth m hm z)
     · rw[JB z'];exact h.ap m hm m' hm' hne
 · by_cases z:m=n
   · subst z;rw[HV] at hc;exact fun y=>ho c y hc
   · rw[JB z] at hc;exact h.own m hm c hc
 · rcases aAx.mp hc with z | z
   · exact .inr (aAj _ z)
   · obtain⟨m,hm,hc⟩:=mem_fpF.mp z
     by_cases y:m=n
     · subst y;rw[HV] at hc;exact .inl hc
     · rw[JB y] at hc;exact .inr (aAu _ (mem_fpF.mpr ⟨m,hm,hc⟩))
theorem Zn(hp:e.p=(g n).p):M8 l (Lj g n e)=M8 l g:=KN fun m _=>by
 by_cases z:m=n
 · subst z;rw[HV,hp]
 · rw[JB z]
theorem FAt.put(h:FAt CF CT CR CH H a l g k all)(hn:n∈l)(st:Stp (g n).fp H e.fp H')(he:FEAt CR CH H' e)(hp:e.p=(g n).p)(hb:e.B.p=(g n).B.p):FAt CF CT CR CH H' a l (Lj g n e) k all∧Stp (a.fp l g) H (a.fp l (Lj g n e)) H':=by
 have ⟨h1,h2⟩:=h.toFAt0.put hn ⟨_,h.rs⟩ st he hp hb
 exact ⟨⟨h1,by rw[Zn hp];exact st.keep h.rs (fun z=>h.own n hn _ z (by simp[FA.own]))⟩,h2⟩
theorem FAt.told(h:FAt CF CT CR CH H a l g k all)(tl:TAt CT H' a.tp k 0 all' a.ts a.td)(st:Stp [a.tp,a.ts,a.td] H [a.tp,a.ts,a.td] H'):FAt CF CT CR CH H' a l g k all'∧Stp (a.fp l g) H (a.fp l g) H':=by
 have sub:∀c∈[a.tp,a.ts,a.td],c∈a.own:=fun c hc=>by
  simp only[aAg,aAa,aBa] at hc
  rcases hc with rfl | rfl | rfl <;> simp[FA.own]
 obtain⟨dx,h1⟩:=h.ob
 exact ⟨⟨⟨⟨dx,st.keep h1 (h.bt _ (by simp))⟩,tl,st.keep h.hs (h.bt _ (by simp)),fun n hn=>(h.en n hn).step st fun c hc z=>h.own n hn c hc (sub c z),h.nd,h.ap,h.own,h.ne,h.bt⟩,st.keep h.rs (h.bt _ (by simp))⟩,st.up fun c hc=>aAj _ (sub c hc)⟩
end
section
variable(CF CT CR CH:Addr)
def RV:Sp:=fun vs H Q _=>∃(p dx:Addr) (k:Int),vs=[.ref p,.int k]∧H p=some (.ins CF dx [])∧∀a H',FA.p a=p→(∀g,FAt CF CT CR CH H' a [] g k [])→Stp [p] H a.own H'→Q .non H'
def M0:Sp:=fun vs H Q _=>∃a l g k all,vs=[.ref (FA.p a)]∧FAt CF CT CR CH H a l g k all∧l.length < 64∧∀p ts,H p=none→SortT l ts→Q (.ref p) (Hq H p (.lst (ts.map V.str)))
structure FPut(m:Msg)(e e':FE):Prop where
 sz:e'.sz=e.sz
 way:e'.way=e.way
 s:e'.s=JC e.sz e.way e.s m
 h:e'.h=e.h
def RT:Sp:=fun vs H Q _=>∃a l g k all t x,vs=[.ref (FA.p a),.str t,.str x]∧FAt CF CT CR CH H a l g k all∧all.length < 60∧0≤k∧l.length < 100∧(∀n∈l,(g n).s.rows.length < 63∧(g n).s.out.length < 1000)∧
 ∀g' H',FAt CF CT CR CH H' a l g' k (all ++ [⟨(all.length:Int) + 1,t,x⟩])→(∀n∈l,FPut ⟨(all.length:Int) + 1,t,x⟩ (g n) (g' n))→Stp (a.fp l g) H (a.fp l g') H'→Q (.int ((all.length:Int) + 1)) H'
def LV(all:List Msg)(e:FE):Int:=(all.length:Int) - e.h.next + 1
def Y1(ns:List Int)(M:Int):Prop:=(ns=[]∧M=0)∨(M∈ns∧∀x∈ns,x≤M)
def RU:Sp:=fun vs H Q _=>∃a l g k all,vs=[.ref (FA.p a)]∧FAt CF CT CR CH H a l g k all∧l.length < 64∧∀p ts M H',Same H H'→H p=none→SortT l ts→Y1 (ts.map fun n=>LV all (g n)) M→H' p=some (.lst ((ts.filter fun n=>decide (LV all (g n)=M)).map V.str))→Q (.ref p) H'
end
end L2
namespace L2
open PySem PySem.Spec PyProof.Rows PySem.W
def abv(H:Hp)(xs:List V)(kz:List HX):Prop:=kz.length=xs.length∧∀(i:Nat) x k,xs[i]?=some x→kz[i]?=some k→∃a r,x=.ref a∧H a=some (.tup (kV k :: r))
def aah(h:Heap)(vs:List Value)(kz:List HX):Prop:=kz.length=vs.length∧∀(i:Nat) v k,vs[i]?=some v→kz[i]?=some k→∃a o xs n u,v=.ref a∧h.get? a=some o∧o.cls=.type "tuple"∧o.data=.seq xs n∧xs[0]?=some u∧RelV (kV k) u
section
variable{X:Cx}{pins:List (Addr×Obj)}{σ:St}{H:Hp}{s:Shared}{A:Around}{E:Value→Shared→Prop}{a:Addr}{vs:List Value}{P:PySem.Fin→Shared→Prop}
theorem ab9{xs:List V}{kz:List HX}(rv:Vals xs vs)(hn:abv H xs kz)(I:Inv X pins σ H s):aah s.heap vs kz:=by
 refine ⟨by rw[hn.1];exact rv.length,fun i v k hv hk=>?_⟩
 obtain⟨x,hx,rx⟩:=rv.back hv
 obtain⟨a,r,rfl,ha⟩:=hn.2 i x k hx hk
 cases (show v=Value.ref a from rx)
 obtain⟨hz,its,rt,o,e,c,n,d⟩:=(show ObjOk X.prog X.w H s.heap a (.tup (kV k :: r)) from I.hok a _ ha)
 cases rt with
 | cons r1 t1=>exact ⟨a,o,_,n,_,rfl,e,c,d,by simp,r1⟩
end
end L2
namespace L2
open PySem PySem.Spec PyProof.Rows PySem.W
theorem MV:∀{xs:List V} {vs:List Value} {i:Nat} {v:Value},Vals xs vs→vs[i]?=some v→∃x,xs[i]?=some x∧RelV x v
 | _,_,i,v,.nil,h=>by simp at h
 | _,_,0,v,.cons r t,h=>by simp at h;subst h;exact ⟨_,rfl,r⟩
 | _,_,i + 1,v,.cons r t,h=>by
   obtain⟨x,h1,h2⟩:=MV (i:=i) t (by simpa using h)
   exact ⟨x,by simpa using h1,h2⟩
abbrev Rv(es:List (Str×Int)):List (HX×V):=List.map (fun (e:Str×Int)=>((Sum.inr e.1:HX),V.int e.2)) es
section
variable{X:Cx}
theorem Qc{A:Around}{s:Shared}{E:List (Str×Int)}(hn:(E.map (·.1)).Nodup){vb:List (HX×Value)}(rb:KV (Rv E) vb):∀{D:List (Str×Int)} {va:List (HX×Value)},(∀p∈D,p∈E)→KV (Rv D) va→KeqHits A s vb va true
 | [],va,_,r=>by
   have h:=aAV r
   cases va with
   | nil=>exact .nil
   | cons q va=>exact absurd h (by simp)
 | p :: D,va,hD,r=>by
   cases r with
   | @cons _ q _ vr h t=>
     obtain⟨h1,h2⟩:=h
     have hv:=rb.val (Sum.inr p.1)
     rw[TZ hn (hD p aAp)] at hv
     have ih:=Qc (A:=A) (s:=s) hn rb (fun x hx=>hD x (aAq _ hx)) t
     obtain⟨q1,q2⟩:=q
     have e1:Sum.inr p.1=q1:=h1
     subst e1
     obtain⟨u,hu,ru⟩:=RelO.some_of hv
     have he:=Vf (A:=A) (s:=s) (y:=.int p.2) (x:=.int p.2) h2 ru rfl rfl
     have e2:YS (.int p.2) (.int p.2)=true:=by show (p.2 == p.2)=true;simp
     rw[e2] at he
     exact .hit hu he ih
end
end L2
namespace L2
open PySem PySem.Spec PyProof.Rows PySem.W MeetsSeq MeetsSeq2 MeetsSeq3 SeqRoads2
open AutoSeq1 (wpAny_loadPart')
def EqIn(P:Program)(w:World)(A:Around)(s:Shared)(y x:Value):Prop:=∀(E:Value→Shared→Prop) (Q:Bool→Shared→Prop),Q true s→wpAny (model P w) A (eqBool y x) Q E s
def RcIn(P:Program)(w:World)(A:Around)(s:Shared)(y x:Value):Prop:=∀(E:Value→Shared→Prop) (Q:Value→Shared→Prop),(Q (.bool true) s→wpAny (model P w) A (richCompare .Eq y x) Q E s)∧(Q (.bool false) s→wpAny (model P w) A (richCompare .NotEq y x) Q E s)
section
variable{P:Program}{w:World}{A:Around}{s:Shared}
theorem EqIn.refl(v:Value):EqIn P w A s v v:=fun E Q q=>SeqAt.EqAt.same v P w E Q q
theorem EqIn.of{y x:Value}(e:SeqAt.EqAt A s y x true):EqIn P w A s y x:=fun E Q q=>e P w E Q q
theorem RcIn.eqIn{a b:Addr}(r:RcIn P w A s (.ref a) (.ref b)):EqIn P w A s (.ref a) (.ref b):=fun E Q q=>by
 by_cases hab:a=b
 · subst hab;exact EqIn.refl _ E Q q
 unfold eqBool
 refine aA5 ?_
 refine wpAny_ite_split (fun z=>absurd (by have:=eq_of_beq z;injection this) hab) (fun _=>?_)
 exact aAb ((r E _).1 (aBv q))
theorem ZS{la lb:Addr}{xs ys:Array Value}{na nb:Nat}{da db:Option Addr}{sa sb:Array (Option Value)}(hn:xs.size=ys.size){R:Result→Shared→Prop}(k:Nat) :
 ∀(i:Nat) (s:Shared),xs.size - i=k→s.heap.get? la=some { cls:=.type "list",dict:=da,data:=.seq xs na,slots:=sa }→s.heap.get? lb=some { cls:=.type "list",dict:=db,data:=.seq ys nb,slots:=sb }→
 (∀j (j1:j < xs.size) (j2:j < ys.size),EqIn P w A.in1 s xs[j] ys[j])→R (.ok (.ret (.bool true))) s→codeAny (model P w) A (.builtin "list.__eq__.loop" ⟨[.ref la,.ref lb,rawInt i,rawInt 2],[]⟩) R s:=by
 induction k with
 | zero=>
   intro i s hk hA hB ha hR
   refine aA8 entry_eq_loop ?_
   have hpl:=plain_eq_loop
   rw[aA4 hpl _]
   obtain⟨hp,g,dr,tk,os⟩:=s
   have z1:xs[((i:Nat):Int).toNat]?=none:=by simp;omega
   have z2:ys[((i:Nat):Int).toNat]?=none:=by simp;omega
   wp_walk using aAG hA,aAG hB
   rw[z1,z2]
   wp_walk using aAG hA,aAG hB
   show R (.ok (.ret (.bool (xs.size == ys.size)))) _
   rw[hn]
   simpa using hR
 | succ k ih=>
   intro i s hk hA hB ha hR
   refine aA8 entry_eq_loop ?_
   have hpl:=plain_eq_loop
   rw[aA4 hpl _]
   obtain⟨hp,g,dr,tk,os⟩:=s
   have l1:i < xs.size:=by omega
   have l2:i < ys.size:=by omega
   have z1:xs[((i:Nat):Int).toNat]?=some xs[i]:=by simp[l1]
   have z2:ys[((i:Nat):Int).toNat]?=some ys[i]:=by simp[l2]
   have ec:((i:Int) + 1)=((i + 1:Nat):Int):=by push_cast;rfl
   wp_walk using aAG hA,aAG hB
   rw[z1,z2]
   refine aAb (ha i l1 l2 _ _ ?_)
   wp_walk
   rw[ec]
   exact ⟨plainId_quiet plain_eq_loop _,ih (i + 1) _ (by omega) hA hB ha hR⟩
theorem ZR{la lb:Addr}{xs ys:Array Value}{na nb:Nat}{da db:Option Addr}{sa sb:Array (Option Value)}(hn:xs.size=ys.size){R:Result→Shared→Prop}(k:Nat) :
 ∀(i:Nat) (s:Shared),xs.size - i=k→s.heap.get? la=some { cls:=.type "list",dict:=da,data:=.seq xs na,slots:=sa }→s.heap.get? lb=some { cls:=.type "list",dict:=db,data:=.seq ys nb,slots:=sb }→
 (∀j (j1:j < xs.size) (j2:j < ys.size),EqIn P w A.in1 s xs[j] ys[j])→R (.ok (.ret (.bool false))) s→codeAny (model P w) A (.builtin "list.__eq__.loop" ⟨[.ref la,.ref lb,rawInt i,rawInt 3],[]⟩) R s:=by
 induction k with
 | zero=>
   intro i s hk hA hB ha hR
   refine aA8 entry_eq_loop ?_
   have hpl:=plain_eq_loop
   rw[aA4 hpl _]
   obtain⟨hp,g,dr,tk,os⟩:=s
   have z1:xs[((i:Nat):Int).toNat]?=none:=by simp;omega
   have z2:ys[((i:Nat):Int).toNat]?=none:=by simp;omega
   wp_walk using aAG hA,aAG hB
   rw[z1,z2]
   wp_walk using aAG hA,aAG hB
   show R (.ok (.ret (.bool (xs.size != ys.size)))) _
   rw[hn]
   simpa using hR
 | succ k ih=>
   intro i s hk hA hB ha hR
   refine aA8 entry_eq_loop ?_
   have hpl:=plain_eq_loop
   rw[aA4 hpl _]
   obtain⟨hp,g,dr,tk,os⟩:=s
   have l1:i < xs.size:=by omega
   have l2:i < ys.size:=by omega
   have z1:xs[((i:Nat):Int).toNat]?=some xs[i]:=by simp[l1]
   have z2:ys[((i:Nat):Int).toNat]?=some ys[i]:=by simp[l2]
   have ec:((i:Int) + 1)=((i + 1:Nat):Int):=by push_cast;rfl
   wp_walk using aAG hA,aAG hB
   rw[z1,z2]
   refine aAb (ha i l1 l2 _ _ ?_)
   wp_walk
   rw[ec]
   exact ⟨plainId_quiet plain_eq_loop _,ih (i + 1) _ (by omega) hA hB ha hR⟩
theorem ZQ{la lb:Addr}{xs ys:Array Value}{na nb:Nat}{da db:Option Addr}{sa sb:Array (Option Value)}(hn:xs.size=ys.size) :
 MeetsIn P w (Builtin.«list.__eq__» ⟨[.ref la,.ref lb],[]⟩) (fun A R s=>s.heap.get? la=some { cls:=.type "list",dict:=da,data:=.seq xs na,slots:=sa }∧s.heap.get? lb=some { cls:=.type "list",dict:=db,data:=.seq ys nb,slots:=sb }∧
  (∀j (j1:j < xs.size) (j2:j < ys.size),EqIn P w A.in1 s xs[j] ys[j])∧R (.ok (.ret (.bool true))) s):=by
 intro A R s h
 obtain⟨hp,g,dr,tk,os⟩:=s
 obtain⟨oa,ob,ha,hR⟩:=h
 have sl:=AutoSeq1.sub_list_list
 have hne:¬(xs.size != ys.size)=true:=by simp[hn]
 wp_walk using aAG oa,aAG ob
 exact ⟨plainId_quiet plain_eq_loop _,ZS hn _ 0 _ rfl oa ob ha hR⟩
theorem ZP{la lb:Addr}{xs ys:Array Value}{na nb:Nat}{da db:Option Addr}{sa sb:Array (Option Value)}(hn:xs.size=ys.size) :
 MeetsIn P w (Builtin.«list.__ne__» ⟨[.ref la,.ref lb],[]⟩) (fun A R s=>s.heap.get? la=some { cls:=.type "list",dict:=da,data:=.seq xs na,slots:=sa }∧s.heap.get? lb=some { cls:=.type "list",dict:=db,data:=.seq ys nb,slots:=sb }∧
  (∀j (j1:j < xs.size) (j2:j < ys.size),EqIn P w A.in1 s xs[j] ys[j])∧R (.ok (.ret (.bool false))) s):=by
 intro A R s h
 obtain⟨hp,g,dr,tk,os⟩:=s
 obtain⟨oa,ob,ha,hR⟩:=h
 have sl:=AutoSeq1.sub_list_list
 have hne:¬(xs.size != ys.size)=true:=by simp[hn]
 wp_walk using aAG oa,aAG ob
 exact ⟨plainId_quiet plain_eq_loop _,ZR hn _ 0 _ rfl oa ob ha hR⟩
theorem RcIn.lists{la lb:Addr}{xs ys:Array Value}(hA:s.heap.IsList la xs)(hB:s.heap.IsList lb ys)(hn:xs.size=ys.size)(hu:A.units < cLine)
 (ha:∀j (j1:j < xs.size) (j2:j < ys.size),EqIn P w A.in1 s xs[j] ys[j]):RcIn P w A s (.ref la) (.ref lb):=fun E Q=>by
 obtain⟨⟨ca,da,ta,sa⟩,oa,ka,na,va⟩:=id hA
 obtain⟨⟨cb,db,tb,sb⟩,ob,kb,nb,vb⟩:=id hB
 simp only at ka va kb vb
 subst ka va kb vb
 have hT:s.TypeIs (.ref la) "list":=⟨_,oa,rfl⟩
 have hT2:s.TypeIs (.ref lb) "list":=⟨_,ob,rfl⟩
 refine ⟨fun q=>?_,fun q=>?_⟩
 · exact aBL (op:=.Eq) hT hT2 F.slot_list_eq (aCb F.slot_list_eq hT F.entry_list_eq (F.args_list_eq_2 _ _) (ZQ hn) ⟨oa,ob,ha,(fun z=>nomatch z),q⟩) hu
 · exact aBL (op:=.NotEq) hT hT2 F.slot_list_ne (aCb F.slot_list_ne hT F.entry_list_ne (F.args_list_ne_2 _ _) (ZP hn) ⟨oa,ob,ha,(fun z=>nomatch z),q⟩) hu
end
inductive EqV (H:Hp):Nat→V→V→Prop
 | data {n:Nat} {x y:V} {d:PyData}:Has H x d→Has H y d→SeqAt.shaped d=true→EqV H n x y
 | tab {n:Nat} {a b:Addr} {D:List (Str×Str)}:H a=some (.dK (dS D))→H b=some (.dK (dS D))→Z6 D D=true→EqV H n (.ref a) (.ref b)
 | lst {n:Nat} {a b:Addr} {xs ys:List V}:H a=some (.lst xs)→H b=some (.lst ys)→xs.length=ys.length→(∀(i:Nat) x y,xs[i]?=some x→ys[i]?=some y→EqV H n x y)→EqV H (n + 1) (.ref a) (.ref b)
section
variable{X:Cx}{pins:List (Addr×Obj)}{σ:St}{H:Hp}{s:Shared}
theorem Xu{n:Nat}{a b:Addr}{xs ys:List V}{A:Around}(I:Inv X pins σ H s)(ha:H a=some (.lst xs))(hb:H b=some (.lst ys))(hl:xs.length=ys.length)(hu:A.units < cLine)
 (he:∀(i:Nat) x y v u,xs[i]?=some x→ys[i]?=some y→RelV x v→RelV y u→EqIn X.prog X.w A.in1 s v u):RcIn X.prog X.w A s (.ref a) (.ref b):=by
 obtain⟨ia,na,ra,oa,_⟩:=I.lst ha
 obtain⟨ib,nb,rb,ob,_⟩:=I.lst hb
 have la:=ra.length
 have lb:=rb.length
 refine RcIn.lists (xs:=ia.toArray) (ys:=ib.toArray) ⟨_,oa,rfl,_,rfl⟩ ⟨_,ob,rfl,_,rfl⟩ (by simp;omega) hu fun j j1 j2=>?_
 have j1':j < ia.length:=by simpa using j1
 have j2':j < ib.length:=by simpa using j2
 obtain⟨x,hx,rx⟩:=MV (i:=j) (v:=ia[j]) ra (aAd j1')
 obtain⟨y,hy,ry⟩:=MV (i:=j) (v:=ib[j]) rb (aAd j2')
 have:=he j x y _ _ hx hy rx ry
 simpa using this
theorem YR(I:Inv X pins σ H s){n:Nat}{x y:V}(h:EqV H n x y):∀{A:Around} {v u:Value},RelV x v→RelV y u→A.units + n + 66 < cLine→EqIn X.prog X.w A s v u:=by
 induction h with
 | @data n x y d h1 h2 sh=>
   intro A v u rx ry hu
   obtain⟨as,r1⟩:=Kl I h1 rx
   obtain⟨bs,r2⟩:=Kl I h2 ry
   have e:=SeqAt.eqAt_reads d d A s v u as bs r1 r2 (SeqAt.canLay_of_shaped sh) (SeqAt.canLay_of_shaped sh) (SeqAt.room_of_shaped sh (by omega))
   rw[aB5 _ (Ys sh)] at e
   exact EqIn.of e
 | @tab n a b D h1 h2 hd=>
   intro A v u rx ry hu
   cases rx;cases ry
   refine RcIn.eqIn fun E Q=>?_
   obtain⟨_,na,va,ka,da⟩:=MA I.hok h1
   obtain⟨_,nb,vb,kb,db⟩:=MA I.hok h2
   have l1:=aAV ka
   have l2:=aAV kb
   have hd':(va.length == vb.length && D.all fun p=>decide (MD D p.1=some p.2))=true:=by
    rw[←l1,←l2,aBz,aDt]
    unfold Z6 at hd
    simpa using hd
   refine ⟨fun q=>keq_eq na nb da db (by omega) (fun _=>Nl kb ka) (by rw[hd'];exact q),fun q=>keq_ne na nb da db (by omega) (fun _=>Nl kb ka) (by rw[hd'];exact q)⟩
 | @lst n a b xs ys h1 h2 hl hs ih=>
   intro A v u rx ry hu
   cases rx;cases ry
   refine RcIn.eqIn (Xu (n:=n) I h1 h2 hl (by omega) fun i x y v u hx hy rx ry=>ih i x y hx hy rx ry ?_)
   show A.units + 1 + n + 66 < cLine
   omega
end
end L2
namespace L2
open PySem PySem.Spec PyProof.Rows PySem.W MeetsSeq MeetsSeq2 MeetsSeq3 SeqRoads2
open AutoSeq1 (wpAny_loadPart')
section
variable{P:Program}{w:World}{A:Around}{s:Shared}
theorem Yl{l b:Addr}{items items2:Array Value}{n n2:Nat}{dd dd2:Option Addr}{sl sl2:Array (Option Value)}(hn:items.size=items2.size) :
 MeetsIn P w (Builtin.«tuple.__eq__» ⟨[.ref l,.ref b],[]⟩) (fun A R s=>s.heap.get? l=some { cls:=.type "tuple",dict:=dd,data:=.seq items n,slots:=sl }∧s.heap.get? b=some { cls:=.type "tuple",dict:=dd2,data:=.seq items2 n2,slots:=sl2 }∧
  (∀j (j1:j < items.size) (j2:j < items2.size),EqIn P w A.in1 s items[j] items2[j])∧R (.ok (.ret (.bool true))) s):=
 .of_wp fun A R s h=>by
  obtain⟨hp,g,d,tk,os⟩:=s;obtain⟨hl,hb,he,h⟩:=h
  have f2:=AutoSeq1.sub_tuple_tuple
  have hZ:(items.toList.zip items2.toList).length=items.size:=by simp[hn]
  wp_walk using aAG hl,aAG hb,wpAny_forIn_list _ (fun LU b s'=>b.1=none∧s'=⟨hp,g,d,tk,os⟩∧∃i,LU=(items.toList.zip items2.toList).drop i) _
  case turn=>
   rintro⟨y,x⟩ LU b s' ⟨hb',rfl,i,hz⟩
   have hlt:i < (items.toList.zip items2.toList).length:=by
    rcases Nat.lt_or_ge i (items.toList.zip items2.toList).length with h' | h'
    · exact h'
    · rw[aCc h'] at hz;cases hz
   have h1:i < items.size:=hZ ▸ hlt
   have h2:i < items2.size:=by omega
   rw[List.drop_eq_getElem_cons hlt] at hz
   injection hz with hyx hrest
   have hy:y=items[i]:=by have:=aA2 Prod.fst hyx;simpa using this
   have hx:x=items2[i]:=by have:=aA2 Prod.snd hyx;simpa using this
   subst hy hx
   refine aAb (he i h1 h2 _ _ ?_)
   wp_walk
   exact ⟨rfl,rfl,i + 1,hrest⟩
  case fin=>
   rintro⟨b1,b2⟩ s' ⟨hb',rfl,i,hz⟩
   simp only at hb'
   subst hb'
   wp_walk
   exact ⟨_,rfl,by simpa [Builtin.Tuple.tupleCompareSizes,hn] using h⟩
  case h=>
   exact ⟨rfl,rfl,0,rfl⟩
theorem Yk{l b:Addr}{items items2:Array Value}{n n2:Nat}{dd dd2:Option Addr}{sl sl2:Array (Option Value)}(hn:items.size=items2.size) :
 MeetsIn P w (Builtin.«tuple.__ne__» ⟨[.ref l,.ref b],[]⟩) (fun A R s=>s.heap.get? l=some { cls:=.type "tuple",dict:=dd,data:=.seq items n,slots:=sl }∧s.heap.get? b=some { cls:=.type "tuple",dict:=dd2,data:=.seq items2 n2,slots:=sl2 }∧
  (∀j (j1:j < items.size) (j2:j < items2.size),EqIn P w A.in1 s items[j] items2[j])∧R (.ok (.ret (.bool false))) s):=
 .of_wp fun A R s h=>by
  obtain⟨hp,g,d,tk,os⟩:=s;obtain⟨hl,hb,he,h⟩:=h
  have f2:=AutoSeq1.sub_tuple_tuple
  have hZ:(items.toList.zip items2.toList).length=items.size:=by simp[hn]
  wp_walk using aAG hl,aAG hb,wpAny_forIn_list _ (fun LU b s'=>b.1=none∧s'=⟨hp,g,d,tk,os⟩∧∃i,LU=(items.toList.zip items2.toList).drop i) _
  case turn=>
   rintro⟨y,x⟩ LU b s' ⟨hb',rfl,i,hz⟩
   have hlt:i < (items.toList.zip items2.toList).length:=by
    rcases Nat.lt_or_ge i (items.toList.zip items2.toList).length with h' | h'
    · exact h'
    · rw[aCc h'] at hz;cases hz
   have h1:i < items.size:=hZ ▸ hlt
   have h2:i < items2.size:=by omega
   rw[List.drop_eq_getElem_cons hlt] at hz
   injection hz with hyx hrest
   have hy:y=items[i]:=by have:=aA2 Prod.fst hyx;simpa using this
   have hx:x=items2[i]:=by have:=aA2 Prod.snd hyx;simpa using this
   subst hy hx
   refine aAb (he i h1 h2 _ _ ?_)
   wp_walk
   exact ⟨rfl,rfl,i + 1,hrest⟩
  case fin=>
   rintro⟨b1,b2⟩ s' ⟨hb',rfl,i,hz⟩
   simp only at hb'
   subst hb'
   wp_walk
   exact ⟨_,rfl,by simpa [Builtin.Tuple.tupleCompareSizes,hn] using h⟩
  case h=>
   exact ⟨rfl,rfl,0,rfl⟩
theorem RcIn.tuples{la lb:Addr}{xs ys:Array Value}(hA:s.heap.IsTuple la xs)(hB:s.heap.IsTuple lb ys)(hn:xs.size=ys.size)(hu:A.units < cLine)
 (ha:∀j (j1:j < xs.size) (j2:j < ys.size),EqIn P w A.in1 s xs[j] ys[j]):RcIn P w A s (.ref la) (.ref lb):=fun E Q=>by
 obtain⟨⟨ca,da,ta,sa⟩,oa,ka,na,va⟩:=id hA
 obtain⟨⟨cb,db,tb,sb⟩,ob,kb,nb,vb⟩:=id hB
 simp only at ka va kb vb
 subst ka va kb vb
 have hT:s.TypeIs (.ref la) "tuple":=⟨_,oa,rfl⟩
 have hT2:s.TypeIs (.ref lb) "tuple":=⟨_,ob,rfl⟩
 refine ⟨fun q=>?_,fun q=>?_⟩
 · exact aBL (op:=.Eq) hT hT2 F.slot_tuple_eq (aCb F.slot_tuple_eq hT F.entry_tuple_eq (F.args_tuple_eq_2 _ _) (Yl hn) ⟨oa,ob,ha,(fun z=>nomatch z),q⟩) hu
 · exact aBL (op:=.NotEq) hT hT2 F.slot_tuple_ne (aCb F.slot_tuple_ne hT F.entry_tuple_ne (F.args_tuple_ne_2 _ _) (Yk hn) ⟨oa,ob,ha,(fun z=>nomatch z),q⟩) hu
end
inductive EqW (H:Hp):V→V→Prop
 | data {x y:V} {d:PyData}:Has H x d→Has H y d→SeqAt.shaped d=true→EqW H x y
 | tab {a b:Addr} {D:List (Str×Str)}:H a=some (.dK (dS D))→H b=some (.dK (dS D))→Z6 D D=true→EqW H (.ref a) (.ref b)
 | num {a b:Addr} {es:List (Str×Int)}:H a=some (.dK (Rv es))→H b=some (.dK (Rv es))→(es.map (·.1)).Nodup→EqW H (.ref a) (.ref b)
section
variable{X:Cx}{pins:List (Addr×Obj)}{σ:St}{H:Hp}{s:Shared}
theorem YQ(I:Inv X pins σ H s){x y:V}(h:EqW H x y){A:Around}{v u:Value}(rx:RelV x v)(ry:RelV y u)(hu:A.units + 66 < cLine):EqIn X.prog X.w A s v u:=by
 cases h with
 | data h1 h2 sh=>exact YR (n:=0) I (.data h1 h2 sh) rx ry (by omega)
 | tab h1 h2 hd=>exact YR (n:=0) I (.tab h1 h2 hd) rx ry (by omega)
 | num h1 h2 hn=>
   cases rx;cases ry
   refine RcIn.eqIn fun E Q=>?_
   obtain⟨_,na,va,ka,da⟩:=MA I.hok h1
   obtain⟨_,nb,vb,kb,db⟩:=MA I.hok h2
   have l1:=aAV ka
   have l2:=aAV kb
   have hl:(va.length == vb.length && true)=true:=by rw[←l1,←l2];simp
   exact ⟨fun q=>keq_eq na nb da db (by omega) (fun _=>Qc hn kb (fun _ h=>h) ka) (by rw[hl];exact q),fun q=>keq_ne na nb da db (by omega) (fun _=>Qc hn kb (fun _ h=>h) ka) (by rw[hl];exact q)⟩
theorem VL{a b:Addr}{xs ys:List V}{A:Around}(I:Inv X pins σ H s)(ha:H a=some (.tup xs))(hb:H b=some (.tup ys))(hl:xs.length=ys.length)(hu:A.units < cLine)
 (he:∀(i:Nat) x y v u,xs[i]?=some x→ys[i]?=some y→RelV x v→RelV y u→EqIn X.prog X.w A.in1 s v u):RcIn X.prog X.w A s (.ref a) (.ref b):=by
 obtain⟨ia,ra,ta,_⟩:=I.tuple (SqT.ofT ha)
 obtain⟨ib,rb,tb,_⟩:=I.tuple (SqT.ofT hb)
 have la:=ra.length
 have lb:=rb.length
 refine RcIn.tuples (xs:=ia.toArray) (ys:=ib.toArray) ta tb (by simp;omega) hu fun j j1 j2=>?_
 have j1':j < ia.length:=by simpa using j1
 have j2':j < ib.length:=by simpa using j2
 obtain⟨x,hx,rx⟩:=MV (i:=j) (v:=ia[j]) ra (aAd j1')
 obtain⟨y,hy,ry⟩:=MV (i:=j) (v:=ib[j]) rb (aAd j2')
 have:=he j x y _ _ hx hy rx ry
 simpa using this
def aao(neg:Bool):R2:=fun x y H Q=>∃(a b:Addr) (xs ys:List V),x=.ref a∧y=.ref b∧H a=some (.tup xs)∧H b=some (.tup ys)∧xs.length=ys.length∧(∀(i:Nat) x y,xs[i]?=some x→ys[i]?=some y→EqW H x y)∧Q (.bl (!neg)) H
theorem ZG{k:Nat}(hr:Room k X.A):Mu X (compareOp .Eq) (aao false):=by
 rintro pins s σ H x y v u Q I rx ry ⟨a,b,xs,ys,rfl,rfl,ha,hb,hl,he,q⟩
 cases rx;cases ry
 have hu:=hr.un
 exact (VL (A:=X.A) I ha hb hl (by omega) (fun i x y v u hx hy rx ry=>YQ I (he i x y hx hy) rx ry (by show X.A.units + 1 + 66 < _;omega)) _ _).1 ⟨.bl true,H,I,rfl,q⟩
theorem ZF{k:Nat}(hr:Room k X.A):Mu X (compareOp .NotEq) (aao true):=by
 rintro pins s σ H x y v u Q I rx ry ⟨a,b,xs,ys,rfl,rfl,ha,hb,hl,he,q⟩
 cases rx;cases ry
 have hu:=hr.un
 exact (VL (A:=X.A) I ha hb hl (by omega) (fun i x y v u hx hy rx ry=>YQ I (he i x y hx hy) rx ry (by show X.A.units + 1 + 66 < _;omega)) _ _).2 ⟨.bl false,H,I,rfl,q⟩
end
end L2
namespace L2
open PySem PySem.Spec PyProof.Rows PySem.W
section
variable(CF CT CR CH XR:Addr)
def L0:Sp:=fun vs H Q E=>∃a l g k all n,vs=[.ref (FA.p a),.str n]∧FAt CF CT CR CH H a l g k all∧((n∈l∧Q .non H)∨(n∉l∧E (.ref XR) none H))
def Pl:Sp:=fun vs H Q E=>∃a l g k all n,vs=[.ref (FA.p a),.str n]∧FAt CF CT CR CH H a l g k all∧((n∈l∧Q (.ref (g n).p) H)∨(n∉l∧E (.ref XR) none H))
def KO:Sp:=fun vs H Q E=>∃a l g k all n,vs=[.ref (FA.p a),.str n]∧FAt CF CT CR CH H a l g k all∧((n∈l∧Q (.ref (g n).B.p) H)∨(n∉l∧E (.ref XR) none H))
def ND:Sp:=fun vs H Q E=>∃a l g k all n,vs=[.ref (FA.p a),.str n]∧FAt CF CT CR CH H a l g k all∧((n∈l∧∀q ys,H q=none→Ms (Hq H q (.lst ys)) ys (g n).h.heard→Q (.ref q) (Hq H q (.lst ys)))∨(n∉l∧E (.ref XR) none H))
def Pm:Sp:=fun vs H Q E=>∃a l g k all n,vs=[.ref (FA.p a),.str n]∧FAt CF CT CR CH H a l g k all∧((n∈l∧∀q,H q=none→Q (.ref q) (Hq H q (.lst ((g n).h.lost.map V.int))))∨(n∉l∧E (.ref XR) none H))
def Pk:Sp:=fun vs H Q E=>∃a l g k all n,vs=[.ref (FA.p a),.str n]∧FAt CF CT CR CH H a l g k all∧((n∈l∧∀q ys,H q=none→Ms (Hq H q (.lst ys)) ys (g n).s.rows→Q (.ref q) (Hq H q (.lst ys)))∨(n∉l∧E (.ref XR) none H))
def O1:Sp:=fun vs H Q E=>∃a l g k all n,vs=[.ref (FA.p a),.str n]∧FAt CF CT CR CH H a l g k all∧((n∈l∧Q (.int (LV all (g n))) H)∨(n∉l∧E (.ref XR) none H))
def NE:Sp:=fun vs H Q E=>∃a l g k all n,vs=[.ref (FA.p a),.str n]∧FAt CF CT CR CH H a l g k all∧((n∈l∧∀H',FAt CF CT CR CH H' a (l.filter fun m=>decide (m≠n)) g k all→Stp (a.fp l g) H (a.fp (l.filter fun m=>decide (m≠n)) g) H'→Q .non H')∨(n∉l∧E (.ref XR) none H))
def O0:Sp:=fun vs H Q E=>∃a l g k all n sz way,vs=[.ref (FA.p a),.str n,.int sz,.str way]∧FAt CF CT CR CH H a l g k all∧((n∉l∧l.length < 100∧
 ∀e H',FAt CF CT CR CH H' a (l ++ [n]) (Lj g n e) k all→FE.sz e=sz→e.way=way→e.s=⟨[],[],false⟩→e.h=Ot→Stp (a.fp l g) H (a.fp (l ++ [n]) (Lj g n e)) H'→Q .non H')∨(n∈l∧E (.ref XR) none H))
end
end L2
namespace L2
open PySem PySem.Spec PyProof.Rows PySem.W
section
variable{X:Cx}{pins:List (Addr×Obj)}{σ:St}{H:Hp}{s:Shared}{A:Around}{E:Value→Shared→Prop}{a:Addr}{vs:List Value}{P:PySem.Fin→Shared→Prop}
theorem aaQ{n:Nat}(I:Inv X pins σ H s)(ho:s.heap.get? a=some (seqObj "list" vs.toArray n))(fa:J0 X pins H a)(h2:vs.length < 2)
 (h:∀(s':Shared) (c:Nat),Inv X pins σ H s'→s'.heap.get? a=some (seqObj "list" vs.toArray c)→P (.done (.ret .none)) s'):wpAny (model X.prog X.w) A (Builtin.«list.sort» ⟨[.ref a],[]⟩) P E s:=by
 obtain⟨e1,ho1⟩:∃e1,(s.heap.update a (Obj.mapSeq fun _=>(#[]:Array Value))).get? a=some (seqObj "list" #[] e1):=⟨_,aCv ho fun _=>#[]⟩
 have I1:=I.upd1 (t':=s.toks) (f:=fun _=>(#[]:Array Value)) fa
 have I2:Inv X pins σ H { s with heap:=(s.heap.update a (Obj.mapSeq fun _=>(#[]:Array Value))).push (seqObj "tuple" vs.toArray 0) }:=I1.kept (t':=s.toks) fun b o e=>aAe _ e
 have I3:Inv X pins σ H { s with heap:=((s.heap.update a (Obj.mapSeq fun _=>(#[]:Array Value))).push (seqObj "tuple" vs.toArray 0)).push (seqObj "list" #[] 0) }:=I2.kept (t':=s.toks) fun b o e=>aAe _ e
 have ho3:(((s.heap.update a (Obj.mapSeq fun _=>(#[]:Array Value))).push (seqObj "tuple" vs.toArray 0)).push (seqObj "list" #[] 0)).get? a=some (seqObj "list" #[] e1):=aAe _ (aAe _ ho1)
 rw[list_sort_plain]
 refine aAb (listItems_at ho rfl ?_)
 refine aAb (aCo ho rfl ?_ (by rw[aAw,aAs];omega) (aAJ _))
 refine aAb (aDn ho1 rfl ?_)
 refine aAb (wpAny_newTuple ?_ (by show vs.length≤_;rw[aAs];omega))
 refine aAb (aBM ?_ (aAJ _))
 refine aA5 ?_
 generalize ((s.heap.update a (Obj.mapSeq fun _=>(#[]:Array Value))).push (seqObj "tuple" vs.toArray 0)).push (seqObj "list" #[] 0)=hp at I3 ho3
 show wpAny (model X.prog X.w) A _ P E { s with heap:=hp }
 dsimp only
 have h2':vs.toArray.size < 2:=by rw[aAw];exact h2
 rw[aAE h2',aAE h2']
 refine aAb (aAm ?_)
 rw[StateT.run_pure]
 refine aAb (aAm ?_)
 obtain⟨st,hst⟩:∃st,st=SortSt.mk' general' (vs.toArray.zip vs.toArray) #[] 7 none:=⟨_,rfl⟩
 have ha:(arrOf st).map (·.2)=vs.toArray:=by
  subst hst
  show (vs.toArray.zip vs.toArray).map (·.2)=vs.toArray
  apply Array.toList_inj.mp
  simp[List.map_snd_zip]
 have hf:failedOf st=none:=by subst hst;rfl
 obtain⟨c2,hc2⟩:∃c2,(hp.update a (Obj.mapSeq fun _=>vs.toArray)).get? a=some (seqObj "list" vs.toArray c2):=⟨_,aCv ho3 fun _=>vs.toArray⟩
 rw[←hst]
 dsimp only
 rw[ha,hf]
 refine aAb (aDn ho3 rfl ?_)
 refine aAb (aCo ho3 rfl ?_ (aAJ _) (by rw[aAw,aAs];omega))
 simp only[aC4,aAY,aBJ]
 exact aAm (h _ c2 (I3.upd1 (t':=s.toks) fa) hc2)
end
def Src1(K:W.Frag)(x:V)(H:Hp)(xs:List V):Prop:=(∃a,x=.ref a∧SqL K H a xs)∨∃d kvs,x=.ref d∧H d=some (.dK kvs)∧xs=kvs.map fun kv=>kV kv.1
def Xx(K:W.Frag):List V→Hp→VK→Prop:=fun us H Q=>∃x xs,us=[x]∧Src1 K x H xs∧xs.length < 2∧∀p,H p=none→Q (.ref p) (Hq H p (.lst xs))
section
variable{X:Cx}
theorem Src1.coll{x:V}{H:Hp}{xs:List V}(h:Src1 X.K x H xs):Uo X x H xs:=by
 rcases h with ⟨a,rfl,h⟩ | ⟨d,kvs,rfl,h,rfl⟩
 · exact Mp h
 · exact Od h
theorem Vm:Kr X (.builtin "sorted") (Xx X.K):=by
 intro pins s σ H us ws Q I r h
 obtain⟨x,xs,rfl,ha,h2,q⟩:=h
 obtain⟨u,rfl,ru⟩:=Q5 r
 refine aCm aDo aDh aDi (args_sorted1 _) ?_
 unfold Builtin.«sorted»
 refine aAb (m:=checkCount "sorted" 1 1 _) (aAm ?_)
 refine aAb (ha.coll pins s σ u _ _ _ I ru I.heldAt fun vs s1 rv I1=>?_)
 have hl:=rv.length
 refine aAb (aBM ?_ (by rw[aAs];omega))
 have I2:Inv X pins σ H { s1 with heap:=s1.heap.push (seqObj "list" vs.toArray 0) }:=I1.kept (t':=s1.toks) fun b o e=>aAe _ e
 have fD:J0 X pins H s1.heap.objs.size:=I1.fpOk (aAh _) (I1.hok.fresh (aAh _))
 have hoL:(s1.heap.push (seqObj "list" vs.toArray 0)).get? s1.heap.objs.size=some (seqObj "list" vs.toArray 0):=aAo _ rfl
 refine aAb (aA5 (aBy aC0 ⟨_,hoL,rfl⟩ aCR ?body (aDp _)))
 case body=>
  show wpAny (model X.prog X.w) X.A.in1.in1 (Builtin.«list.sort» ⟨[.ref s1.heap.objs.size],[]⟩) _ _ _
  refine aaQ I2 hoL fD (by omega) fun s' c I' ho'=>⟨_,rfl,?_⟩
  refine aAm ⟨_,rfl,.ref s1.heap.objs.size,Hq H s1.heap.objs.size (.lst xs),I'.track fD ⟨?_,_,c,rv,ho'⟩,rfl,q _ fD.1⟩
  rw[aAs];omega
theorem ZX(K:W.Frag)(h:X.K=K:=by rfl):Kr X (.builtin "sorted") (Xx K):=h ▸ Vm
end
theorem IR{p:List Value→Prop}(h:∀a,p [a]):∀us,us.length=1→p us
 | [a],_=>h a
theorem JT{p:List Value→Prop}(h:∀a b,p [a,b]):∀us,us.length=2→p us
 | [a,b],_=>h a b
theorem Qb{p:List Value→Prop}(h:∀a b c,p [a,b,c]):∀us,us.length=3→p us
 | [a,b,c],_=>h a b c
theorem acT{p:List Value→Prop}(h:∀a b c d,p [a,b,c,d]):∀us,us.length=4→p us
 | [a,b,c,d],_=>h a b c d
theorem acS{p:List Value→Prop}(h:∀a b c d e f,p [a,b,c,d,e,f]):∀us,us.length=6→p us
 | [a,b,c,d,e,f],_=>h a b c d e f
end L2
namespace L2
open PySem PySem.Spec PyProof.Rows PySem.W
theorem Room.h{k:Nat}{A:Around}(r:Room k A)(e:Value):Room k (A.mark (some e)):=⟨r.dp,r.un⟩
structure CalleeS(P:Program)(w:World)(K:W.Frag)(mg:Str→Option Value)(base:Heap)(k:Nat)(x:Str)(ps:List Str)(sp:Sp):Prop where
 ex:∃f fd,FnOkS P w K mg base Jg k f fd ps sp∧mg x=some (.ref f)∧W.keepIn K (.ref f)=true∧Binds K fd ps []
section
variable{X:Cx}{k:Nat}{x:Str}{ps:List Str}{sp:Sp}{e:Expr}{es:List Expr}{t:TA}{p pos:Pos}
theorem YY(C:CalleeS X.prog X.w X.K X.mg X.base k x ps sp)(hr:Room k X.A)(ha:PAt X e es t)(hc:X.calm=true:=by rfl)(hg:Gl X x:=by rfl)(hdb:(x == ("__debug__" : Str))=false:=by decide) :
 PE X (.Call (.Name x p) (e :: es) [] pos) (SW sp [] E0 t):=by
 obtain⟨f,fd,F,hm,hk,hb⟩:=C.ex
 intro pins s σ H Q I h
 refine aBi (Kv I hg hm ?_ hdb)
 refine aBQ (h₀:=X.base) I.ok.mod.kin hk (Ix (ha.all.pa pos pins s σ H _ I h) fun us s1 ⟨vs,H1,I1,r,q⟩=>⟨I1.kIn,?_⟩) (ha.all.he ha.tl) (by rw[ha.tl];exact JG _ _ _)
 have r2:Vals (vs ++ []) (us ++ []):=r.append .nil
 have hl:(us ++ []).length=ps.length:=by rw[←r2.length];exact F.len _ _ _ _ q
 refine aDf (aBU (F.run X.A X.stack s1 H1 ⟨us,[]⟩ (us ++ []) (vs ++ []) Q E0 (I1.ok.hd hc) hr I1.env0 (hb s1 us I1.kIn hl) r2 q) fun r s' hq=>?_)
 cases r with
 | error e=>exact False.elim hq
 | ok fl=>
   cases fl with
   | ret u=>exact I1.after hq
   | next=>exact False.elim hq
   | brk=>exact False.elim hq
   | cont=>exact False.elim hq
end
end L2
namespace K90
open PySem L2
def IF(i:Nat):Stmt:=PySem.Challenge.pw_tellroads_k90_again_and_shared.main.body.getD i (.Pass ⟨0,0,0,0⟩)
structure Txt(mg:Str→Option Value):Prop where
 b_len:mg "len" = none
 b_range:mg "range" = none
 b_list:mg "list" = none
 b_max:mg "max" = none
 b_min:mg "min" = none
 b_sum:mg "sum" = none
 b_sorted:mg "sorted" = none
 b_dict:mg "dict" = none
structure TxtC(K:W.Frag)(mg:Str→Option Value)(C CH:Addr):Prop where
 R_Sources:SourcesC K mg C
 R_Hearer:HearK K mg CH
section
variable{K:W.Frag}{mg:Str→Option Value}{C CH:Addr}(h:TxtC K mg C CH)
include h
theorem TxtC.cl_Sources:Cls K C:=h.R_Sources.cl_Sources
theorem TxtC.mg_Sources:mg "Sources" = some (.ref C):=h.R_Sources.mg_Sources
theorem TxtC.n_hearers:NoAttr K C "hearers":=h.R_Sources.n_hearers
theorem TxtC.n_story:NoAttr K C "story":=h.R_Sources.n_story
theorem TxtC.cl_Hearer:Cls K CH:=h.R_Hearer.cl_Hearer
theorem TxtC.mg_Hearer:mg "Hearer" = some (.ref CH):=h.R_Hearer.mg_Hearer
end
structure TxtB(K:W.Frag)(mg:Str→Option Value)(C CB:Addr):Prop where
 R_Relay:RelayC K mg C
 R_Hearer:HearB K mg CB
section
variable{K:W.Frag}{mg:Str→Option Value}{C CB:Addr}(h:TxtB K mg C CB)
include h
theorem TxtB.cl_Relay:Cls K C:=h.R_Relay.cl_Relay
theorem TxtB.mg_Relay:mg "Relay" = some (.ref C):=h.R_Relay.mg_Relay
theorem TxtB.n_keep:NoAttr K C "keep":=h.R_Relay.n_keep
theorem TxtB.mg_Hearer:mg "Hearer" = some (.ref CB):=h.R_Hearer.mg_Hearer
end
structure TxtF(K:W.Frag)(mg:Str→Option Value)(CF C CR CH:Addr):Prop where
 R_Fan:FanC K mg CF
 R_Teller:TellerC K mg C
 R_Road:RoadC K mg CR
 R_Hearer:HearK K mg CH
section
variable{K:W.Frag}{mg:Str→Option Value}{CF C CR CH:Addr}(h:TxtF K mg CF C CR CH)
include h
theorem TxtF.cl_Fan:Cls K CF:=h.R_Fan.cl_Fan
theorem TxtF.mg_Fan:mg "Fan" = some (.ref CF):=h.R_Fan.mg_Fan
theorem TxtF.cl_Teller:Cls K C:=h.R_Teller.cl_Teller
theorem TxtF.mg_Teller:mg "Teller" = some (.ref C):=h.R_Teller.mg_Teller
theorem TxtF.cl_Road:Cls K CR:=h.R_Road.cl_Road
theorem TxtF.mg_Road:mg "Road" = some (.ref CR):=h.R_Road.mg_Road
theorem TxtF.cl_Hearer:Cls K CH:=h.R_Hearer.cl_Hearer
theorem TxtF.mg_Hearer:mg "Hearer" = some (.ref CH):=h.R_Hearer.mg_Hearer
end
def Ov(ns:List Int)(k:Int):Int:=if ns=[] then 7 * k else ns.getD (k % (ns.length:Int)).toNat 0 + 6553 * (k / (ns.length:Int))
def V8(c k:Int):Int:=(c % 2147483563 * 69069 + 104723 * (k + 1)) % 2147483563
def ace(h:Int):Int:=(h * h + h / 3) % 2147483399
def acd(h m:Int):Int:=(h * h + h / 7) % 2147483647 / 11 % m
def Qo(ns:List Int)(k m:Int):Int:=acd (ace (V8 (Ov ns k) k)) m
theorem No(ns:List Int)(k:Int){m:Int}(h:0 < m):0≤Qo ns k m:=aCw _ (by omega)
theorem Qn(ns:List Int)(k:Int){m:Int}(h:0 < m):Qo ns k m < m:=aCy _ h
def Xp(K:W.Frag):Sp:=fun vs H Q _=>∃(a:Addr) (ns:List Int) (k:Int),vs=[.ref a,.int k]∧SqL K H a (ns.map V.int)∧ns.length≤63∧0≤k∧∀H',Same H H'→Q (.int (Ov ns k)) H'
def RX(K:W.Frag):Sp:=fun vs H Q _=>∃(a:Addr) (ns:List Int) (k m:Int),vs=[.ref a,.int k,.int m]∧SqL K H a (ns.map V.int)∧ns.length≤63∧0≤k∧0 < m∧∀H',Same H H'→Q (.int (Qo ns k m)) H'
section
variable{P:Program}{w:World}{K:W.Frag}{mg:Str→Option Value}{base:Heap}
abbrev Lm:Stmt:=IF 38
abbrev Y0:List Str:=["_law_script","_law_k"]
theorem Wm:FnScope Y0 ["_law_script","_law_k"] (GV Lm):=⟨rfl,rfl,rfl,by decide +kernel,rfl,by decide +kernel,by decide +kernel⟩
theorem Wt{f:Addr}{fd:FuncData}(F:Fun K "_law_cell" "_law_cell" Lm f fd)(T:Txt mg):FnOk P w K mg base Jg 1 f fd ["_law_script","_law_k"] (Xp K):=by
 refine F.ok Wm (fun vs H Q E h=>?_) (fun cdv A outer s H vs Q E hr h=>?_)
 · obtain⟨a,ns,k,rfl,_⟩:=h;rfl
 · obtain⟨a,ns,k,rfl,hS,hlen,hk,q⟩:=h
   refine ⟨_,(GX (IA (Hu (aav K hr.units0) (pv 0) (HJ GZ) (Hy _)) (G4 (Hh (Hx MJ G9 (pv 1)))) HP)
    (G4 (Hh (Hx JA (JM (KM K) (pv 0) (Hx NS (pv 1) (Ij (Jx K) (by rfl) T.b_len aBx (G0 (pv 0) GZ))) (fun _ _=>rfl)) (Hx MJ G9 (Hx O4 (pv 1) (Ij (Jx K) (by rfl) T.b_len aBx (G0 (pv 0) GZ)))))))),?_⟩
   refine ⟨_,rfl,by decide,fun p hp=>?_⟩
   have s1:Same H (Hq H p (.lst [])):=Same.new hp
   refine ⟨a,p,_,rfl,rfl,s1.seq hS,SqL.ofL GU,_,rfl,?_⟩
   refine Kk (fun he=>?_) (fun he=>?_)
   · have e:ns=[]:=by simpa using he
     refine ⟨_,rfl,_,_,rfl,rfl,.inl ⟨by decide,by decide⟩,?_⟩
     have z:=q _ s1
     unfold Ov at z
     rw[aAE e] at z
     exact z
   · have e:ns≠[]:=by simpa using he
     have hl:0 < ns.length:=List.length_pos_iff.mpr e
     refine ⟨_,rfl,_,rfl,_,rfl,a,_,rfl,.inl (s1.seq hS),_,_,rfl,rfl,?_,?_⟩
     · show (0:Int) < ((ns.map V.int).length:Int)
       rw[aAf];omega
     · have hlt:(k % (ns.length:Int)).toNat < ns.length:=by
        have h1:=aCw k (b:=(ns.length:Int)) (by omega)
        have h2:=aCy k (b:=(ns.length:Int)) (by omega)
        omega
       have hi:Vn (ns.map V.int) (k % ((ns.map V.int).length:Int))=some (V.int (ns.getD (k % (ns.length:Int)).toNat 0)):=by
        rw[aAf]
        have h1:=aCw k (b:=(ns.length:Int)) (by omega)
        have e2:k % (ns.length:Int)=((k % (ns.length:Int)).toNat:Int):=by omega
        rw[e2]
        refine SE ?_
        rw[aBn,aAH,aAd hlt]
        simp[List.getD,aAd hlt]
       refine ⟨a,_,_,_,rfl,rfl,s1.seq hS,hi,_,rfl,_,rfl,a,_,rfl,.inl (s1.seq hS),_,_,rfl,rfl,?_,_,_,rfl,rfl,.inl ⟨by decide,by decide⟩,_,_,rfl,rfl,?_⟩
       · show (0:Int) < ((ns.map V.int).length:Int)∧((ns.map V.int).length:Int) < 1073741824
         rw[aAf];omega
       · have z:=q _ s1
         unfold Ov at z
         rw[aAz e] at z
         show Q (.int (ns.getD (k % (ns.length:Int)).toNat 0 + 6553 * (k / ((ns.map V.int).length:Int)))) _
         rw[aAf]
         exact z
abbrev KH:Stmt:=IF 39
abbrev W5:List Str:=["_law_script","_law_k","_law_many","_law_cell_here"]
theorem sc_l_drawn:FnScope W5 ["_law_script","_law_k","_law_many"] (GV KH):=⟨rfl,rfl,rfl,by decide +kernel,rfl,by decide +kernel,by decide +kernel⟩
theorem UX{f:Addr}{fd:FuncData}(F:Fun K "_law_drawn" "_law_drawn" KH f fd)(T:Txt mg)(c_l_cell:Callee P w K mg base 1 "_law_cell" ["_law_script","_law_k"] (Xp K)) :
 FnOk P w K mg base Jg 2 f fd ["_law_script","_law_k","_law_many"] (RX K):=by
 refine F.ok sc_l_drawn (fun vs H Q E h=>?_) (fun cdv A outer s H vs Q E hr h=>?_)
 · obtain⟨a,ns,k,m,rfl,_⟩:=h;rfl
 · obtain⟨a,ns,k,m,rfl,hS,hlen,hk,hm,q⟩:=h
   refine ⟨_,(GX (Hs (i:=3) sc_l_drawn.nd rfl (Or.inl rfl) (Hx NS (Hx JA (Hx MJ (Hx NS (HE c_l_cell (hr.mono (by decide)) (G0 (pv 0) (GW (pv 1) GZ))) G9) G9) (Hx MJ G9 (Hx JA (pv 1) G9))) G9))
    (GX (Hs (i:=3) sc_l_drawn.nd rfl (Or.inl rfl) (Hx NS (Hx JA (Hx MJ (pv 3) (pv 3)) (Hx O4 (pv 3) G9)) G9))
    (G4 (Hh (Hx NS (Hx O4 (Hx NS (Hx JA (Hx MJ (pv 3) (pv 3)) (Hx O4 (pv 3) G9)) G9) G9) (pv 2)))))),?_⟩
   refine ⟨_,rfl,_,rfl,a,ns,k,rfl,hS,hlen,hk,fun H1 s1=>?_⟩
   have b1:∀x:Int,0≤x % 2147483563∧x % 2147483563 < 2147483563:=fun x=>⟨aCw _ (by decide),aCy _ (by decide)⟩
   have b2:∀x:Int,0≤x % 2147483399∧x % 2147483399 < 2147483399:=fun x=>⟨aCw _ (by decide),aCy _ (by decide)⟩
   refine ⟨_,_,rfl,rfl,(by decide:(0:Int) < 2147483563),_,_,rfl,rfl,.inr ⟨by decide,by decide⟩,_,rfl,_,_,rfl,rfl,_,_,rfl,rfl,.inl ⟨by decide,by decide⟩,_,_,rfl,rfl,_,_,rfl,rfl,(by decide:(0:Int) < 2147483563),?_⟩
   have c1:=b1 (Ov ns k % 2147483563 * 69069 + 104723 * (k + 1))
   refine ⟨_,rfl,_,rfl,_,_,rfl,rfl,.inl ⟨?_,?_⟩,_,rfl,_,_,rfl,rfl,⟨by decide,by decide⟩,_,_,rfl,rfl,_,_,rfl,rfl,(by decide:(0:Int) < 2147483399),?_⟩
   · exact Int.lt_of_lt_of_le (by decide) c1.1
   · exact Int.lt_trans c1.2 (by decide)
   have c2:=b2 (V8 (Ov ns k) k * V8 (Ov ns k) k + V8 (Ov ns k) k / 3)
   refine ⟨_,rfl,_,rfl,_,_,rfl,rfl,.inl ⟨?_,?_⟩,_,rfl,_,_,rfl,rfl,⟨by decide,by decide⟩,_,_,rfl,rfl,_,_,rfl,rfl,(by decide:(0:Int) < 2147483647),_,_,rfl,rfl,⟨by decide,by decide⟩,_,rfl,_,_,rfl,rfl,hm,?_⟩
   · exact Int.lt_of_lt_of_le (by decide) c2.1
   · exact Int.lt_trans c2.2 (by decide)
   exact q H1 s1
end
section
variable{P:Program}{w:World}{K:W.Frag}{mg:Str→Option Value}{base:Heap}
abbrev JU:Stmt:=IF 8
abbrev Uh:List Str:=["message"]
theorem R0:FnScope Uh ["message"] (GV JU):=⟨rfl,rfl,rfl,by decide +kernel,rfl,by decide +kernel,by decide +kernel⟩
theorem Se{f:Addr}{fd:FuncData}(F:Fun K "number_of" "number_of" JU f fd):FnOk P w K mg base Jg 1 f fd ["message"] (Jz 0):=by
 refine F.ok R0 (fun vs H Q E h=>?_) (fun cdv A outer s H vs Q E hr h=>?_)
 · obtain⟨a,x,y,z,rfl,_⟩:=h;rfl
 · obtain⟨a,x,y,z,rfl,h1,q⟩:=h
   refine ⟨_,(G4 (Hh (JM (Jd K) (pv 0) G9 (fun _ _=>rfl)))),?_⟩
   exact ⟨_,rfl,a,_,0,x,rfl,rfl,SqT.ofT h1,rfl,q⟩
abbrev Kc:Stmt:=IF 9
abbrev Vq:List Str:=["message"]
theorem S8:FnScope Vq ["message"] (GV Kc):=⟨rfl,rfl,rfl,by decide +kernel,rfl,by decide +kernel,by decide +kernel⟩
theorem Ts{f:Addr}{fd:FuncData}(F:Fun K "topic_of" "topic_of" Kc f fd):FnOk P w K mg base Jg 1 f fd ["message"] (Jz 1):=by
 refine F.ok S8 (fun vs H Q E h=>?_) (fun cdv A outer s H vs Q E hr h=>?_)
 · obtain⟨a,x,y,z,rfl,_⟩:=h;rfl
 · obtain⟨a,x,y,z,rfl,h1,q⟩:=h
   refine ⟨_,(G4 (Hh (JM (Jd K) (pv 0) G9 (fun _ _=>rfl)))),?_⟩
   exact ⟨_,rfl,a,_,1,y,rfl,rfl,SqT.ofT h1,rfl,q⟩
abbrev JF:Stmt:=IF 11
abbrev Ow:List Str:=["messages","topics"]
theorem RZ:FnScope Ow ["messages","topics"] (GV JF):=⟨rfl,rfl,rfl,by decide +kernel,rfl,by decide +kernel,by decide +kernel⟩
theorem Sd{f:Addr}{fd:FuncData}(F:Fun K "of_topics" "of_topics" JF f fd)(T:Txt mg)(c_topic_of:Callee P w K mg base 1 "topic_of" ["message"] (Jz 1)) :
 FnOk P w K mg base Jg 2 f fd ["messages","topics"] (S4 K):=by
 refine F.ok RZ (fun vs H Q E h=>?_) (fun cdv A outer s H vs Q E hr h=>?_)
 · obtain⟨a,xs,ms,tv,ts,rfl,_⟩:=h;rfl
 · obtain⟨a,xs,ms,tv,ts,rfl,ha,hm,hlen,ht,q⟩:=h
   refine ⟨_,(GX (IA (Hu aa3 (pv 1) NP (Hy _)) (G4 (Hh (ID (IP K) (by rfl) T.b_list aAN (G0 (pv 0) GZ)))) HP)
    (G4 (Hh (Km (N':=["message","topics"]) (ix:=[none,some 1]) (own:=[0]) rfl (LA (osc:=GV JF) (ON:=Ow) rfl rfl (by decide +kernel)) (by decide) (HQ K (pv 0)) (fun _ _ _ _=>(Hn (i:=0) (show (["message","topics"]:List Str).Nodup by decide +kernel) rfl (Or.inl rfl))) Jb (fun _ _ _ _=>(KR (Hu (Yy K) (HE c_topic_of (hr.mono (by decide)) (G0 (pv 0) GZ)) (pv 1) (by with_unfolding_all rfl)))) (fun _ _ _ _=>(pv 0)))))),?_⟩
   refine ⟨_,rfl,rfl,_,rfl,?_⟩
   rcases ht with ⟨rfl,rfl⟩ | ⟨b,l,rfl,hb,rfl⟩
   · refine Kk (fun _=>?_) (fun h=>absurd (aAD rfl) h)
     refine ⟨_,rfl,a,xs,rfl,.inl (SqL.ofL ha),fun p hp=>?_⟩
     exact q p xs _ (Same.new hp) hp GU (hm.same (Same.new hp))
   · refine Kk (fun h=>absurd (aAI h) (by simp)) (fun _=>?_)
     refine ⟨_,rfl,a,rfl,⟨xs,SqL.ofL ha⟩,ms.length,fun i ys H2=>Same H H2∧Ms H2 ys ((ms.take i).filter fun m=>decide (m.t∈l)),(by rw[aAs];omega),⟨Same.refl _,Ms.nil⟩,?_,?_⟩
     · rintro i ys H2 hi ⟨s2,hy⟩
       obtain⟨c,ec,hc⟩:=(hm.same s2).get hi
       refine ⟨⟨xs,.ref c,SqL.ofL (s2 _ _ ha),ec⟩,?_⟩
       rintro x H3 ⟨rfl,hx⟩
       have hx':=hx xs (SqL.ofL (s2 _ _ ha))
       rw[ec] at hx'
       obtain rfl:=aAi hx'
       refine HN ?_
       refine ⟨_,rfl,c,_,_,_,rfl,hc,_,rfl,b,l.map V.str,rfl,.inl (s2.seq hb),rfl,Rx l,_,rfl,?_⟩
       have e:(if false=true then !W9 (.str ms[i].t) (l.map V.str) else W9 (.str ms[i].t) (l.map V.str))=decide (ms[i].t∈l):=V3 _ l
       refine Kk (fun h=>?_) (fun h=>?_)
       · refine ⟨_,rfl,s2,?_⟩
         have h':decide (ms[i].t∈l)=true:=e.symm.trans h
         rw[Nn hi,aAE h']
         exact hy.append (Ms.one hc)
       · refine ⟨s2,?_⟩
         have h':¬decide (ms[i].t∈l)=true:=fun z=>h (e.trans z)
         rw[Nn hi,aAz h',aBl]
         exact hy
     · rintro ys H2 ⟨s2,hy⟩
       refine ⟨⟨xs,SqL.ofL (s2 _ _ ha),by rw[hm.len];exact aAh _⟩,fun D hD=>?_⟩
       rw[aAW] at hy
       exact q D ys _ (s2.trans (Same.new hD)) (s2.free hD) GU (hy.same (Same.new hD))
abbrev HD:Stmt:=IF 12
abbrev Ka:List Str:=["messages","number"]
theorem Ll:FnScope Ka ["messages","number"] (GV HD):=⟨rfl,rfl,rfl,by decide +kernel,rfl,by decide +kernel,by decide +kernel⟩
theorem Lu{f:Addr}{fd:FuncData}(F:Fun K "with_greater_numbers" "with_greater_numbers" HD f fd)(T:Txt mg)(c_number_of:Callee P w K mg base 1 "number_of" ["message"] (Jz 0)) :
 FnOk P w K mg base Jg 2 f fd ["messages","number"] Mf:=by
 refine F.ok Ll (fun vs H Q E h=>?_) (fun cdv A outer s H vs Q E hr h=>?_)
 · obtain⟨a,xs,ms,n,rfl,_⟩:=h;rfl
 · obtain⟨a,xs,ms,n,rfl,ha,hm,hlen,q⟩:=h
   refine ⟨_,(G4 (Hh (Km (N':=["message","number"]) (ix:=[none,some 1]) (own:=[0]) rfl (LA (osc:=GV HD) (ON:=Ka) rfl rfl (by decide +kernel)) (by decide) (HQ K (pv 0)) (fun _ _ _ _=>(Hn (i:=0) (show (["message","number"]:List Str).Nodup by decide +kernel) rfl (Or.inl rfl))) Jb (fun _ _ _ _=>(KR (Hu Tp (HE c_number_of (hr.mono (by decide)) (G0 (pv 0) GZ)) (pv 1) (Hy _)))) (fun _ _ _ _=>(pv 0))))),?_⟩
   refine ⟨_,rfl,a,rfl,⟨xs,SqL.ofL ha⟩,ms.length,fun i ys H2=>Same H H2∧Ms H2 ys ((ms.take i).filter fun m=>decide (m.n > n)),(by rw[aAs];omega),⟨Same.refl _,Ms.nil⟩,?_,?_⟩
   · rintro i ys H2 hi ⟨s2,hy⟩
     obtain⟨c,ec,hc⟩:=(hm.same s2).get hi
     refine ⟨⟨xs,.ref c,SqL.ofL (s2 _ _ ha),ec⟩,?_⟩
     rintro x H3 ⟨rfl,hx⟩
     have hx':=hx xs (SqL.ofL (s2 _ _ ha))
     rw[ec] at hx'
     obtain rfl:=aAi hx'
     refine HN ?_
     refine ⟨_,rfl,c,_,_,_,rfl,hc,_,rfl,_,_,rfl,rfl,_,rfl,?_⟩
     refine Kk (fun h=>?_) (fun h=>?_)
     · refine ⟨_,rfl,s2,?_⟩
       rw[Nn hi,aAE h]
       exact hy.append (Ms.one hc)
     · refine ⟨s2,?_⟩
       rw[Nn hi,aAz h,aBl]
       exact hy
   · rintro ys H2 ⟨s2,hy⟩
     refine ⟨⟨xs,SqL.ofL (s2 _ _ ha),by rw[hm.len];exact aAh _⟩,fun D hD=>?_⟩
     rw[aAW] at hy
     exact q D ys _ (s2.trans (Same.new hD)) (s2.free hD) GU (hy.same (Same.new hD))
abbrev JV:Stmt:=IF 13
abbrev Ui:List Str:=["messages","newest","message"]
theorem sc_last_ones:FnScope Ui ["messages"] (GV JV):=⟨rfl,rfl,rfl,by decide +kernel,rfl,by decide +kernel,by decide +kernel⟩
theorem Sf{f:Addr}{fd:FuncData}(F:Fun K "last_ones" "last_ones" JV f fd)(T:Txt mg)(c_number_of:Callee P w K mg base 1 "number_of" ["message"] (Jz 0))(c_topic_of:Callee P w K mg base 1 "topic_of" ["message"] (Jz 1)) :
 FnOk P w K mg base Jg 4 f fd ["messages"] RP:=by
 refine F.ok sc_last_ones (fun vs H Q E h=>?_) (fun cdv A outer s H vs Q E hr h=>?_)
 · obtain⟨a,xs,ms,rfl,_⟩:=h;rfl
 · obtain⟨a,xs,ms,rfl,ha,hm,hlen,hd,q⟩:=h
   refine ⟨_,(GX (Hs (i:=1) sc_last_ones.nd rfl (Or.inl rfl) JN)
    (GX (J5 aBc rfl (HQ K (V1 K c_number_of (hr.mono (by decide)) rfl (pv 0) T.b_sorted)) (Hn (i:=2) sc_last_ones.nd rfl (Or.inl rfl)) (G4 (J6 (Jk hr) (pv 1) (HE c_topic_of (hr.mono (by decide)) (G0 (pv 2) GZ)) (pv 2) rfl)))
    (G4 (Hh (V1 K c_number_of (hr.mono (by decide)) rfl (TY K aBD aBY aCp N3 (pv 1)) T.b_sorted))))),?_⟩
   intro d hdn
   have s1:=Same.new (o:=.dK []) hdn
   refine ⟨_,rfl,xs,ms.map (·.n),.inl ⟨a,rfl,SqL.ofL (s1 _ _ ha)⟩,by rw[hm.len];exact hlen,(hm.same s1).num,fun ys ps hsb hps=>?_⟩
   obtain⟨ns,hns,hperm,hrise⟩:=Re hm hsb hd
   have s2:=s1.trans (Same.new (o:=.lst ys) hps)
   have hdp:d≠ps:=fun e=>by rw[←e,GU] at hps;cases hps
   refine ⟨ps,rfl,⟨ys,SqL.ofL GU⟩,JR (K:=K) (a:=ps) (xs:=ys) (fun i σ H2=>∃o kvs,σ=[some (.ref a),some (.ref d),o]∧Same H H2∧H2 ps=some (.lst ys)∧H2 d=some (.dK kvs)∧DM H kvs (JK (ns.take i)))
    ⟨none,[],rfl,s2,GU,by rw[GY hdp];exact GU,.nil⟩ (fun i σ H2 _ ⟨_,_,_,_,h,_⟩=>SqL.ofL h) ?_ ?_⟩
   · rintro i x σ H2 hi ⟨o,kvs,rfl,s3,h1,h2,hdm⟩
     have hil:i < ns.length:=by rw[←hns.len];exact (aAn.mp hi).1
     obtain⟨c,ec,hc⟩:=hns.get hil
     rw[hi] at ec
     obtain rfl:=aAi ec
     refine HN ?_
     have hkl:kvs.length < sizeLine:=by
      have h1:=LH (ns.take i)
      have h2:=hperm.length_eq
      rw[aAM] at h1
      rw[hdm.len,aAs]
      omega
     refine ⟨_,rfl,_,rfl,_,rfl,c,_,_,_,rfl,s3 _ _ hc,d,_,rfl,DPut.k (k:=Sum.inr ns[i].t) h2 hkl,?_⟩
     refine ⟨_,_,rfl,s3.put hdn,?_,GU,?_⟩
     · rw[GY (aBg hdp)];exact h1
     · rw[aAF,aAd hil]
       show DM H _ (JK (ns.take i ++ [ns[i]]))
       rw[L9]
       exact hdm.put _ (J8 hc)
   · rintro σ H2 ⟨o,kvs,rfl,s3,h1,h2,hdm⟩
     rw[hns.len,aAW] at hdm
     refine ⟨_,rfl,.inr (.inr (.inl ⟨rfl,.inl ⟨kvs,h2⟩⟩)),d,kvs,rfl,rfl,h2,fun pv hpv=>?_⟩
     have s4:=Same.new (o:=K0 pv d) hpv
     have hnl:(JK ns).length < 64:=by
      have h1:=LH ns
      have h2:=hperm.length_eq
      omega
     refine ⟨kvs.map (·.2),((JK ns).map (·.2)).map (·.n),.inr ⟨pv,d,kvs,rfl,GU,s4 _ _ h2,rfl⟩,by rw[aAf,hdm.len];exact hnl,(hdm.ms.same (s3.trans s4)).num,fun ys2 p2 hsb2 hp2=>?_⟩
     have hdn':=On hrise
     obtain⟨ls,hls,hlp,hlr⟩:=Re hdm.ms hsb2 hdn'
     have s5:=(s3.trans s4).trans (Same.new (o:=.lst ys2) hp2)
     refine q p2 ys2 ls _ s5 ((s3.trans s4).free hp2) GU (hls.same s5) ⟨hlr,fun m=>?_⟩
     rw[hlp.mem_iff,J9 hrise]
     exact Top.perm hperm
abbrev KA:Stmt:=IF 10
abbrev WY:List Str:=["message"]
theorem UF:FnScope WY ["message"] (GV KA):=⟨rfl,rfl,rfl,by decide +kernel,rfl,by decide +kernel,by decide +kernel⟩
theorem UQ{f:Addr}{fd:FuncData}(F:Fun K "text_of" "text_of" KA f fd):FnOk P w K mg base Jg 1 f fd ["message"] (Jz 2):=by
 refine F.ok UF (fun vs H Q E h=>?_) (fun cdv A outer s H vs Q E hr h=>?_)
 · obtain⟨a,x,y,z,rfl,_⟩:=h;rfl
 · obtain⟨a,x,y,z,rfl,h1,q⟩:=h
   refine ⟨_,(G4 (Hh (JM (Jd K) (pv 0) G9 (fun _ _=>rfl)))),?_⟩
   exact ⟨_,rfl,a,_,2,z,rfl,rfl,SqT.ofT h1,rfl,q⟩
abbrev Ke:Stmt:=IF 14
abbrev Vs:List Str:=["messages","state","message"]
theorem sc_state_of:FnScope Vs ["messages"] (GV Ke):=⟨rfl,rfl,rfl,by decide +kernel,rfl,by decide +kernel,by decide +kernel⟩
theorem Tu{f:Addr}{fd:FuncData}(F:Fun K "state_of" "state_of" Ke f fd)(T:Txt mg)(c_last_ones:Callee P w K mg base 4 "last_ones" ["messages"] RP)(c_topic_of:Callee P w K mg base 1 "topic_of" ["message"] (Jz 1))(c_text_of:Callee P w K mg base 1 "text_of" ["message"] (Jz 2)) :
 FnOk P w K mg base Jg 5 f fd ["messages"] RL:=by
 refine F.ok sc_state_of (fun vs H Q E h=>?_) (fun cdv A outer s H vs Q E hr h=>?_)
 · obtain⟨a,xs,ms,rfl,_⟩:=h;rfl
 · obtain ⟨a,xs,ms,rfl,ha,hm,hlen,hd,q⟩:=h
   refine ⟨_,(GX (Hs (i:=1) sc_state_of.nd rfl (Or.inl rfl) JN)
    (GX (J5 aBc rfl (HQ K (HE c_last_ones (hr.mono (by decide)) (G0 (pv 0) GZ))) (Hn (i:=2) sc_state_of.nd rfl (Or.inl rfl)) (G4 (J6 (Jk hr) (pv 1) (HE c_topic_of (hr.mono (by decide)) (G0 (pv 2) GZ)) (HE c_text_of (hr.mono (by decide)) (G0 (pv 2) GZ)) rfl)))
    (G4 (Hh (pv 1))))),?_⟩
   intro d hdn
   have s1:=Same.new (o:=.dK []) hdn
   refine ⟨_,rfl,a,xs,ms,rfl,s1 _ _ ha,hm.same s1,hlen,hd,fun p ys ls H1 sb hpn hp hls hl=>?_⟩
   have hdp:d≠p:=fun e=>by rw[←e,GU] at hpn;cases hpn
   have s2:=s1.trans sb
   have htop:=Nk hd hl
   have hll:ls.length≤ms.length:=by
    have nd:ls.Nodup:=(aA0.mp hl.1.diff).imp fun hne e=>hne (aA2 _ e)
    exact O5 nd fun m h=>((hl.2 m).mp h).1
   refine ⟨p,rfl,⟨ys,SqL.ofL hp⟩,JR (K:=K) (a:=p) (xs:=ys) (fun i σ H2=>∃o,σ=[some (.ref a),some (.ref d),o]∧Same H H2∧H2 p=some (.lst ys)∧H2 d=some (.dK (dS (Ku (ls.take i))))∧Ms H2 ys ls)
    ⟨none,rfl,s2,hp,sb _ _ GU,hls⟩ (fun i σ H2 _ ⟨_,_,_,h,_⟩=>SqL.ofL h) ?_ ?_⟩
   · rintro i x σ H2 hi ⟨o,rfl,s3,h1,h2,h3⟩
     have hil:i < ls.length:=by rw[←h3.len];exact (aAn.mp hi).1
     obtain⟨c,ec,hc⟩:=h3.get hil
     rw[hi] at ec
     obtain rfl:=aAi ec
     refine HN ?_
     have hkl:(dS (Ku (ls.take i))).length < sizeLine:=by
      rw[U3]
      unfold Ku
      rw[aAf,aAM,aAs]
      omega
     refine ⟨_,rfl,c,_,_,_,rfl,hc,_,rfl,_,rfl,c,_,_,_,rfl,hc,d,_,rfl,DPut.k (k:=Sum.inr ls[i].t) h2 hkl,?_⟩
     refine ⟨_,rfl,s3.put hdn,?_,?_,?_⟩
     · rw[GY (aBg hdp)];exact h1
     · rw [GU]
       have e:Ir (dS (Ku (ls.take i))) (Sum.inr ls[i].t) (V.str ls[i].x)=dS (Ku (ls.take (i + 1))):=by
        rw[abo,XD,aAF,aAd hil]
        · unfold Ku;rw[aAy];rfl
        · intro pr hpr e
          obtain⟨m,hm,rfl⟩:=aA6.mp hpr
          obtain⟨j,hj⟩:=List.mem_iff_getElem?.mp hm
          have hji:j < i:=by
           have:=(aAn.mp hj).1
           rw[aAM] at this;omega
          rw[List.getElem?_take_of_lt hji,aAd (by omega)] at hj
          have:=(aAZ.mp htop) j i (by rw[aAf];omega) (by rw[aAf];omega) hji
          rw[List.getElem_map,List.getElem_map,aAi hj] at this
          exact this e
       exact aA2 (fun z=>some (HO.dK z)) e
     · have:=h3.updD (o:=.dK (Ir (dS (Ku (ls.take i))) (Sum.inr ls[i].t) (V.str ls[i].x))) h2
       exact this
   · rintro σ H2 ⟨o,rfl,s3,h1,h2,h3⟩
     rw[h3.len,aAW] at h2
     exact ⟨_,rfl,q d ls _ s3 hdn h2 hl⟩
abbrev KI:Stmt:=IF 15
abbrev W6:List Str:=["numbers","gaps","place","first","last"]
theorem sc_gaps_in:FnScope W6 ["numbers"] (GV KI):=⟨rfl,rfl,rfl,by decide +kernel,rfl,by decide +kernel,by decide +kernel⟩
theorem UY{f:Addr}{fd:FuncData}(F:Fun K "gaps_in" "gaps_in" KI f fd)(T:Txt mg):FnOk P w K mg base Jg 1 f fd ["numbers"] Xo:=by
 refine F.ok sc_gaps_in (fun vs H Q E h=>?_) (fun cdv A outer s H vs Q E hr h=>?_)
 · obtain⟨a,ns,rfl,_⟩:=h;rfl
 · obtain⟨a,ns,rfl,ha,hlen,q⟩:=h
   refine ⟨_,(GX (Hs (i:=1) sc_gaps_in.nd rfl (Or.inl rfl) (HJ GZ))
    (GX (J5 aBc rfl (Rj (by rfl) T.b_range (HU G9 (HU (Ij (Jx K) (by rfl) T.b_len aBx (G0 (pv 0) GZ)) IE))) (Hn (i:=2) sc_gaps_in.nd rfl (Or.inl rfl)) (GX (Hs (i:=3) sc_gaps_in.nd rfl (Or.inl rfl) (Hx JA (JM (KM K) (pv 0) (Hx Kj (pv 2) G9) (fun _ _=>rfl)) G9))
    (GX (Hs (i:=4) sc_gaps_in.nd rfl (Or.inl rfl) (Hx Kj (JM (KM K) (pv 0) (pv 2) (fun _ _=>rfl)) G9))
    (G4 (IA (Hu abZ (pv 3) (pv 4) (Hy _)) (G4 (Hr (Mt K aAA aAP aAQ Jc (pv 1) (HU (Iw (GW (pv 3) (GW (pv 4) GZ))) IE)))) HP)))))
    (G4 (Hh (pv 1))))),?_⟩
   refine ⟨aAJ _,fun g hg=>?_⟩
   have s1:=Same.new (o:=.lst []) hg
   have hag:a≠g:=fun e=>by rw[←e,ha] at hg;cases hg
   have hl:(ns.map V.int).length=ns.length:=aAf _
   refine ⟨_,rfl,a,_,rfl,.inl (SqL.ofL (s1 _ _ ha)),1,_,rfl,⟨by decide,by decide,by rw[hl];omega,by rw[hl];omega⟩,?_⟩
   rw[hl,show (((ns.length:Int) - 1).toNat)=ns.length - 1 by omega]
   refine Oa (lo:=1) (n:=ns.length - 1) (fun i σ H2=>∃o1 o2 o3 ys,σ=[some (.ref a),some (.ref g),o1,o2,o3]∧Same H H2∧H2 g=some (.lst ys)∧HasL H2 ys ((MR ns i).map gD)∧ys.length≤i) ⟨none,none,none,[],rfl,s1,GU,HH,aAh _⟩ ?_ ?_
   · rintro i σ H2 hi ⟨o1,o2,o3,ys,rfl,s2,h1,h2,h3⟩
     refine HN ?_
     have hA:H2 a=some (.lst (ns.map V.int)):=s2 _ _ ha
     have g1:Vn (ns.map V.int) (1 + (i:Int) - 1)=some (V.int (ns.getD i 0)):=by
      rw[show 1 + (i:Int) - 1=((i:Nat):Int) by omega]
      refine SE ?_
      rw[aAH,aAd (by omega)]
      simp[List.getD,aAd (show i < ns.length by omega)]
     have g2:Vn (ns.map V.int) (1 + (i:Int))=some (V.int (ns.getD (i + 1) 0)):=by
      rw[show 1 + (i:Int)=((i + 1:Nat):Int) by omega]
      refine SE ?_
      rw[aAH,aAd (by omega)]
      simp[List.getD,aAd (show i + 1 < ns.length by omega)]
     refine ⟨_,rfl,_,rfl,_,_,rfl,rfl,a,_,_,_,rfl,rfl,SqL.ofL hA,g1,_,_,rfl,rfl,?_⟩
     refine ⟨_,rfl,_,rfl,a,_,_,_,rfl,rfl,SqL.ofL hA,g2,_,_,rfl,rfl,?_⟩
     refine ⟨_,rfl,_,rfl,_,_,rfl,rfl,_,rfl,?_⟩
     refine Kk (fun hc=>?_) (fun hc=>?_)
     · have hc':ns.getD i 0 + 1≤ns.getD (i + 1) 0 - 1:=aAI hc
       refine ⟨_,rfl,.inl ⟨rfl,_,SqL.ofL h1⟩,_,rfl,_,rfl,(show 2≤sizeLine by decide),fun c hcn=>?_⟩
       have s3:=Same.new (o:=.tup [.int (ns.getD i 0 + 1),.int (ns.getD (i + 1) 0 - 1)]) hcn
       have h1':=s3 _ _ h1
       refine ⟨g,ys,.ref c,rfl,rfl,h1',by rw[aAs];omega,?_⟩
       refine ⟨_,_,_,ys ++ [.ref c],rfl,(s2.trans s3).put hg,GU,?_,by rw[aAk,aAT];omega⟩
       show HasL _ _ (((MR ns i) ++ if ns.getD i 0 + 1≤ns.getD (i + 1) 0 - 1 then _ else _).map gD)
       rw[aAE hc',aAy]
       exact (HasL.updL h1' (TH _) (h2.same s3)).append (Hi (Has.updL h1' (by simp[JP,Ib,gD]) (XX (q:=(_,_)) GU)) HH)
     · have hc':¬ns.getD i 0 + 1≤ns.getD (i + 1) 0 - 1:=fun z=>hc (aAD z)
       refine ⟨_,_,_,ys,rfl,s2,h1,?_,by omega⟩
       show HasL _ _ (((MR ns i) ++ if ns.getD i 0 + 1≤ns.getD (i + 1) 0 - 1 then _ else _).map gD)
       rw[aAz hc',aBl]
       exact h2
   · rintro σ H2 ⟨o1,o2,o3,ys,rfl,s2,h1,h2,h3⟩
     rw[Vc] at h2
     exact ⟨_,rfl,q g ys _ s2 hg h1 h2⟩
abbrev Il:Stmt:=Hk (IF 21) 0
abbrev Nx:List Str:=["self","keep"]
theorem MG:FnScope Nx ["self","keep"] (GV Il):=⟨rfl,rfl,rfl,by decide +kernel,rfl,by decide +kernel,by decide +kernel⟩
theorem P2{f C:Addr}{fd:FuncData}(F:Fun K "__init__" "Teller.__init__" Il f fd)(TC:TellerC K mg C):FnOk P w K mg base Jg 1 f fd ["self","keep"] (OY C):=by
 refine F.ok MG (fun vs H Q E h=>?_) (fun cdv A outer s H vs Q E hr h=>?_)
 · obtain⟨p,dx,k,rfl,_⟩:=h;rfl
 · obtain⟨p,dx,k,rfl,hp,q⟩:=h
   refine ⟨_,(GX (HM K (pv 0) (pv 1) rfl)
    (GX (HM K (pv 0) G9 rfl)
    (GX (HM K (pv 0) G9 rfl)
    (GX (HM K (pv 0) (HJ GZ) rfl)
    (G4 (HM K (pv 0) JN rfl)))))),?_⟩
   have l1:=Iy "keep" (.int k) []
   have l2:=Iy "turn" (.int 0) (Hm "keep" (.int k) [])
   have l3:=Iy "total" (.int 0) (Hm "turn" (.int 0) (Hm "keep" (.int k) []))
   have l0:([]:List (Str×V)).length=0:=rfl
   refine ⟨_,rfl,_,rfl,p,C,dx,[],rfl,hp,TC.cl_Teller,TC.n_keep,(by show 0 < 1000;decide),?_⟩
   refine ⟨_,rfl,p,C,dx,_,rfl,GU,TC.cl_Teller,TC.n_turn,by omega,?_⟩
   refine ⟨_,rfl,p,C,dx,_,rfl,GU,TC.cl_Teller,TC.n_total,by omega,?_⟩
   refine ⟨aAJ _,fun s hs=>?_⟩
   have nps:p≠s:=G5 GU hs
   refine ⟨_,rfl,p,C,dx,_,rfl,(by rw[GY nps];exact GU),TC.cl_Teller,TC.n_stored,by omega,?_⟩
   intro d hd
   have npd:p≠d:=G5 GU hd
   have nsd:s≠d:=fun e=>by rw[←e,GY nps.symm,GU] at hd;cases hd
   have l4:=Iy "stored" (.ref s) (Hm "total" (.int 0) (Hm "turn" (.int 0) (Hm "keep" (.int k) [])))
   refine ⟨_,rfl,p,C,dx,_,rfl,(by rw[GY npd];exact GU),TC.cl_Teller,TC.n_newest,by omega,?_⟩
   rw[Zb]
   have Ot:H s=none:=by rw[GY nps.symm,GY nps.symm,GY nps.symm] at hs;exact hs
   have hd0:H d=none:=by rw[GY npd.symm,GY nsd.symm,GY npd.symm,GY npd.symm,GY npd.symm] at hd;exact hd
   refine q s d _ Ot hd0 ⟨⟨dx,GU⟩,⟨[],?_,(by unfold Im;rw[List.drop_nil];exact Ms.nil)⟩,⟨[],?_,.nil⟩⟩ fun b o e hb=>?_
   · rw[GY nps.symm,GY nsd,GY nps.symm,GU]
   · rw[GY npd.symm,GU]
   · rw[GY hb,GY (G5 e hd0),GY hb,GY (G5 e Ot),GY hb,GY hb,GY hb]
     exact e
abbrev Jp:Stmt:=Hk (IF 21) 1
abbrev QT:List Str:=["self","topic","text","message"]
theorem sc_Teller_tell:FnScope QT ["self","topic","text"] (GV Jp):=⟨rfl,rfl,rfl,by decide +kernel,rfl,by decide +kernel,by decide +kernel⟩
theorem PY{f C:Addr}{fd:FuncData}(F:Fun K "tell" "Teller.tell" Jp f fd)(T:Txt mg)(TC:TellerC K mg C):FnOk P w K mg base Jg 1 f fd ["self","topic","text"] (UB C):=by
 refine F.ok sc_Teller_tell (fun vs H Q E h=>?_) (fun cdv A outer s0 H vs Q E hr h=>?_)
 · obtain⟨p,t,x,k,r,all,s,d,rfl,_⟩:=h;rfl
 · obtain⟨p,t,x,k,r,all,s,d,rfl,TA,hlen,hk,q⟩:=h
   refine ⟨_,(GX (HM K (pv 0) (Hx JA (Ho K (pv 0) rfl) G9) rfl)
    (GX (Hs (i:=3) sc_Teller_tell.nd rfl (Or.inl rfl) (Iw (GW (Ho K (pv 0) rfl) (GW (pv 1) (GW (pv 2) GZ)))))
    (GX (J6 (Jk hr) (Ho K (pv 0) rfl) (pv 1) (pv 3) rfl)
    (GX (Hr (Mt K aAA aAP aAQ Jc (Ho K (pv 0) rfl) (HU (pv 3) IE)))
    (GX (IA (Hu Tp (Ij (Jx K) (by rfl) T.b_len aBx (G0 (Ho K (pv 0) rfl) GZ)) (Ho K (pv 0) rfl) (Hy _)) (G4 (Hr (Mt K aAA PySem.F.slot_list_pop PySem.F.type_list_pop Yg (Ho K (pv 0) rfl) (HU G9 IE)))) HP)
    (G4 (Hh (Ho K (pv 0) rfl)))))))),?_⟩
   obtain⟨⟨dx,h1⟩,⟨ys,hs,hms⟩,⟨kvs,hd,hdm⟩⟩:=id TA
   have nps:p≠s:=HY h1 hs (by intro z;cases z)
   have npd:p≠d:=HY h1 hd (by intro z;cases z)
   have nsd:s≠d:=HY hs hd (by intro z;cases z)
   have lF:∀n,(tF k r n s d).length < 1000:=fun n=>by show 5 < 1000;decide
   refine ⟨_,rfl,p,C,dx,_,_,rfl,h1,TC.cl_Teller,TC.n_total,Kn,_,_,rfl,rfl,_,rfl,p,C,dx,_,rfl,h1,TC.cl_Teller,TC.n_total,lF _,?_⟩
   rw[SU]
   have a1:Hq H p (.ins C dx (tF k r ((all.length:Int) + 1) s d)) p=some (.ins C dx (tF k r ((all.length:Int) + 1) s d)):=GU
   have a2:Hq H p (.ins C dx (tF k r ((all.length:Int) + 1) s d)) s=some (.lst ys):=by rw[GY nps.symm];exact hs
   have a3:Hq H p (.ins C dx (tF k r ((all.length:Int) + 1) s d)) d=some (.dK kvs):=by rw[GY npd.symm];exact hd
   have aB:But [p,s,d] H (Hq H p (.ins C dx (tF k r ((all.length:Int) + 1) s d))):=fun c o e hc=>by rw[GY (fun z=>hc (by rw[z];exact aAp))];exact e
   have aT:Tups H (Hq H p (.ins C dx (tF k r ((all.length:Int) + 1) s d))):=(Tups.refl H).put h1 (fun _ z=>by cases z)
   generalize Hq H p (.ins C dx (tF k r ((all.length:Int) + 1) s d))=Ha at a1 a2 a3 aB aT ⊢
   refine ⟨_,rfl,p,C,dx,_,_,rfl,a1,TC.cl_Teller,TC.n_total,Kn,_,rfl,_,rfl,(show 3≤sizeLine by decide),fun c hc=>?_⟩
   have sb:=Same.new (o:=.tup [.int ((all.length:Int) + 1),.str t,.str x]) hc
   have b1:=sb _ _ a1
   have b2:=sb _ _ a2
   have b3:=sb _ _ a3
   have bc:Hq Ha c (.tup [.int ((all.length:Int) + 1),.str t,.str x]) c=some (mT ⟨(all.length:Int) + 1,t,x⟩):=GU
   have bB:But [p,s,d] H _:=fun c' o e hc'=>sb _ _ (aB c' o e hc')
   have bT:=aT.trans sb.tups
   generalize Hq Ha c (.tup [.int ((all.length:Int) + 1),.str t,.str x])=Hb at b1 b2 b3 bc bB bT ⊢
   have hkl:kvs.length < sizeLine:=by
    have h1:=LH all
    rw[hdm.len,aAs]
    omega
   refine ⟨_,rfl,_,rfl,p,C,dx,_,_,rfl,b1,TC.cl_Teller,TC.n_newest,Q8,_,rfl,d,_,rfl,DPut.k (k:=Sum.inr t) b3 hkl,?_⟩
   have cT:Tups Hb (Hq Hb d (.dK (Ir kvs (Sum.inr t) (.ref c)))):=(Tups.refl Hb).put b3 (fun _ z=>by cases z)
   have c1:Hq Hb d (.dK (Ir kvs (Sum.inr t) (.ref c))) p=_:=(GY npd).trans b1
   have c2:Hq Hb d (.dK (Ir kvs (Sum.inr t) (.ref c))) s=_:=(GY nsd).trans b2
   have c3:Hq Hb d (.dK (Ir kvs (Sum.inr t) (.ref c))) d=some (.dK (Ir kvs (Sum.inr t) (.ref c))):=GU
   have cc:=cT _ _ bc
   have cB:But [p,s,d] H (Hq Hb d (.dK (Ir kvs (Sum.inr t) (.ref c)))):=fun c' o e hc'=>by rw[GY (fun z=>hc' (by rw[z];simp))];exact bB c' o e hc'
   have cTT:=bT.trans cT
   generalize Hq Hb d (.dK (Ir kvs (Sum.inr t) (.ref c)))=Hc at c1 c2 c3 cc cB cTT ⊢
   have hyl:=hms.len
   have hll:=Ly k all
   refine ⟨_,rfl,p,C,dx,_,_,rfl,c1,TC.cl_Teller,TC.n_stored,Kx,.inl ⟨rfl,_,SqL.ofL c2⟩,_,rfl,s,ys,.ref c,rfl,rfl,c2,by rw[aAs];omega,?_⟩
   have dT:Tups Hc (Hq Hc s (.lst (ys ++ [.ref c]))):=(Tups.refl Hc).put c2 (fun _ z=>by cases z)
   have d1:Hq Hc s (.lst (ys ++ [.ref c])) p=_:=(GY nps).trans c1
   have d2:Hq Hc s (.lst (ys ++ [.ref c])) s=some (.lst (ys ++ [.ref c])):=GU
   have d3:Hq Hc s (.lst (ys ++ [.ref c])) d=_:=(GY nsd.symm).trans c3
   have dc:=dT _ _ cc
   have dB:But [p,s,d] H (Hq Hc s (.lst (ys ++ [.ref c]))):=fun c' o e hc'=>by rw[GY (fun z=>hc' (by rw[z];simp))];exact cB c' o e hc'
   have dTT:=cTT.trans dT
   generalize Hq Hc s (.lst (ys ++ [.ref c]))=Hd at d1 d2 d3 dc dB dTT ⊢
   have mAll:Ms Hd (ys ++ [.ref c]) (Im k all ++ [⟨(all.length:Int) + 1,t,x⟩]):=(hms.tups dTT).append (Ms.one dc)
   have nAll:DM Hd (Ir kvs (Sum.inr t) (.ref c)) (JK (all ++ [⟨(all.length:Int) + 1,t,x⟩])):=by
    rw[L9]
    exact (hdm.tups dTT).put t (J8 dc)
   have eT:tF k r ((all.length:Int) + 1) s d=tF k r ((all ++ [(⟨(all.length:Int) + 1,t,x⟩:Msg)]).length:Int) s d:=by rw[aAk,aAT];rfl
   have elen:(((ys ++ [V.ref c]).length:Nat):Int)=(min all.length k.toNat:Nat) + 1:=by rw[aAk,aAT,hyl,hll];rfl
   refine ⟨_,rfl,p,C,dx,_,_,rfl,d1,TC.cl_Teller,TC.n_stored,Kx,s,_,rfl,.inl (SqL.ofL d2),_,rfl,p,C,dx,_,_,rfl,d1,TC.cl_Teller,TC.n_keep,Zc,_,_,rfl,rfl,_,rfl,?_⟩
   refine Kk (fun hg=>?_) (fun hg=>?_)
   · have hg':(((ys ++ [V.ref c]).length:Nat):Int) > k:=aAI hg
     have hfull:k.toNat≤all.length:=by omega
     obtain⟨y,yr,ey⟩:∃y yr,ys ++ [V.ref c]=y :: yr:=by
      cases ys with
      | nil=>exact ⟨_,_,rfl⟩
      | cons y yr=>exact ⟨_,_,rfl⟩
     have hix:seqIndex? 0 (ys ++ [V.ref c]).length=some 0:=by
      refine (V2 (j:=0) ?_).1
      unfold ZZ
      rw[aAE (by decide),aAE (by rw[ey,aAL];omega)]
      rfl
     refine ⟨_,rfl,p,C,dx,_,_,rfl,d1,TC.cl_Teller,TC.n_stored,Kx,.inl ⟨rfl,_,SqL.ofL d2⟩,s,_,0,0,y,rfl,rfl,d2,by decide,by decide,hix,by rw[ey];rfl,?_⟩
     have e1:Hq Hd s (.lst ((ys ++ [V.ref c]).eraseIdx 0)) p=_:=(GY nps).trans d1
     refine ⟨_,rfl,p,C,dx,_,_,rfl,e1,TC.cl_Teller,TC.n_total,Kn,?_⟩
     have eT2:Tups Hd (Hq Hd s (.lst ((ys ++ [V.ref c]).eraseIdx 0))):=(Tups.refl Hd).put d2 (fun _ z=>by cases z)
     refine q _ ⟨⟨dx,?_⟩,⟨_,GU,?_⟩,⟨_,(GY nsd.symm).trans d3,nAll.tups eT2⟩⟩ fun c' o e hc'=>?_
     · rw[←eT];exact e1
     · have ee:(ys ++ [V.ref c]).eraseIdx 0=(ys ++ [V.ref c]).drop 1:=by rw[ey];rfl
       rw[U4 hfull]
       rw[ee] at eT2 ⊢
       exact (mAll.drop 1).tups eT2
     · rw[GY (fun z=>hc' (by rw[z];simp))];exact dB c' o e hc'
   · have hg':¬(((ys ++ [V.ref c]).length:Nat):Int) > k:=fun z=>hg (aAD z)
     have hsm:all.length + 1≤k.toNat:=by omega
     refine ⟨_,rfl,p,C,dx,_,_,rfl,d1,TC.cl_Teller,TC.n_total,Kn,?_⟩
     refine q _ ⟨⟨dx,?_⟩,⟨_,d2,?_⟩,⟨_,d3,nAll⟩⟩ dB
     · rw[←eT];exact d1
     · rw[TR hsm];exact mAll
abbrev Jo:Stmt:=Hk (IF 21) 2
abbrev QS:List Str:=["self"]
theorem Pr:FnScope QS ["self"] (GV Jo):=⟨rfl,rfl,rfl,by decide +kernel,rfl,by decide +kernel,by decide +kernel⟩
theorem PX{f C:Addr}{fd:FuncData}(F:Fun K "told" "Teller.told" Jo f fd)(TC:TellerC K mg C):FnOk P w K mg base Jg 1 f fd ["self"] (UA C):=by
 refine F.ok Pr (fun vs H Q E h=>?_) (fun cdv A outer s0 H vs Q E hr h=>?_)
 · obtain⟨p,k,r,all,s,d,rfl,_⟩:=h;rfl
 · obtain⟨p,k,r,all,s,d,rfl,TA,q⟩:=h
   refine ⟨_,(G4 (Hh (Ho K (pv 0) rfl))),?_⟩
   obtain⟨dx,h1⟩:=TA.ob
   exact ⟨_,rfl,p,C,dx,_,_,rfl,h1,TC.cl_Teller,TC.n_total,Kn,q⟩
abbrev IH:Stmt:=Hk (IF 21) 4
abbrev OR:List Str:=["self"]
theorem NF:FnScope OR ["self"] (GV IH):=⟨rfl,rfl,rfl,by decide +kernel,rfl,by decide +kernel,by decide +kernel⟩
theorem NY{f C:Addr}{fd:FuncData}(F:Fun K "oldest" "Teller.oldest" IH f fd)(T:Txt mg)(TC:TellerC K mg C):FnOk P w K mg base Jg 1 f fd ["self"] (Pg C):=by
 refine F.ok NF (fun vs H Q E h=>?_) (fun cdv A outer s0 H vs Q E hr h=>?_)
 · obtain⟨p,k,r,all,s,d,rfl,_⟩:=h;rfl
 · obtain⟨p,k,r,all,s,d,rfl,TA,q⟩:=h
   refine ⟨_,(G4 (Hh (Hx JA (Hx Kj (Ho K (pv 0) rfl) (Ij (Jx K) (by rfl) T.b_len aBx (G0 (Ho K (pv 0) rfl) GZ))) G9))),?_⟩
   obtain⟨dx,h1⟩:=TA.ob
   obtain⟨ys,hs,hm⟩:=TA.st
   rw[←hm.len] at q
   exact ⟨_,rfl,p,C,dx,_,_,rfl,h1,TC.cl_Teller,TC.n_total,Kn,_,rfl,p,C,dx,_,_,rfl,h1,TC.cl_Teller,TC.n_stored,Kx,s,ys,rfl,.inl (SqL.ofL hs),_,_,rfl,rfl,_,_,rfl,rfl,q⟩
abbrev Jr:Stmt:=Hk (IF 21) 5
abbrev QV:List Str:=["self"]
theorem Pt:FnScope QV ["self"] (GV Jr):=⟨rfl,rfl,rfl,by decide +kernel,rfl,by decide +kernel,by decide +kernel⟩
theorem P0{f C:Addr}{fd:FuncData}(F:Fun K "last" "Teller.last" Jr f fd)(T:Txt mg)(TC:TellerC K mg C)(c_last_ones:Callee P w K mg base 4 "last_ones" ["messages"] RP):FnOk P w K mg base Jg 5 f fd ["self"] (RO C):=by
 refine F.ok Pt (fun vs H Q E h=>?_) (fun cdv A outer s0 H vs Q E hr h=>?_)
 · obtain⟨p,k,r,all,s,d,rfl,_⟩:=h;rfl
 · obtain⟨p,k,r,all,s,d,rfl,TA,hlen,hri,q⟩:=h
   refine ⟨_,(G4 (Hh (HE c_last_ones (hr.mono (by decide)) (G0 (ID (Qs rfl) (by rfl) T.b_list aAN (G0 (TY K aBD aBY aCp N3 (Ho K (pv 0) rfl)) GZ)) GZ)))),?_⟩
   obtain⟨dx,h1⟩:=TA.ob
   obtain⟨kvs,hd,hdm⟩:=TA.nw
   refine ⟨_,rfl,p,C,dx,_,_,rfl,h1,TC.cl_Teller,TC.n_newest,Q8,.inr (.inr (.inl ⟨rfl,.inl ⟨kvs,hd⟩⟩)),d,kvs,rfl,rfl,hd,fun v hv=>?_⟩
   have s1:=Same.new (o:=K0 v d) hv
   refine ⟨v,d,kvs,rfl,GU,s1 _ _ hd,fun l hl=>?_⟩
   have s2:=s1.trans (Same.new (o:=.lst (kvs.map (·.2))) hl)
   have hnl:=LH all
   refine ⟨l,_,_,rfl,GU,hdm.ms.same s2,by rw[aAf];omega,On hri,fun l2 ys ls H' s3 n3 e3 m3 r3=>?_⟩
   refine q l2 ys ls H' (s2.trans s3) (s2.free n3) e3 m3 ⟨r3.1,fun m=>(r3.2 m).trans (Uv hri)⟩
abbrev Js:Stmt:=Hk (IF 21) 3
abbrev QW:List Str:=["self"]
theorem Pu:FnScope QW ["self"] (GV Js):=⟨rfl,rfl,rfl,by decide +kernel,rfl,by decide +kernel,by decide +kernel⟩
theorem P1{f C:Addr}{fd:FuncData}(F:Fun K "kept" "Teller.kept" Js f fd)(T:Txt mg)(TC:TellerC K mg C):FnOk P w K mg base Jg 1 f fd ["self"] (Xl C):=by
 refine F.ok Pu (fun vs H Q E h=>?_) (fun cdv A outer s0 H vs Q E hr h=>?_)
 · obtain⟨p,k,r,all,s,d,rfl,_⟩:=h;rfl
 · obtain⟨p,k,r,all,s,d,rfl,TA,q⟩:=h
   refine ⟨_,(G4 (Hh (ID (IP K) (by rfl) T.b_list aAN (G0 (Ho K (pv 0) rfl) GZ)))),?_⟩
   obtain⟨dx,h1⟩:=TA.ob
   obtain⟨ys,hs,hm⟩:=TA.st
   exact ⟨_,rfl,p,C,dx,_,_,rfl,h1,TC.cl_Teller,TC.n_stored,Kx,s,ys,rfl,.inl (SqL.ofL hs),fun l hl=>q l ys hl (hm.same (Same.new hl))⟩
abbrev II:Stmt:=Hk (IF 21) 6
abbrev OS:List Str:=["self","number","topics","found"]
theorem sc_Teller_behind:FnScope OS ["self","number","topics"] (GV II):=⟨rfl,rfl,rfl,by decide +kernel,rfl,by decide +kernel,by decide +kernel⟩
theorem Nc{f C CN:Addr}{fd:FuncData}(F:Fun K "behind" "Teller.behind" II f fd)(T:Txt mg)(TC:TellerC K mg C)(x_NoNumber:Exc K mg "NoNumber" CN)(c_of_topics:Callee P w K mg base 2 "of_topics" ["messages","topics"] (S4 K))(c_with_greater_numbers:Callee P w K mg base 2 "with_greater_numbers" ["messages","number"] Mf)
 (m_oldest:CalleeM P w K mg base 1 C "oldest" ["self"] (Pg C)):FnOk P w K mg base (LX P w) 3 f fd ["self","number","topics"] (Mg K C CN):=by
 refine F.okX sc_Teller_behind (fun vs H Q E h=>?_) (fun cdv A outer s0 H vs Q E hr h=>?_)
 · obtain⟨p,n,tv,ts,k,r,all,s,d,rfl,_⟩:=h;rfl
 · obtain⟨p,n,tv,ts,k,r,all,s,d,rfl,TA,hlen,htv,q⟩:=h
   refine ⟨_,(GX (IA (PW.pt (PJ (Hu Rm (pv 1) G9 (Hy _)) (NM (Hu Tp (pv 1) (Ho K (pv 0) rfl) (Hy _))))) (G4 (KQ x_NoNumber (G0 Hw GZ))) HP)
    (GX (Hs (i:=3) sc_Teller_behind.nd rfl (Or.inl rfl) (HE c_of_topics (hr.mono (by decide)) (G0 (HE c_with_greater_numbers (hr.mono (by decide)) (G0 (Ho K (pv 0) rfl) (GW (pv 1) GZ))) (GW (pv 2) GZ))))
    (G4 (Hh (Iw (GW (pv 3) (GW (Ij (Oe rfl) (by rfl) T.b_max aCJ (G0 G9 (GW (Hx Kj (Hx Kj (Hl m_oldest TC.cl_Teller (hr.mono (by decide)) (pv 0)) G9) (pv 1)) GZ))) GZ))))))),?_⟩
   obtain⟨dx,h1⟩:=TA.ob
   obtain⟨ys,hs,hm⟩:=TA.st
   have hll:=Ly k all
   refine ⟨_,rfl,_,_,rfl,rfl,_,rfl,?_⟩
   refine Kk (fun z=>?_) (fun z1=>?_)
   · have z':n < 0:=aAI z
     rcases q with ⟨q0,_⟩ | ⟨_,q⟩
     · omega
     · exact Lb ⟨(show 1≤sizeLine by decide),q⟩
   have z1':¬n < 0:=fun z=>z1 (aAD z)
   refine ⟨_,rfl,_,rfl,p,C,dx,_,_,rfl,h1,TC.cl_Teller,TC.n_total,Kn,_,_,rfl,rfl,_,rfl,?_⟩
   refine Kk (fun z=>?_) (fun z2=>?_)
   · have z':n > (all.length:Int):=aAI z
     rcases q with ⟨_,q1,_⟩ | ⟨_,q⟩
     · omega
     · exact ⟨(show 1≤sizeLine by decide),q⟩
   have z2':¬n > (all.length:Int):=fun z=>z2 (aAD z)
   rcases q with ⟨hn0,hn1,q⟩ | ⟨q0,_⟩
   case inr=>exact absurd (⟨by omega,by omega⟩) q0
   refine ⟨_,rfl,p,C,dx,_,_,rfl,h1,TC.cl_Teller,TC.n_stored,Kx,_,rfl,s,ys,_,n,rfl,hs,hm,by omega,fun p1 y1 H1 s1 n1 e1 m1=>?_⟩
   have hfl:((Im k all).filter fun m=>decide (m.n > n)).length≤(Im k all).length:=aAX _ _
   refine ⟨_,rfl,p1,y1,_,tv,ts,rfl,e1,m1,by omega,htv.same s1,fun p2 y2 H2 s2 n2 e2 m2=>?_⟩
   have s12:=s1.trans s2
   obtain⟨dx',g1⟩:=(TA.same s12).ob
   refine ⟨_,rfl,_,rfl,p,dx',_,rfl,g1,Xd (by decide +kernel) (by decide +kernel) (by decide +kernel) (by decide +kernel) (by decide +kernel),p,k,r,all,s,d,rfl,TA.same s12,?_⟩
   refine ⟨_,_,rfl,rfl,_,rfl,_,_,rfl,rfl,0,_,rfl,(show 2≤sizeLine by decide),fun p3 hp3=>?_⟩
   have s3:=Same.new (o:=.tup [.ref p2,.int (Ml k n all)]) hp3
   exact q p3 p2 y2 _ (s12.trans s3) (s12.free hp3) (s1.free n2) GU (s3 _ _ e2) (m2.same s3)
abbrev Jq:Stmt:=Hk (IF 21) 8
abbrev QU:List Str:=["self"]
theorem Ps:FnScope QU ["self"] (GV Jq):=⟨rfl,rfl,rfl,by decide +kernel,rfl,by decide +kernel,by decide +kernel⟩
theorem PZ{f C:Addr}{fd:FuncData}(F:Fun K "mark" "Teller.mark" Jq f fd)(TC:TellerC K mg C):FnOk P w K mg base Jg 1 f fd ["self"] (Xj C):=by
 refine F.ok Ps (fun vs H Q E h=>?_) (fun cdv A outer s0 H vs Q E hr h=>?_)
 · obtain⟨p,k,r,all,s,d,rfl,_⟩:=h;rfl
 · obtain⟨p,k,r,all,s,d,rfl,TA,q⟩:=h
   refine ⟨_,(G4 (Hh (Iw (GW (Ho K (pv 0) rfl) (GW (Ho K (pv 0) rfl) GZ))))),?_⟩
   obtain⟨dx,h1⟩:=TA.ob
   exact ⟨_,rfl,p,C,dx,_,_,rfl,h1,TC.cl_Teller,TC.n_turn,RJ,_,rfl,p,C,dx,_,_,rfl,h1,TC.cl_Teller,TC.n_total,Kn,(show 2≤sizeLine by decide),fun t ht=>q t ht⟩
theorem Rr{ms ls:List Msg}(hr:Rise ms)(h:Lasts ms ls):ls.length≤ms.length:=by
 have e:ls=ms.filter (Sw ms):=Lasts.uniq h ⟨List.Pairwise.filter _ hr,Qe⟩
 rw[e];exact aAX _ _
def S2(K:W.Frag)(C CN:Addr):Sp:=fun vs H Q E=>∃p mk t n tv ts k r all s d,vs=[.ref p,.ref mk,tv]∧H mk=some (.tup [.int t,.int n])∧TAt C H p k r all s d∧all.length < 64∧Rise all∧TopV K H tv ts∧
 ((NK r all t n∧E (.ref CN) none H)∨(¬NK r all t n∧∀q l ys ls w ms H',Same H H'→Lasts all ls→H l=none→H' q=some (.tup [.str w,.ref l])→H' l=some (.lst ys)→Ms H' ys ms→sF k r all ls t n ts=sD w ms→Q (.ref q) H'))
abbrev IV:Stmt:=Hk (IF 21) 9
abbrev Qv:List Str:=["self","mark","topics","turn","number","found"]
theorem sc_Teller_since:FnScope Qv ["self","mark","topics"] (GV IV):=⟨rfl,rfl,rfl,by decide +kernel,rfl,by decide +kernel,by decide +kernel⟩
theorem NT{f C CN:Addr}{fd:FuncData}(F:Fun K "since" "Teller.since" IV f fd)(T:Txt mg)(TC:TellerC K mg C)(x_NoNumber:Exc K mg "NoNumber" CN)(c_of_topics:Callee P w K mg base 2 "of_topics" ["messages","topics"] (S4 K))(c_with_greater_numbers:Callee P w K mg base 2 "with_greater_numbers" ["messages","number"] Mf)
 (m_last:CalleeM P w K mg base 5 C "last" ["self"] (RO C))(mx_behind:CalleeMX P w K mg base 3 C "behind" ["self","number","topics"] (Mg K C CN)):FnOk P w K mg base (LX P w) 6 f fd ["self","mark","topics"] (S2 K C CN):=by
 refine F.okX sc_Teller_since (fun vs H Q E h=>?_) (fun cdv A outer s0 H vs Q E hr h=>?_)
 · obtain⟨p,mk,t,n,tv,ts,k,r,all,s,d,rfl,_⟩:=h;rfl
 · obtain⟨p,mk,t,n,tv,ts,k,r,all,s,d,rfl,hmk,TA,hlen,hri,htv,q⟩:=h
   refine ⟨_,(GX (Hs (i:=3) sc_Teller_since.nd rfl (Or.inl rfl) (JM (Jd K) (pv 1) G9 (fun _ _=>rfl)))
    (GX (Hs (i:=4) sc_Teller_since.nd rfl (Or.inl rfl) (JM (Jd K) (pv 1) G9 (fun _ _=>rfl)))
    (GX (IA (PW.pt (PJ (Hu Tp (pv 3) (Ho K (pv 0) rfl) (Hy _)) (NM (Hu Rm (pv 4) G9 (Hy _))))) (G4 (KQ x_NoNumber (G0 Hw GZ))) HP)
    (GX (IA (Hu Rm (pv 3) (Ho K (pv 0) rfl) (Hy _)) (G4 (Hh (Iw (GW Hw (GW (HE c_of_topics (hr.mono (by decide)) (G0 (Hl m_last TC.cl_Teller (hr.mono (by decide)) (pv 0)) (GW (pv 2) GZ))) GZ))))) HP)
    (GX (Hs (i:=5) sc_Teller_since.nd rfl (Or.inl rfl) (Hz mx_behind TC.cl_Teller (hr.mono (by decide)) J7 (pv 0) (G0 (pv 4) (GW (pv 2) GZ))))
    (GX (IA (Hu L6 (JM (Jd K) (pv 5) G9 (fun _ _=>rfl)) G9 (Hy _)) (G4 (Hh (Iw (GW Hw (GW (JM (Jd K) (pv 5) G9 (fun _ _=>rfl)) GZ))))) HP)
    (G4 (Hh (Iw (GW Hw (GW (HE c_of_topics (hr.mono (by decide)) (G0 (HE c_with_greater_numbers (hr.mono (by decide)) (G0 (Hl m_last TC.cl_Teller (hr.mono (by decide)) (pv 0)) (GW (pv 4) GZ))) (GW (pv 2) GZ))) GZ))))))))))),?_⟩
   obtain⟨dx,h1⟩:=TA.ob
   obtain⟨ys,hs,hm⟩:=TA.st
   have hll:=Ly k all
   have no:∀{k r n:Int} {s d:Addr} {f:Str},(f = "last"∨f = "behind")→(tF k r n s d).lookup f=none:=by
    intro k r n s d f h
    rcases h with rfl | rfl <;> exact Xd (by decide +kernel) (by decide +kernel) (by decide +kernel) (by decide +kernel) (by decide +kernel)
   refine ⟨_,rfl,mk,_,0,_,rfl,rfl,SqT.ofT hmk,rfl,?_⟩
   refine ⟨_,rfl,mk,_,1,_,rfl,rfl,SqT.ofT hmk,rfl,?_⟩
   refine ⟨_,rfl,_,rfl,p,C,dx,_,_,rfl,h1,TC.cl_Teller,TC.n_turn,RJ,_,_,rfl,rfl,_,rfl,?_⟩
   refine Kk (fun z=>?_) (fun z1=>?_)
   · have z':t > r:=aAI z
     rcases q with ⟨_,q⟩ | ⟨q0,_⟩
     · exact Lb ⟨(show 1≤sizeLine by decide),q⟩
     · exact absurd (.inl z') q0
   have z1':¬t > r:=fun z=>z1 (aAD z)
   refine ⟨_,rfl,_,_,rfl,rfl,_,rfl,?_⟩
   refine Kk (fun z=>?_) (fun z2=>?_)
   · have z':n < 0:=aAI z
     rcases q with ⟨_,q⟩ | ⟨q0,_⟩
     · exact ⟨(show 1≤sizeLine by decide),q⟩
     · exact absurd (.inr (.inl z')) q0
   have z2':¬n < 0:=fun z=>z2 (aAD z)
   refine ⟨_,rfl,_,rfl,p,C,dx,_,_,rfl,h1,TC.cl_Teller,TC.n_turn,RJ,_,_,rfl,rfl,_,rfl,?_⟩
   refine Kk (fun z=>?_) (fun z3=>?_)
   · have z':t < r:=aAI z
     have nb:¬NK r all t n:=by unfold NK;omega
     rcases q with ⟨q0,_⟩ | ⟨_,q⟩
     · exact absurd q0 nb
     refine ⟨_,rfl,p,dx,_,rfl,h1,no (.inl rfl),p,k,r,all,s,d,rfl,TA,hlen,hri,fun l ys ls H1 s1 n1 e1 m1 L1=>?_⟩
     have hl:=Rr hri L1
     refine ⟨_,rfl,l,ys,ls,tv,ts,rfl,e1,m1,by omega,htv.same s1,fun p2 y2 H2 s2 n2 e2 m2=>⟨(show 2≤sizeLine by decide),fun p3 hp3=>?_⟩⟩
     have s3:=Same.new (o:=.tup [.str "anew",.ref p2]) hp3
     refine q p3 p2 y2 ls "anew" _ _ ((s1.trans s2).trans s3) L1 ((s1.step []).free n2 aAa) GU (s3 _ _ e2) (m2.same s3) ?_
     unfold sF
     rw[aAz nb,aAE z']
   have z3':¬t < r:=fun z=>z3 (aAD z)
   refine ⟨_,rfl,p,dx,_,rfl,h1,no (.inr rfl),_,rfl,_,rfl,p,n,tv,ts,k,r,all,s,d,rfl,TA,hlen,htv,?_⟩
   by_cases hn1:n≤(all.length:Int)
   case neg=>
    rcases q with ⟨_,q⟩ | ⟨q0,_⟩
    · exact .inr ⟨fun z=>hn1 z.2,q⟩
    · exact absurd (.inr (.inr ⟨by omega,by omega⟩)) q0
   have nb:¬NK r all t n:=by unfold NK;omega
   rcases q with ⟨q0,_⟩ | ⟨_,q⟩
   · exact absurd q0 nb
   refine .inl ⟨by omega,hn1,fun q1 l ys H1 s1 nq nl e1 e2 m2=>?_⟩
   refine ⟨_,rfl,q1,_,1,_,rfl,rfl,SqT.ofT e1,rfl,rfl,_,rfl,?_⟩
   refine Kk (fun z=>?_) (fun z=>?_)
   · have z':Ml k n all=0:=by have y:=aAI z;injection y
     refine ⟨_,rfl,q1,_,0,_,rfl,rfl,SqT.ofT e1,rfl,(show 2≤sizeLine by decide),fun p3 hp3=>?_⟩
     have s3:=Same.new (o:=.tup [.str "on",.ref l]) hp3
     refine q p3 l ys (all.filter (Sw all)) "on" _ _ (s1.trans s3) ⟨List.Pairwise.filter _ hri,Qe⟩ nl GU (s3 _ _ e2) (m2.same s3) ?_
     unfold sF
     rw[aAz nb,aAz z3',aAE z']
   · have z':¬Ml k n all=0:=fun y=>z (aAD (aA2 V.int y))
     obtain⟨dx',g1⟩:=(TA.same s1).ob
     refine ⟨_,rfl,p,dx',_,rfl,g1,no (.inl rfl),p,k,r,all,s,d,rfl,TA.same s1,hlen,hri,fun l2 y2 ls H2 s2 n2 f2 m2 L2=>?_⟩
     have hl:=Rr hri L2
     refine ⟨_,rfl,l2,y2,ls,n,rfl,f2,m2,by omega,fun p3 y3 H3 s3 n3 f3 m3=>?_⟩
     have hfl:(ls.filter fun m=>decide (m.n > n)).length≤ls.length:=aAX _ _
     refine ⟨_,rfl,p3,y3,_,tv,ts,rfl,f3,m3,by omega,htv.same ((s1.trans s2).trans s3),fun p4 y4 H4 s4 n4 f4 m4=>⟨(show 2≤sizeLine by decide),fun p5 hp5=>?_⟩⟩
     have s5:=Same.new (o:=.tup [.str "gap",.ref p4]) hp5
     refine q p5 p4 y4 ls "gap" _ _ ((((s1.trans s2).trans s3).trans s4).trans s5) L2 (((((s1.trans s2).trans s3).step [])).free n4 aAa) GU (s5 _ _ f4) (m4.same s5) ?_
     unfold sF
     rw[aAz nb,aAz z3',aAz z']
theorem Lh{C:Addr}{H:Hp}{a:HA}{s:HS}{ex:List (Str×V)}(h:HAt C H a s ex){nx:Int}{f:Str}(hf:f = "expects"∨f = "take"∨f = "take_all"∨f = "refuse_others"∨f = "hear_held"∨f = "heard"∨f = "early"∨f = "missing"∨f = "lost"∨f = "give_up"∨f = "state"):(hF nx a.q a.h a.k a.g ex).lookup f=none:=by
 rcases hf with rfl | rfl | rfl | rfl | rfl | rfl | rfl | rfl | rfl | rfl | rfl <;> exact (aay (by decide +kernel) (by decide +kernel) (by decide +kernel) (by decide +kernel) (by decide +kernel)).trans (h.exn _ (by decide +kernel))
abbrev HC:Stmt:=Hk (IF 17) 0
abbrev Nz:List Str:=["self"]
theorem MH:FnScope Nz ["self"] (GV HC):=⟨rfl,rfl,rfl,by decide +kernel,rfl,by decide +kernel,by decide +kernel⟩
theorem L8{f C:Addr}{fd:FuncData}(F:Fun K "__init__" "Hearer.__init__" HC f fd)(TC:HearC K C):FnOk P w K mg base Jg 1 f fd ["self"] (Me C):=by
 refine F.ok MH (fun vs H Q E h=>?_) (fun cdv A outer s H vs Q E hr h=>?_)
 · obtain⟨p,dx,rfl,_⟩:=h;rfl
 · obtain⟨p,dx,rfl,hp,qq⟩:=h
   refine ⟨_,(GX (HM K (pv 0) G9 rfl)
    (GX (HM K (pv 0) (HJ GZ) rfl)
    (GX (HM K (pv 0) JN rfl)
    (GX (HM K (pv 0) JN rfl)
    (G4 (HM K (pv 0) (HJ GZ) rfl)))))),?_⟩
   have l0:([]:List (Str×V)).length=0:=rfl
   have l1:=Iy "next_number" (.int 1) []
   refine ⟨_,rfl,p,C,dx,[],rfl,hp,TC.cl_Hearer,TC.n_next_number,(by show 0 < 1000;decide),?_⟩
   refine ⟨aAJ _,fun q hq=>?_⟩
   have npq:p≠q:=G5 GU hq
   refine ⟨_,rfl,p,C,dx,_,rfl,(by rw[GY npq];exact GU),TC.cl_Hearer,TC.n_past,by omega,?_⟩
   have l2:=Iy "past" (.ref q) (Hm "next_number" (.int 1) [])
   intro h hh
   have nph:p≠h:=G5 GU hh
   have nqh:q≠h:=fun e=>by rw[←e,GY npq.symm,GU] at hh;cases hh
   refine ⟨_,rfl,p,C,dx,_,rfl,(by rw[GY nph];exact GU),TC.cl_Hearer,TC.n_held,by omega,?_⟩
   have l3:=Iy "held" (.ref h) (Hm "past" (.ref q) (Hm "next_number" (.int 1) []))
   intro k hk
   have npk:p≠k:=G5 GU hk
   have nhk:h≠k:=fun e=>by rw[←e,GY nph.symm,GU] at hk;cases hk
   have nqk:q≠k:=fun e=>by rw[←e,GY npq.symm,GY nqh,GY npq.symm,GU] at hk;cases hk
   refine ⟨_,rfl,p,C,dx,_,rfl,(by rw[GY npk];exact GU),TC.cl_Hearer,TC.n_known,by omega,?_⟩
   have l4:=Iy "known" (.ref k) (Hm "held" (.ref h) (Hm "past" (.ref q) (Hm "next_number" (.int 1) [])))
   refine ⟨aAJ _,fun g hg=>?_⟩
   have npg:p≠g:=G5 GU hg
   have nkg:k≠g:=fun e=>by rw[←e,GY npk.symm,GU] at hg;cases hg
   have nhg:h≠g:=fun e=>by rw[←e,GY nph.symm,GY nhk,GY nph.symm,GU] at hg;cases hg
   have nqg:q≠g:=fun e=>by rw[←e,GY npq.symm,GY nqk,GY npq.symm,GY nqh,GY npq.symm,GU] at hg;cases hg
   refine ⟨_,rfl,p,C,dx,_,rfl,(by rw[GY npg];exact GU),TC.cl_Hearer,TC.n_given_up,by omega,?_⟩
   rw[Z0]
   have q0:H q=none:=by rw[GY npq.symm] at hq;exact hq
   have h0:H h=none:=by rw[GY nph.symm,GY nqh.symm,GY nph.symm] at hh;exact hh
   have k0:H k=none:=by rw[GY npk.symm,GY nhk.symm,GY npk.symm,GY nqk.symm,GY npk.symm] at hk;exact hk
   have g0:H g=none:=by rw[GY npg.symm,GY nkg.symm,GY npg.symm,GY nhg.symm,GY npg.symm,GY nqg.symm,GY npg.symm] at hg;exact hg
   refine qq ⟨p,q,h,k,g⟩ _ rfl ⟨⟨dx,GU⟩,⟨[],?_,Ms.nil⟩,⟨[],?_,.nil⟩,⟨[],[],?_,.nil,aBk,aAh _,(fun m=>by simp[Ot])⟩,?_,nqg,nhk,fun _ _=>rfl,by decide⟩ ⟨fun b o e hb=>?_,fun b xs e=>?_,fun c hc=>?_⟩
   · show Hq _ _ _ q=_;rw[GY npq.symm,GY nqg,GY npq.symm,GY nqk,GY npq.symm,GY nqh,GY npq.symm,GU]
   · show Hq _ _ _ h=_;rw[GY nph.symm,GY nhg,GY nph.symm,GY nhk,GY nph.symm,GU]
   · show Hq _ _ _ k=_;rw[GY npk.symm,GY nkg,GY npk.symm,GU]
   · show Hq _ _ _ g=_;rw[GY npg.symm,GU];rfl
   · have hb':b≠p:=by simpa using hb
     rw[GY hb',GY (G5 e g0),GY hb',GY (G5 e k0),GY hb',GY (G5 e h0),GY hb',GY (G5 e q0),GY hb'];exact e
   · have hb':b≠p:=HY e hp (by intro z;cases z)
     rw[GY hb',GY (G5 e g0),GY hb',GY (G5 e k0),GY hb',GY (G5 e h0),GY hb',GY (G5 e q0),GY hb'];exact e
   · simp only[HA.fp,aAg,aAa,aBa] at hc
     rcases hc with rfl | rfl | rfl | rfl | rfl
     · exact .inl (by simp)
     · exact .inr q0
     · exact .inr h0
     · exact .inr k0
     · exact .inr g0
abbrev HF:Stmt:=Hk (IF 17) 1
abbrev Oi:List Str:=["self"]
theorem M6:FnScope Oi ["self"] (GV HF):=⟨rfl,rfl,rfl,by decide +kernel,rfl,by decide +kernel,by decide +kernel⟩
theorem Le{f C:Addr}{fd:FuncData}(F:Fun K "expects" "Hearer.expects" HF f fd)(TC:HearC K C):FnOk P w K mg base Jg 1 f fd ["self"] (Ky C):=by
 refine F.ok M6 (fun vs H Q E h=>?_) (fun cdv A outer s0 H vs Q E hr h=>?_)
 · obtain⟨a,s,ex,rfl,_⟩:=h;rfl
 · obtain⟨a,s,ex,rfl,hA,q⟩:=h
   refine ⟨_,(G4 (Hh (Ho K (pv 0) rfl))),?_⟩
   obtain⟨dx,h1⟩:=hA.ob
   exact ⟨_,rfl,a.p,C,dx,_,_,rfl,h1,TC.cl_Hearer,TC.n_next_number,LJ,q⟩
abbrev HR:Stmt:=Hk (IF 17) 6
abbrev QA:List Str:=["self"]
theorem OB:FnScope QA ["self"] (GV HR):=⟨rfl,rfl,rfl,by decide +kernel,rfl,by decide +kernel,by decide +kernel⟩
theorem LP{f C:Addr}{fd:FuncData}(F:Fun K "heard" "Hearer.heard" HR f fd)(T:Txt mg)(TC:HearC K C):FnOk P w K mg base Jg 1 f fd ["self"] (MZ C):=by
 refine F.ok OB (fun vs H Q E h=>?_) (fun cdv A outer s0 H vs Q E hr h=>?_)
 · obtain⟨a,s,ex,rfl,_⟩:=h;rfl
 · obtain⟨a,s,ex,rfl,hA,q⟩:=h
   refine ⟨_,(G4 (Hh (ID (IP K) (by rfl) T.b_list aAN (G0 (Ho K (pv 0) rfl) GZ)))),?_⟩
   obtain⟨dx,h1⟩:=hA.ob
   obtain⟨ys,h2,h3⟩:=hA.pa
   exact ⟨_,rfl,a.p,C,dx,_,_,rfl,h1,TC.cl_Hearer,TC.n_past,Sz,a.q,ys,rfl,.inl (SqL.ofL h2),fun l hl=>q l ys hl (h3.same (Same.new hl))⟩
abbrev Hv:Stmt:=Hk (IF 17) 5
abbrev MT:List Str:=["self","heard"]
theorem sc_Hearer_hear_held:FnScope MT ["self"] (GV Hv):=⟨rfl,rfl,rfl,by decide +kernel,rfl,by decide +kernel,by decide +kernel⟩
theorem YE{s:HS}(d:Diff s.held):Diff (JE s).held∧(JE s).heard.length + (JE s).held.length=s.heard.length + s.held.length∧∀m,(m∈(JE s).heard∨m∈(JE s).held)↔(m∈s.heard∨m∈s.held):=by
 refine (Mm (P:=fun t=>Diff t.held∧t.heard.length + t.held.length=s.heard.length + s.held.length∧∀m,(m∈t.heard∨m∈t.held)↔(m∈s.heard∨m∈s.held)) ?_ s ⟨d,rfl,fun _=>Iff.rfl⟩).1
 rintro t m ⟨h1,h2,h3⟩ e
 obtain⟨hm,hn⟩:=Iv e
 refine ⟨LK h1,?_,fun x=>?_⟩
 · have:=Oc h1 hm
   show (t.heard ++ [m]).length + (Je t.held m.n).length=_
   rw[aAk,aAT];omega
 · rw [←h3 x]
   show (x∈t.heard ++ [m]∨x∈Je t.held m.n)↔_
   rw[aAx,aAc,dropN_mem]
   constructor
   · rintro ((z | rfl) | ⟨z,_⟩)
     · exact .inl z
     · exact .inr hm
     · exact .inr z
   · rintro (z | z)
     · exact .inl (.inl z)
     · by_cases ee:x.n=m.n
       · exact .inl (.inr (h1.eq z hm ee))
       · exact .inr ⟨z,ee⟩
theorem Kt{f C:Addr}{fd:FuncData}(F:Fun K "hear_held" "Hearer.hear_held" Hv f fd)(TC:HearC K C):FnOk P w K mg base Jg 1 f fd ["self"] (Xm C):=by
 refine F.ok sc_Hearer_hear_held (fun vs H Q E h=>?_) (fun cdv A outer s0 H vs Q E hr h=>?_)
 · obtain⟨a,s,ex,rfl,_⟩:=h;rfl
 · obtain⟨a,s,ex,rfl,hA,hd,hsm,q⟩:=h
   refine ⟨_,(GX (Hs (i:=1) sc_Hearer_hear_held.nd rfl (Or.inl rfl) (HJ GZ))
    (GX (XG aBc (PN (XW (Jk hr) (Ho K (pv 0) rfl) (Ho K (pv 0) rfl))) (GX (Hr (Mt K aAA aAP aAQ Jc (pv 1) (HU (PQ (Ho K (pv 0) rfl) (Ho K (pv 0) rfl) ⟨rfl,rfl,rfl,rfl⟩) IE)))
    (G4 (HM K (pv 0) (Hx JA (Ho K (pv 0) rfl) G9) rfl))))
    (GX (Hr (Mt K aAA aCq aCr N4 (Ho K (pv 0) rfl) (HU (pv 1) IE)))
    (G4 (Hh (pv 1)))))),?_⟩
   obtain⟨npq,nph,npk,npg,nqh,nqk,nqg,nhk,nhg,nkg⟩:=hA.apart
   obtain⟨⟨dx,h1⟩,⟨yq,h2,m2⟩,⟨kh,h3,d3⟩,hkn,h5,_,_,hex,hexl⟩:=id hA
   obtain⟨hD,hL,hM⟩:=YE hd
   unfold HS.small at hsm
   refine ⟨aAJ _,fun l hl0=>?_⟩
   have nl:l∉a.fp:=hA.free hl0
   have nl':l≠a.p∧l≠a.q∧l≠a.h∧l≠a.k∧l≠a.g:=by simpa [HA.fp] using nl
   have s1:=Same.new (o:=.lst []) hl0
   let W:Nat→St→Hp→Prop:=fun m σ H'=>∃(t:HS) (found:List Msg) (fs:List V) (kv:List (HX×V)),m=t.held.length∧σ=[some (.ref a.p),some (.ref l)]∧JE t=JE s∧t.heard=s.heard ++ found∧t.lost=s.lost∧t.heard.length + t.held.length=s.heard.length + s.held.length∧
    H' a.p=some (.ins C dx (hF t.next a.q a.h a.k a.g ex))∧H' a.h=some (.dK kv)∧DI H' kv t.held∧H' l=some (.lst fs)∧Ms H' fs found∧Diff t.held∧Stp [l,a.p,a.h] (Hq H l (.lst [])) [l,a.p,a.h] H'
   refine ⟨W,?_,?_⟩
   · exact ⟨_,s,[],[],kh,rfl,rfl,rfl,(aBl _).symm,rfl,rfl,s1 _ _ h1,s1 _ _ h3,d3.same s1,GU,Ms.nil,hd,Stp.refl _ _⟩
   · rintro m σ H' ⟨t,found,fs,kv,rfl,rfl,et,eh,el,esz,g1,g3,gd,gl,gm,gdf,st⟩
     refine ⟨_,rfl,a.p,C,dx,_,_,rfl,g1,TC.cl_Hearer,TC.n_next_number,LJ,_,rfl,a.p,C,dx,_,_,rfl,g1,TC.cl_Hearer,TC.n_held,Nm,a.h,_,rfl,DGet.k (k:=Sum.inl t.next) g3,_,rfl,?_⟩
     have lfs:=gm.len
     have lfo:found.length≤3000:=by have:=aA2 List.length eh;rw[aAk] at this;omega
     cases e:Jl t.held t.next with
     | none=>
       rw[gd.none _ e]
       refine Jj ?_
       have eS:JE s=t:=by rw[←et];exact KU e
       have g2:=st.keep (s1 _ _ h2) (by simp[nl'.2.1.symm,npq.symm,nqh])
       have g5:=st.keep (s1 _ _ h5) (by simp[nl'.2.2.2.2.symm,npg.symm,nhg.symm])
       obtain⟨kvk,mk,hk1,hk2,hk3,hk4,hk5⟩:=hkn
       have g4:=st.keep (s1 _ _ hk1) (by simp[nl'.2.2.2.1.symm,npk.symm,nhk.symm])
       have m2':=(m2.same s1).step st
       have lyq:=m2.len
       refine ⟨_,rfl,a.p,C,dx,_,_,rfl,g1,TC.cl_Hearer,TC.n_past,Sz,.inl ⟨rfl,_,SqL.ofL g2⟩,_,rfl,a.q,l,yq,fs,rfl,rfl,g2,gl,by rw[aAs];omega,?_⟩
       have sq:=Stp.put (ps:=[a.q]) (o:=.lst (yq ++ fs)) g2 (fun _ z=>by cases z) (by simp)
       refine ⟨_,rfl,?_⟩
       rw[eS] at q hM hL
       have st':Stp a.fp H (l :: a.fp) _:=((Stp.make (ps:=a.fp) (o:=.lst []) hl0).trans (st.weak (qs:=l :: a.fp) (by simp[HA.fp]) (by intro c hc;exact .inr hc))).trans (sq.weak (qs:=l :: a.fp) (by simp[HA.fp]) (by intro c hc;exact .inr hc))
       refine q l fs found _ ⟨⟨dx,sq.keep g1 (by simp[npq])⟩,⟨_,GU,?_⟩,⟨kv,sq.keep g3 (by simp[nqh.symm]),gd.tups sq.tup⟩,⟨kvk,mk,sq.keep g4 (by simp[nqk.symm]),((hk2.same s1).tups st.tup).tups sq.tup,hk3,by omega,fun m=>(hk5 m).trans (hM m).symm⟩,?_,nqg,nhk,hex,hexl⟩ eh st' hl0 nl (sq.keep gl (by simp[nl'.2.1])) (gm.step sq)
       · rw[eh];exact (m2'.step sq).append (gm.step sq)
       · rw[el];exact sq.keep g5 (by simp[nqg.symm])
     | some m=>
       obtain⟨c,hv,hc⟩:=gd.some _ e
       obtain⟨hmm,hmn⟩:=Iv e
       rw[hv]
       refine Lb ?_
       refine ⟨fun σ' H2=>∃m',m' < t.held.length∧W m' σ' H2,fun _ _ z=>z,?body⟩
       case body=>
        refine ⟨_,rfl,.inl ⟨rfl,_,SqL.ofL gl⟩,_,rfl,a.p,C,dx,_,_,rfl,g1,TC.cl_Hearer,TC.n_held,Nm,a.h,rfl,.inl ⟨kv,.inl g3⟩,_,rfl,a.p,C,dx,_,_,rfl,g1,TC.cl_Hearer,TC.n_next_number,LJ,kv,Sum.inl t.next,.ref c,g3,rfl,hv,?_⟩
        have sa:=Stp.put (ps:=[a.h]) (o:=.dK (Kp kv (Sum.inl t.next))) g3 (fun _ z=>by cases z) (by simp)
        have gl1:=sa.keep gl (by simp[nl'.2.2.1])
        refine ⟨l,fs,.ref c,rfl,rfl,gl1,by rw[aAs];omega,?_⟩
        have sb:=Stp.put (ps:=[l]) (o:=.lst (fs ++ [.ref c])) gl1 (fun _ z=>by cases z) (by simp)
        have g1b:=sb.keep (sa.keep g1 (by simp[nph])) (by simp[nl'.1.symm])
        refine ⟨_,rfl,a.p,C,dx,_,_,rfl,g1b,TC.cl_Hearer,TC.n_next_number,LJ,_,_,rfl,rfl,_,rfl,a.p,C,dx,_,rfl,g1b,TC.cl_Hearer,TC.n_next_number,?_,?_⟩
        · exact YG hexl
        rw[U9]
        have sc:=Stp.put (ps:=[a.p]) (o:=.ins C dx (hF (t.next + 1) a.q a.h a.k a.g ex)) g1b (fun _ z=>by cases z) (by simp)
        have dl:=Oc gdf hmm
        exact ⟨_,Qm hmm,⟨t.heard ++ [m],Je t.held m.n,t.lost⟩,found ++ [m],fs ++ [.ref c],Kp kv (Sum.inl t.next),rfl,rfl,by rw[←MN e];exact et,by rw[eh,aBw],el,by show (t.heard ++ [m]).length + (Je t.held m.n).length=_;rw[aAk,aAT];omega,
         by rw[Ro];exact GU,sc.keep (sb.keep GU (by simp[nl'.2.2.1.symm])) (by simp[nph.symm]),by rw[hmn];exact ((gd.drop t.next).tups sa.tup).tups (sb.tup.trans sc.tup),sc.keep GU (by simp[nl'.1]),(((gm.step sa).step sb).append (Ms.one (sb.tup _ _ (sa.tup _ _ hc)))).step sc,LK gdf,
         st.trans ((sa.up (by simp)).trans ((sb.up (by simp)).trans (sc.up (by simp))))⟩
abbrev Ht:Stmt:=Hk (IF 17) 4
abbrev LM:List Str:=["self","messages","fresh","message","number"]
theorem sc_Hearer_refuse_others:FnScope LM ["self","messages"] (GV Ht):=⟨rfl,rfl,rfl,by decide +kernel,rfl,by decide +kernel,by decide +kernel⟩
theorem JO{f C CO:Addr}{fd:FuncData}(F:Fun K "refuse_others" "Hearer.refuse_others" Ht f fd)(TC:HearC K C)(x_Other:Exc K mg "Other" CO)(c_number_of:Callee P w K mg base 1 "number_of" ["message"] (Jz 0)):FnOk P w K mg base (LX P w) 2 f fd ["self","messages"] (Ra C CO):=by
 refine F.okX sc_Hearer_refuse_others (fun vs H Q E h=>?_) (fun cdv A outer s0 H vs Q E hr h=>?_)
 · obtain⟨a,s,ex,b,xs,ms,rfl,_⟩:=h;rfl
 · obtain ⟨a,s,ex,b,xs,ms,rfl,hA,hb,hm,hml,hok,hokH,qq⟩:=h
   refine ⟨_,(GX (Hs (i:=2) sc_Hearer_refuse_others.nd rfl (Or.inl rfl) JN)
    (G4 (J5 aDc rfl (HQ K (pv 1)) (Hn (i:=3) sc_Hearer_refuse_others.nd rfl (Or.inl rfl)) (GX (Hs (i:=4) sc_Hearer_refuse_others.nd rfl (Or.inl rfl) (HE c_number_of (hr.mono (by decide)) (G0 (pv 3) GZ)))
    (GX (IA (Hu (NR hr.units) (M9 (Jk hr) (Ho K (pv 0) rfl) (pv 4) (M9 (Jk hr) (pv 2) (pv 4) (pv 3) ⟨rfl,rfl,rfl,rfl⟩) ⟨rfl,rfl,rfl,rfl⟩) (pv 3) (Hy _)) (G4 (KQ x_Other (G0 Hw GZ))) HP)
    (G4 (IA (Hu VQ (pv 4) (Ho K (pv 0) rfl) (Hy _)) (G4 (J6 (Jk hr) (pv 2) (pv 4) (pv 3) rfl)) HP))))))),?_⟩
   intro f0 hf0
   have s1:=Same.new (o:=.dK []) hf0
   have hxl:=hm.len
   rcases qq with ⟨hfit,q⟩ | ⟨m,rfl,⟨x,hx,hxn,hxm⟩,q⟩
   case inr=>
    have hx1:xs.length=1:=hxl
    refine ⟨_,rfl,b,rfl,⟨xs,SqL.ofL (s1 _ _ hb)⟩,JR (K:=K) (a:=b) (xs:=xs) (fun i σ H'=>i=0∧σ=[some (.ref a.p),some (.ref b),some (.ref f0),none,none]∧H' f0=some (.dK [])∧Same H H') ⟨rfl,rfl,GU,s1⟩ (fun i σ H' _ ⟨_,_,_,sH⟩=>SqL.ofL (sH _ _ hb)) ?_ ?_⟩
    · rintro i y σ H' hi ⟨rfl,rfl,hf,sH⟩
      obtain⟨c,ec,hc0⟩:=(hm.same sH).get (i:=0) (show 0 < 1 by decide)
      have hc:H' c=some (mT m):=hc0
      rw[hi] at ec
      obtain rfl:=aAi ec
      refine HN ?_
      obtain⟨⟨dx,h1⟩,_,_,⟨kvk,mk,hk1,hk2,hk3,hk4,hk5⟩,_,_,_,_,_⟩:=hA.same sH
      refine ⟨_,rfl,c,_,_,_,rfl,hc,?_⟩
      have efx:Jl mk m.n=some x:=by rw[←hxn];exact WO hk3 ((hk5 x).mpr hx)
      obtain⟨c',hv,hc'⟩:=hk2.some _ efx
      refine ⟨_,rfl,a.p,C,dx,_,_,rfl,h1,TC.cl_Hearer,TC.n_known,Qh,a.k,rfl,.inl ⟨kvk,.inl hk1⟩,_,rfl,_,rfl,f0,rfl,.inl ⟨[],.inl hf⟩,_,rfl,_,rfl,_,DGet.k (k:=Sum.inl m.n) hf,_,DGet.k (k:=Sum.inl m.n) hk1,?_⟩
      rw[hv]
      refine ⟨_,rfl,_,_,J8 hc',J8 hc,Pn (hokH x hx),Pn (hok m (by simp)),_,rfl,?_⟩
      rw[aca,aA1 hxm]
      exact Lb ⟨(show 1≤sizeLine by decide),q _ sH⟩
    · rintro σ H' ⟨h0,_⟩
      omega
   case inl=>
    refine ⟨_,rfl,b,rfl,⟨xs,SqL.ofL (s1 _ _ hb)⟩,JR (K:=K) (a:=b) (xs:=xs) (fun i σ H'=>∃(o3 o4:Option V) (kv:List (HX×V)) (fr:List Msg),σ=[some (.ref a.p),some (.ref b),some (.ref f0),o3,o4]∧H' f0=some (.dK kv)∧DI H' kv fr∧fr.length≤i∧(∀x∈fr,x∈ms)∧Same H H')
     ⟨none,none,[],[],rfl,GU,.nil,aAh _,(fun _ z=>nomatch z),s1⟩ (fun i σ H' _ ⟨_,_,_,_,_,_,_,_,_,sH⟩=>SqL.ofL (sH _ _ hb)) ?_ ?_⟩
    · rintro i y σ H' hi ⟨o3,o4,kv,fr,rfl,hf,dF,hfl,hfm,sH⟩
      have hil:i < ms.length:=by rw[←hxl];exact (aAn.mp hi).1
      obtain⟨c,ec,hc⟩:=(hm.same sH).get hil
      rw[hi] at ec
      obtain rfl:=aAi ec
      have hmem:=aAO hil
      generalize ms[i]=m at hc hmem
      refine HN ?_
      obtain⟨⟨dx,h1⟩,_,_,⟨kvk,mk,hk1,hk2,hk3,hk4,hk5⟩,_,_,_,_,_⟩:=hA.same sH
      refine ⟨_,rfl,c,_,_,_,rfl,hc,?_⟩
      have hv:∃c',(Jh kvk (Sum.inl m.n)).getD ((Jh kv (Sum.inl m.n)).getD (.ref c))=.ref c'∧H' c'=some (mT m):=by
       cases e:Jl mk m.n with
       | some x=>
         obtain⟨c',h1,h2⟩:=hk2.some _ e
         obtain⟨hx,hn⟩:=Iv e
         have:x=m:=hfit.1 m hmem x ((hk5 x).mp hx) hn
         rw[h1];exact ⟨c',rfl,by rw[←this];exact h2⟩
       | none=>
         rw[hk2.none _ e]
         cases e':Jl fr m.n with
         | some x=>
           obtain⟨c',h1,h2⟩:=dF.some _ e'
           obtain⟨hx,hn⟩:=Iv e'
           have:x=m:=hfit.2 m hmem x (hfm x hx) hn
           rw[h1];exact ⟨c',rfl,by rw[←this];exact h2⟩
         | none=>rw[dF.none _ e'];exact ⟨c,rfl,hc⟩
      obtain⟨c',ev,hc'⟩:=hv
      refine ⟨_,rfl,a.p,C,dx,_,_,rfl,h1,TC.cl_Hearer,TC.n_known,Qh,a.k,rfl,.inl ⟨kvk,.inl hk1⟩,_,rfl,_,rfl,f0,rfl,.inl ⟨kv,.inl hf⟩,_,rfl,_,rfl,_,DGet.k (k:=Sum.inl m.n) hf,_,DGet.k (k:=Sum.inl m.n) hk1,?_⟩
      rw[ev]
      refine ⟨_,rfl,acQ (J8 hc') (J8 hc) (Pn (hok m hmem)) ⟨_,rfl,Jj ?_⟩⟩
      refine ⟨_,rfl,_,rfl,a.p,C,dx,_,_,rfl,h1,TC.cl_Hearer,TC.n_next_number,LJ,_,_,rfl,rfl,_,rfl,?_⟩
      refine Kk (fun hz=>?_) (fun hz=>?_)
      · refine ⟨_,rfl,_,rfl,_,rfl,f0,_,rfl,DPut.k (k:=Sum.inl m.n) hf (by rw[dF.len,aAs];omega),?_⟩
        have st:=Stp.put (ps:=[f0]) (o:=.dK (Ir kv (Sum.inl m.n) (.ref c))) hf (fun _ z=>by cases z) (by simp)
        have hpl:(KP fr m).length≤fr.length + 1:=PL
        refine ⟨_,_,_,KP fr m,rfl,GU,(dF.put (J8 hc)).tups st.tup,by omega,fun x hx=>?_,fun z o hz=>st.keep (sH z o hz) (by simp[G5 hz hf0])⟩
        rcases (Ln (fun y hy e=>hfit.2 m hmem y (hfm y hy) e)).mp hx with z | rfl
        · exact hfm x z
        · exact hmem
      · exact ⟨_,_,kv,fr,rfl,hf,dF,by omega,hfm,sH⟩
    · rintro σ H' ⟨o3,o4,kv,fr,rfl,hf,dF,hfl,hfm,sH⟩
      exact q _ sH
abbrev HB:Stmt:=Hk (IF 17) 3
abbrev Ny:List Str:=["self","messages","message","number"]
theorem sc_Hearer_take_all:FnScope Ny ["self","messages"] (GV HB):=⟨rfl,rfl,rfl,by decide +kernel,rfl,by decide +kernel,by decide +kernel⟩
theorem WN{s:HS}{ms:List Msg}(hf:Q2 s ms)(i:Nat):∀x,x∈((ms.take i).foldl Jf s).held→x∈s.held∨x∈ms:=by
 induction i with
 | zero=>intro x hx;exact .inl hx
 | succ i ih=>
   intro x hx
   by_cases hi:i < ms.length
   · rw [aAF,aAd hi,aC7] at hx
     have hx':x∈(Jf ((ms.take i).foldl Jf s) ms[i]).held:=hx
     unfold Jf at hx'
     split at hx'
     · have hpp:∀y∈((ms.take i).foldl Jf s).held,y.n=ms[i].n→y=ms[i]:=fun y hy e=>by
        rcases ih y hy with w | w
        · exact hf.1 _ (aAO hi) y (.inr w) e
        · exact hf.2 _ (aAO hi) y w e
       rcases (Ln hpp).mp hx' with z | z
       · exact ih x z
       · exact .inr (by rw[z];exact aAO hi)
     · exact ih x hx'
   · rw[aBm (by omega)] at hx
     rw[aBm (by omega)] at ih
     exact ih x hx
theorem Ks{f C CO:Addr}{fd:FuncData}(F:Fun K "take_all" "Hearer.take_all" HB f fd)(TC:HearC K C)(c_number_of:Callee P w K mg base 1 "number_of" ["message"] (Jz 0))(mx_refuse_others:CalleeMX P w K mg base 2 C "refuse_others" ["self","messages"] (Ra C CO))(m_hear_held:CalleeM P w K mg base 1 C "hear_held" ["self"] (Xm C)):FnOk P w K mg base (LX P w) 3 f fd ["self","messages"] (ME C CO):=by
 refine F.okX sc_Hearer_take_all (fun vs H Q E h=>?_) (fun cdv A outer s0 H vs Q E hr h=>?_)
 · obtain⟨a,s,ex,b,xs,ms,rfl,_⟩:=h;rfl
 · obtain ⟨a,s,ex,b,xs,ms,rfl,hA,hb,hm,hml,hok,hokH,hd,hsz,qq⟩:=h
   refine ⟨_,(GX (Hr (Hz mx_refuse_others TC.cl_Hearer (hr.mono (by decide)) J7 (pv 0) (G0 (pv 1) GZ)))
    (GX (J5 aDc rfl (HQ K (pv 1)) (Hn (i:=2) sc_Hearer_take_all.nd rfl (Or.inl rfl)) (GX (Hs (i:=3) sc_Hearer_take_all.nd rfl (Or.inl rfl) (HE c_number_of (hr.mono (by decide)) (G0 (pv 2) GZ)))
    (G4 (IA (Hu VQ (pv 3) (Ho K (pv 0) rfl) (Hy _)) (GX (J6 (Jk hr) (Ho K (pv 0) rfl) (pv 3) (pv 2) rfl)
    (G4 (J6 (Jk hr) (Ho K (pv 0) rfl) (pv 3) (pv 2) rfl))) HP))))
    (G4 (Hh (Hl m_hear_held TC.cl_Hearer (hr.mono (by decide)) (pv 0)))))),?_⟩
   obtain⟨dx,h1⟩:=hA.ob
   have hxl:=hm.len
   rcases qq with ⟨hfit,q⟩ | qc
   case inr=>exact ⟨_,rfl,a.p,dx,_,rfl,h1,Lh hA (.inr (.inr (.inr (.inl rfl)))),_,rfl,a,s,ex,b,xs,ms,rfl,hA,hb,hm,hml,hok,hokH,.inr qc⟩
   refine ⟨_,rfl,a.p,dx,_,rfl,h1,Lh hA (.inr (.inr (.inr (.inl rfl)))),_,rfl,a,s,ex,b,xs,ms,rfl,hA,hb,hm,hml,hok,hokH,.inl ⟨hfit,fun H1 s1=>?_⟩⟩
   refine ⟨_,rfl,b,rfl,⟨xs,SqL.ofL (s1 _ _ hb)⟩,JR (K:=K) (a:=b) (xs:=xs) (fun i σ H'=>∃(o2 o3:Option V),σ=[some (.ref a.p),some (.ref b),o2,o3]∧HAt C H' a ((ms.take i).foldl Jf s) ex∧Diff ((ms.take i).foldl Jf s).held∧((ms.take i).foldl Jf s).held.length≤s.held.length + i∧Stp [a.h,a.k] H [a.h,a.k] H')
    ⟨none,none,rfl,hA.same s1,hd,aAh _,s1.step _⟩ (fun i σ H' _ ⟨_,_,_,_,_,_,st⟩=>SqL.ofL (st.keep hb ?nb)) ?_ ?_⟩
   case nb=>
    obtain⟨kvs,h3,_⟩:=hA.he
    obtain⟨kvs',_,h4,_⟩:=hA.kn
    simp[HY hb h3 (by intro z;cases z),HY hb h4 (by intro z;cases z)]
   · rintro i y σ H' hi ⟨o2,o3,rfl,hA',hd',hl',st⟩
     have hil:i < ms.length:=by rw[←hxl];exact (aAn.mp hi).1
     obtain⟨c,ec,hc⟩:=(hm.step st).get hil
     rw[hi] at ec
     obtain rfl:=aAi ec
     have hmem:=aAO hil
     have enx:=WV (ms.take i) s
     have ehd:=KZ (ms.take i) s
     have hfa:=WN hfit i
     rw[aAF,aAd hil,aC7]
     show Qj _ _ _ _ _
     generalize ms[i]=m at hc hmem ⊢
     generalize (ms.take i).foldl Jf s=t at hA' hd' hl' enx ehd hfa ⊢
     refine HN ?_
     obtain⟨npq,nph,npk,npg,nqh,nqk,nqg,nhk,nhg,nkg⟩:=hA'.apart
     obtain⟨⟨dx',g1⟩,⟨yq,g2,m2⟩,⟨kh,g3,d3⟩,⟨kvk,mk,g4,d4,hk3,hk4,hk5⟩,g5,_,_,hex,hexl⟩:=id hA'
     refine ⟨_,rfl,c,_,_,_,rfl,hc,?_⟩
     refine ⟨_,rfl,_,rfl,a.p,C,dx',_,_,rfl,g1,TC.cl_Hearer,TC.n_next_number,LJ,_,_,rfl,rfl,_,rfl,?_⟩
     have hsh:∀x∈t.held,x.n=m.n→x=m:=fun x hx e=>by
      rcases hfa x hx with z | z
      · exact hfit.1 m hmem x (.inr z) e
      · exact hfit.2 m hmem x z e
     have hsk:∀x∈mk,x.n=m.n→x=m:=fun x hx e=>by
      rcases (hk5 x).mp hx with z | z
      · exact hfit.1 m hmem x (.inl (ehd ▸ z)) e
      · exact hsh x z e
     refine Kk (fun hz=>?_) (fun hz=>?_)
     · have hz':m.n≥t.next:=aAI hz
       have eA:(some m).toList.foldl Jf t=⟨t.heard,KP t.held m,t.lost⟩:=by show Jf t m=_;unfold Jf;rw[aAE hz']
       refine ⟨_,rfl,_,rfl,a.p,C,dx',_,_,rfl,g1,TC.cl_Hearer,TC.n_held,Nm,_,rfl,a.h,_,rfl,DPut.k (k:=Sum.inl m.n) g3 (by rw[d3.len,aAs];omega),?_⟩
       have sa:=Stp.put (ps:=[a.h]) (o:=.dK (Ir kh (Sum.inl m.n) (.ref c))) g3 (fun _ z=>by cases z) (by simp)
       have g1a:=sa.keep g1 (by simp[nph])
       have g4a:=sa.keep g4 (by simp[nhk.symm])
       have hml2:mk.length < 3000:=by
        have h2:=aA2 List.length ehd
        omega
       refine ⟨_,rfl,_,rfl,a.p,C,dx',_,_,rfl,g1a,TC.cl_Hearer,TC.n_known,Qh,_,rfl,a.k,_,rfl,DPut.k (k:=Sum.inl m.n) g4a (by rw[d4.len,aAs];omega),?_⟩
       have sb:=Stp.put (ps:=[a.k]) (o:=.dK (Ir kvk (Sum.inl m.n) (.ref c))) g4a (fun _ z=>by cases z) (by simp)
       have sab:Stp [a.h,a.k] H' [a.h,a.k] _:=(sa.up (by simp)).trans (sb.up (by simp))
       have hpl:(KP t.held m).length≤t.held.length + 1:=PL
       have hcb:=sab.tup _ _ hc
       rw[eA]
       refine ⟨_,_,rfl,⟨⟨dx',sab.keep g1 (by simp[nph,npk])⟩,⟨yq,sab.keep g2 (by simp[nqh,nqk]),m2.step sab⟩,⟨_,sb.keep GU (by simp[nhk]),(d3.tups sab.tup).put (J8 hcb)⟩,⟨_,KP mk m,GU,(d4.tups sab.tup).put (J8 hcb),NN hsk hk3,?_,fun x=>?_⟩,sab.keep g5 (by simp[nhg.symm,nkg.symm]),nqg,nhk,hex,hexl⟩,NN hsh hd',by show (KP t.held m).length≤_;omega,st.trans sab⟩
       · show (KP mk m).length≤t.heard.length + (KP t.held m).length
         rcases Lo hsk with ⟨h,e⟩ | ⟨h,e⟩
         · rw[e]
           rcases Lo hsh with ⟨_,e'⟩ | ⟨_,e'⟩
           · rw[e'];exact hk4
           · rw[e',aAk];show _≤_ + (_ + 1);omega
         · rw[e]
           rcases Lo hsh with ⟨h',e'⟩ | ⟨_,e'⟩
           · exact absurd rfl (h m ((hk5 m).mpr (.inr h')))
           · rw[e',aAk,aAk];show _ + 1≤_ + (_ + 1);omega
       · rw[Ln hsk,hk5 x]
         show _↔x∈t.heard∨x∈KP t.held m
         rw[Ln hsh]
         constructor
         · rintro ((z | z) | z)
           · exact .inl z
           · exact .inr (.inl z)
           · exact .inr (.inr z)
         · rintro (z | z | z)
           · exact .inl (.inl z)
           · exact .inl (.inr z)
           · exact .inr z
     · have hz':¬m.n≥t.next:=fun z=>hz (aAD z)
       have eA:(some m).toList.foldl Jf t=t:=by show Jf t m=_;unfold Jf;rw[aAz hz']
       rw[eA]
       exact ⟨_,_,rfl,hA',hd',by omega,st⟩
   · rintro σ H' ⟨o2,o3,rfl,hA',hd',hl',st⟩
     rw[hxl,aAW] at hA' hd' hl'
     obtain⟨dx',g1⟩:=hA'.ob
     have e1:=KZ ms s
     have e2:=Of ms s
     refine ⟨_,rfl,a.p,dx',_,rfl,g1,Lh hA' (.inr (.inr (.inr (.inr (.inl rfl))))),a,_,ex,rfl,hA',hd',by unfold HS.small;rw[e1,e2];omega,fun l ys found H2 hA2 eh st2 hl0 nl el ml=>?_⟩
     rw[e1] at eh
     refine q l ys found H2 hA2 eh ((st.weak (qs:=a.fp) (qs':=a.fp) (by simp[HA.fp]) (fun _ z=>.inr z)).trans st2) ?_ nl el ml
     rcases (st.free' hl0) with z | z
     · exact absurd (show l∈a.fp by simp only[aAg,aAa,aBa] at z;rcases z with rfl | rfl <;> simp[HA.fp]) nl
     · exact z
abbrev HZ:Stmt:=Hk (IF 17) 2
abbrev QY:List Str:=["self","message"]
theorem Px:FnScope QY ["self","message"] (GV HZ):=⟨rfl,rfl,rfl,by decide +kernel,rfl,by decide +kernel,by decide +kernel⟩
theorem LO{f C CO:Addr}{fd:FuncData}(F:Fun K "take" "Hearer.take" HZ f fd)(TC:HearC K C)(mx_take_all:CalleeMX P w K mg base 3 C "take_all" ["self","messages"] (ME C CO)):FnOk P w K mg base (LX P w) 4 f fd ["self","message"] (Md C CO):=by
 refine F.okX Px (fun vs H Q E h=>?_) (fun cdv A outer s0 H vs Q E hr h=>?_)
 · obtain⟨a,s,ex,c,m,rfl,_⟩:=h;rfl
 · obtain⟨a,s,ex,c,m,rfl,hA,hc,hok,hokH,hd,hsz,qq⟩:=h
   refine ⟨_,(G4 (Hh (Hz mx_take_all TC.cl_Hearer (hr.mono (by decide)) J7 (pv 0) (G0 (HJ (GW (pv 1) GZ)) GZ)))),?_⟩
   obtain⟨dx,h1⟩:=hA.ob
   refine ⟨_,rfl,a.p,dx,_,rfl,h1,Lh hA (.inr (.inr (.inl rfl))),_,rfl,(show 1≤sizeLine by decide),fun b hb=>?_⟩
   have s1:=Same.new (o:=.lst [.ref c]) hb
   refine ⟨a,s,ex,b,_,[m],rfl,hA.same s1,GU,Ms.one (s1 _ _ hc),(show 1 < 1000 by decide),(fun x hx=>by rw[aAc] at hx;rw[hx];exact hok),hokH,hd,hsz,?_⟩
   rcases qq with ⟨hfit,q⟩ | ⟨cl,q⟩
   · exact .inl ⟨hfit,fun l ys found H2 hA2 eh st2 hl0 nl el ml=>q l ys found H2 hA2 eh ((s1.step _).trans st2) (s1.free hl0) nl el ml⟩
   · exact .inr ⟨m,rfl,cl,fun H' s2=>q H' (s1.trans s2)⟩
abbrev I9:Stmt:=Hk (IF 17) 7
abbrev QB:List Str:=["self"]
theorem OC:FnScope QB ["self"] (GV I9):=⟨rfl,rfl,rfl,by decide +kernel,rfl,by decide +kernel,by decide +kernel⟩
theorem OL{f C:Addr}{fd:FuncData}(F:Fun K "early" "Hearer.early" I9 f fd)(T:Txt mg)(TC:HearC K C):FnOk P w K mg base Jg 1 f fd ["self"] (RW C):=by
 refine F.ok OC (fun vs H Q E h=>?_) (fun cdv A outer s0 H vs Q E hr h=>?_)
 · obtain⟨a,s,ex,rfl,_⟩:=h;rfl
 · obtain⟨a,s,ex,rfl,hA,hl,q⟩:=h
   refine ⟨_,(G4 (Hh (Ij (ZW K rfl) (by rfl) T.b_sorted aCs (G0 (Ho K (pv 0) rfl) GZ)))),?_⟩
   obtain⟨dx,h1⟩:=hA.ob
   obtain⟨kvs,h2,h3⟩:=hA.he
   exact ⟨_,rfl,a.p,C,dx,_,_,rfl,h1,TC.cl_Hearer,TC.n_held,Nm,_,_,rfl,.inr ⟨a.h,kvs,rfl,h2,h3.keys⟩,by rw[aAf];exact hl,q⟩
abbrev Ih:Stmt:=Hk (IF 17) 8
abbrev LD:List Str:=["self","greatest"]
theorem sc_Hearer_missing:FnScope LD ["self"] (GV Ih):=⟨rfl,rfl,rfl,by decide +kernel,rfl,by decide +kernel,by decide +kernel⟩
theorem Nh{f C:Addr}{fd:FuncData}(F:Fun K "missing" "Hearer.missing" Ih f fd)(T:Txt mg)(TC:HearC K C)(m_early:CalleeM P w K mg base 1 C "early" ["self"] (RW C)):FnOk P w K mg base Jg 2 f fd ["self"] (Rc C):=by
 refine F.ok sc_Hearer_missing (fun vs H Q E h=>?_) (fun cdv A outer s0 H vs Q E hr h=>?_)
 · obtain⟨a,s,ex,rfl,_⟩:=h;rfl
 · obtain⟨a,s,ex,rfl,hA,hl,hmx,hsm,q⟩:=h
   refine ⟨_,(R9 (Hs (i:=1) sc_Hearer_missing.nd rfl (Or.inl rfl) (Yx K rfl (Hl m_early TC.cl_Hearer (hr.mono (by decide)) (pv 0)) T.b_max))
    (G4 (Hh (Km (N':=["number","self"]) (ix:=[none,some 0]) (own:=[0]) rfl (LA (osc:=GV Ih) (ON:=LD) rfl rfl (by decide +kernel)) (by decide) (Rj (by rfl) T.b_range (HU (Ho K (pv 0) rfl) (HU (pv 1) IE))) (fun _ _ _ _=>(Hn (i:=0) (show (["number","self"]:List Str).Nodup by decide +kernel) rfl (Or.inl rfl))) Jb (fun _ _ _ _=>(KR (PN (NQ (Jk hr) (pv 0) (Ho K (pv 1) rfl))))) (fun _ _ _ _=>(pv 0)))))),?_⟩
   obtain⟨dx,h1⟩:=hA.ob
   obtain⟨kvs,h2,h3⟩:=hA.he
   refine ⟨fun σ H'=>∃M,((s.held=[]∧M=0)∨(∃m∈s.held,m.n=M)∧∀m∈s.held,m.n≤M)∧σ=[some (.ref a.p),some (.int M)]∧Same H H',?_,?_⟩
   · rintro σ H' ⟨M,hM,rfl,sH⟩
     have hb:M < 1000∧-1000 < M∧0 < s.next∧s.next < 2000:=by
      have hn:s.next=(s.heard.length:Int) + (s.lost.length:Int) + 1:=rfl
      rcases hM with ⟨_,rfl⟩ | ⟨⟨m,hm,rfl⟩,_⟩
      · omega
      · have:=hmx m hm;omega
     have h1':=sH _ _ h1
     have h2':=sH _ _ h2
     have h3':=h3.same sH
     refine ⟨_,rfl,a.p,C,dx,_,_,rfl,h1',TC.cl_Hearer,TC.n_next_number,LJ,_,rfl,_,_,rfl,⟨by omega,by omega,by omega,by omega⟩,(M - s.next).toNat,fun i ys H2=>H2=H'∧ys=((rgs s.next i).filter fun n=>!Qf s.held n).map V.int,Zf (by omega),⟨rfl,rfl⟩,?_,?_⟩
     · rintro i ys H2 hi ⟨rfl,rfl⟩
       refine ⟨hi,fun x H3=>?_⟩
       rintro⟨rfl,rfl⟩
       refine HN ?_
       refine ⟨_,rfl,_,rfl,a.p,C,dx,_,_,rfl,h1',TC.cl_Hearer,TC.n_held,Nm,a.h,_,rfl,DGet.k (k:=Sum.inl (s.next + (i:Int))) h2',_,rfl,?_⟩
       rw[h3'.isSome]
       refine Kk (fun z=>?_) (fun z=>?_)
       · refine ⟨_,rfl,rfl,?_⟩
         rw[Ti,aBA,aAy,aBH (by exact z)];rfl
       · refine ⟨rfl,?_⟩
         rw[Ti,aBA,aBG (by exact z),List.filter_nil,aBl]
     · rintro ys H2 ⟨rfl,rfl⟩
       exact ⟨aAh _,fun l hl0=>q M l _ hM (sH.trans (Same.new hl0)) (sH.free hl0) GU⟩
   · refine ⟨_,rfl,a.p,dx,_,rfl,h1,Lh hA (.inr (.inr (.inr (.inr (.inr (.inr (.inl rfl))))))),a,s,ex,rfl,hA,hl,fun l hl0=>?_⟩
     have s1:=Same.new (o:=.lst ((W.sortI (s.held.map (·.n))).map V.int)) hl0
     have hper:=W.sortI_perm (s.held.map (·.n))
     refine ⟨l,_,rfl,SqL.ofL GU,fun e0=>⟨0,.inl ⟨?_,rfl⟩,rfl,s1⟩,fun M hM hmax=>⟨M,.inr ⟨?_,fun m hm=>?_⟩,rfl,s1⟩⟩
     · have:=hper.length_eq
       rw[e0,aAf] at this
       exact List.eq_nil_of_length_eq_zero this.symm
     · obtain⟨m,hm,e⟩:=aA6.mp (hper.mem_iff.mp hM)
       exact ⟨m,hm,e⟩
     · exact hmax _ (hper.mem_iff.mpr (aBZ hm))
abbrev Ju:Stmt:=Hk (IF 17) 9
abbrev QZ:List Str:=["self"]
theorem Py:FnScope QZ ["self"] (GV Ju):=⟨rfl,rfl,rfl,by decide +kernel,rfl,by decide +kernel,by decide +kernel⟩
theorem P4{f C:Addr}{fd:FuncData}(F:Fun K "lost" "Hearer.lost" Ju f fd)(T:Txt mg)(TC:HearC K C):FnOk P w K mg base Jg 1 f fd ["self"] (UC C):=by
 refine F.ok Py (fun vs H Q E h=>?_) (fun cdv A outer s0 H vs Q E hr h=>?_)
 · obtain⟨a,s,ex,rfl,_⟩:=h;rfl
 · obtain⟨a,s,ex,rfl,hA,q⟩:=h
   refine ⟨_,(G4 (Hh (ID (IP K) (by rfl) T.b_list aAN (G0 (Ho K (pv 0) rfl) GZ)))),?_⟩
   obtain⟨dx,h1⟩:=hA.ob
   exact ⟨_,rfl,a.p,C,dx,_,_,rfl,h1,TC.cl_Hearer,TC.n_given_up,YH,a.g,_,rfl,.inl (SqL.ofL hA.lo),fun l hl=>q l hl⟩
abbrev IZ:Stmt:=Hk (IF 17) 11
abbrev Qz:List Str:=["self"]
theorem OA:FnScope Qz ["self"] (GV IZ):=⟨rfl,rfl,rfl,by decide +kernel,rfl,by decide +kernel,by decide +kernel⟩
theorem OK{f C:Addr}{fd:FuncData}(F:Fun K "state" "Hearer.state" IZ f fd)(TC:HearC K C)(c_state_of:Callee P w K mg base 5 "state_of" ["messages"] RL):FnOk P w K mg base Jg 6 f fd ["self"] (S0 C):=by
 refine F.ok OA (fun vs H Q E h=>?_) (fun cdv A outer s0 H vs Q E hr h=>?_)
 · obtain⟨a,s,ex,rfl,_⟩:=h;rfl
 · obtain⟨a,s,ex,rfl,hA,hl,hd,q⟩:=h
   refine ⟨_,(G4 (Hh (HE c_state_of (hr.mono (by decide)) (G0 (Ho K (pv 0) rfl) GZ)))),?_⟩
   obtain⟨dx,h1⟩:=hA.ob
   obtain⟨ys,h2,h3⟩:=hA.pa
   exact ⟨_,rfl,a.p,C,dx,_,_,rfl,h1,TC.cl_Hearer,TC.n_past,Sz,a.q,ys,_,rfl,h2,h3,hl,hd,q⟩
abbrev IM:Stmt:=Hk (IF 19) 0
abbrev OW:List Str:=["self","size","way"]
theorem NI:FnScope OW ["self","size","way"] (GV IM):=⟨rfl,rfl,rfl,by decide +kernel,rfl,by decide +kernel,by decide +kernel⟩
theorem Sh{f C:Addr}{fd:FuncData}(F:Fun K "__init__" "Road.__init__" IM f fd)(TC:RoadC K mg C):FnOk P w K mg base Jg 1 f fd ["self","size","way"] (OZ C):=by
 refine F.ok NI (fun vs H Q E h=>?_) (fun cdv A outer s H vs Q E hr h=>?_)
 · obtain⟨p,dx,sz,way,rfl,_⟩:=h;rfl
 · obtain⟨p,dx,sz,way,rfl,hp,q⟩:=h
   refine ⟨_,(GX (HM K (pv 0) (pv 1) rfl)
    (GX (HM K (pv 0) (pv 2) rfl)
    (GX (HM K (pv 0) (HJ GZ) rfl)
    (GX (HM K (pv 0) (HJ GZ) rfl)
    (G4 (HM K (pv 0) Lr rfl)))))),?_⟩
   have l1:=Iy "size" (.int sz) []
   have l2:=Iy "way" (.str way) (Hm "size" (.int sz) [])
   have l0:([]:List (Str×V)).length=0:=rfl
   refine ⟨_,rfl,_,rfl,p,C,dx,[],rfl,hp,TC.cl_Road,TC.n_size,(by show 0 < 1000;decide),?_⟩
   refine ⟨_,rfl,_,rfl,p,C,dx,_,rfl,GU,TC.cl_Road,TC.n_way,by omega,?_⟩
   refine ⟨aAJ _,fun r hr=>?_⟩
   have npr:p≠r:=G5 GU hr
   refine ⟨_,rfl,p,C,dx,_,rfl,(by rw[GY npr];exact GU),TC.cl_Road,TC.n_row,by omega,?_⟩
   refine ⟨aAJ _,fun d hd=>?_⟩
   have npd:p≠d:=G5 GU hd
   have nrd:r≠d:=fun e=>by rw[←e,GY npr.symm,GU] at hd;cases hd
   have l3:=Iy "row" (.ref r) (Hm "way" (.str way) (Hm "size" (.int sz) []))
   refine ⟨_,rfl,p,C,dx,_,rfl,(by rw[GY npd];exact GU),TC.cl_Road,TC.n_dropped,by omega,?_⟩
   have l4:=Iy "dropped" (.ref d) (Hm "row" (.ref r) (Hm "way" (.str way) (Hm "size" (.int sz) [])))
   refine ⟨_,rfl,p,C,dx,_,rfl,GU,TC.cl_Road,TC.n_broken,by omega,?_⟩
   rw[Zs]
   have hr0:H r=none:=by rw[GY npr.symm,GY npr.symm] at hr;exact hr
   have hd0:H d=none:=by rw[GY npd.symm,GY nrd.symm,GY npd.symm,GY npd.symm] at hd;exact hd
   refine q r d _ ⟨⟨dx,GU⟩,⟨[],?_,Ms.nil⟩,?_,nrd⟩ ⟨fun b o e hb=>?_,fun b xs e=>?_,fun c hc=>?_⟩
   · rw[GY npr.symm,GY npr.symm,GY nrd,GY npr.symm,GU]
   · rw[GY npd.symm,GY npd.symm,GU];rfl
   · have hb':b≠p:=by simpa using hb
     rw[GY hb',GY hb',GY (G5 e hd0),GY hb',GY (G5 e hr0),GY hb',GY hb'];exact e
   · have hb':b≠p:=HY e hp (by intro z;cases z)
     rw[GY hb',GY hb',GY (G5 e hd0),GY hb',GY (G5 e hr0),GY hb',GY hb'];exact e
   · simp only[aAg,aAa,aBa] at hc
     rcases hc with rfl | rfl | rfl
     · exact .inl (by simp)
     · exact .inr hr0
     · exact .inr hd0
abbrev Ig:Stmt:=Hk (IF 19) 3
abbrev LC:List Str:=["self","messages"]
theorem M4:FnScope LC ["self","messages"] (GV Ig):=⟨rfl,rfl,rfl,by decide +kernel,rfl,by decide +kernel,by decide +kernel⟩
theorem Ng{f C:Addr}{fd:FuncData}(F:Fun K "leave_out" "Road.leave_out" Ig f fd)(TC:RoadC K mg C)(c_number_of:Callee P w K mg base 1 "number_of" ["message"] (Jz 0)):FnOk P w K mg base Jg 2 f fd ["self","messages"] (RN C):=by
 refine F.ok M4 (fun vs H Q E h=>?_) (fun cdv A outer s0 H vs Q E hr h=>?_)
 · obtain⟨p,b,xs,ms,sz,way,s,r,d,rfl,_⟩:=h;rfl
 · obtain⟨p,b,xs,ms,sz,way,s,r,d,rfl,RA,hb,hm,hml,hol,q⟩:=h
   refine ⟨_,(G4 (Hr (Mt K aAA aCq aCr N4 (Ho K (pv 0) rfl) (HU (Km (N':=["message"]) (ix:=[none]) (own:=[0]) rfl (LA (osc:=GV Ig) (ON:=LC) rfl rfl (by decide +kernel)) (by decide) (HQ K (pv 1)) (fun _ _ _ _=>(Hn (i:=0) (show (["message"]:List Str).Nodup by decide +kernel) rfl (Or.inl rfl))) Jb (fun _ _ _ _=>Lp) (fun _ _ _ _=>(HE c_number_of (hr.mono (by decide)) (G0 (pv 0) GZ)))) IE)))),?_⟩
   obtain⟨⟨dx,h1⟩,⟨ys,h2,h3⟩,h4,h5⟩:=id RA
   refine ⟨_,rfl,p,C,dx,_,_,rfl,h1,TC.cl_Road,TC.n_dropped,PH,.inl ⟨rfl,_,SqL.ofL h4⟩,_,rfl,b,rfl,⟨xs,SqL.ofL hb⟩,?_⟩
   refine ⟨_,PMap H ms fun m=>.int m.n,Zf (by omega),PMap.zero,PMap.step hb hm (fun c m R N hmm hc hR=>?_),fun ys' H2 hP=>?_⟩
   · exact HN (R6 (Lb ⟨_,rfl,c,_,_,_,rfl,hc,hR⟩))
   · obtain⟨hst,rfl,rfl⟩:=PMap.done (K:=K) hb hm hP
     refine ⟨hst,fun D hD=>?_⟩
     have s1:=Same.new (o:=.lst (ms.map fun m=>V.int m.n)) hD
     refine ⟨d,D,_,_,rfl,rfl,s1 _ _ h4,GU,by rw[aAf,aAf,aAs];omega,?_⟩
     have st:Stp [d] H [d] _:=(s1.step [d]).trans (Stp.put (o:=.lst (s.out.map V.int ++ ms.map fun m=>V.int m.n)) (s1 _ _ h4) (fun _ z=>by cases z) (by simp))
     refine q _ ⟨⟨dx,st.keep h1 (by simp[RA.npd])⟩,⟨ys,st.keep h2 (by simp[h5]),h3.step st⟩,?_,h5⟩ st
     rw[GU,aAy,aA3];rfl
abbrev HI:Stmt:=Hk (IF 19) 2
abbrev LB:List Str:=["self","message"]
theorem Lf:FnScope LB ["self","message"] (GV HI):=⟨rfl,rfl,rfl,by decide +kernel,rfl,by decide +kernel,by decide +kernel⟩
theorem Lg{f C:Addr}{fd:FuncData}(F:Fun K "put_without_room" "Road.put_without_room" HI f fd)(TC:RoadC K mg C)(m_leave_out:CalleeM P w K mg base 2 C "leave_out" ["self","messages"] (RN C)):FnOk P w K mg base Jg 3 f fd ["self","message"] (Xg C):=by
 refine F.ok Lf (fun vs H Q E h=>?_) (fun cdv A outer s0 H vs Q E hr h=>?_)
 · obtain⟨p,c,m,sz,way,s,r,d,rfl,_⟩:=h;rfl
 · obtain⟨p,c,m,sz,way,s,r,d,rfl,RA,hc,hrl,hol,hcut,hns,q⟩:=h
   refine ⟨_,(GX (IA (Hu L6 (Ho K (pv 0) rfl) Hw (Hy _)) (GX (Hr (JS m_leave_out TC.cl_Road (hr.mono (by decide)) (pv 0) (G0 (Lq (KL K) (Ho K (pv 0) rfl) Mi (Mh G9)) GZ)))
    (GX (HM K (pv 0) (Hx MK (Lq (KL K) (Ho K (pv 0) rfl) (Mh G9) Mi) (HJ (GW (pv 1) GZ))) rfl)
    (G4 (Hh Lr)))) HP)
    (GX (IA (Hu L6 (Ho K (pv 0) rfl) Hw (Hy _)) (GX (Hr (JS m_leave_out TC.cl_Road (hr.mono (by decide)) (pv 0) (G0 (HJ (GW (pv 1) GZ)) GZ)))
    (G4 (Hh Lr))) HP)
    (GX (Hr (JS m_leave_out TC.cl_Road (hr.mono (by decide)) (pv 0) (G0 (Hx MK (Ho K (pv 0) rfl) (HJ (GW (pv 1) GZ))) GZ)))
    (GX (HM K (pv 0) (HJ GZ) rfl)
    (GX (HM K (pv 0) Lr rfl)
    (G4 (Hh Lr))))))),?_⟩
   obtain⟨⟨dx,h1⟩,⟨ys,h2,h3⟩,h4,h5⟩:=id RA
   have no:∀{r d:Addr} {b:Bool},(rF sz way r d b).lookup ("leave_out" : Str)=none:=Tm (by decide +kernel) (by decide +kernel) (by decide +kernel) (by decide +kernel) (by decide +kernel)
   have lF:∀{r d:Addr} {b:Bool},(rF sz way r d b).length < 1000:=by intro r d b;show 5 < 1000;decide
   have hyl:=h3.len
   have hsc:¬s.cut=true:=by rw[hcut];decide
   refine ⟨_,rfl,p,C,dx,_,_,rfl,h1,TC.cl_Road,TC.n_way,Xz,rfl,_,rfl,?_⟩
   refine Kk (fun ho=>?_) (fun ho=>?_)
   · have how:way = "old":=by simpa using ho
     have eS:JC sz way s m={ s with rows:=s.rows.drop 1 ++ [m],out:=s.out ++ (s.rows.take 1).map (·.n) }:=by
      unfold JC;rw[aAz hsc,aAz hns,aAE how]
     have eB:LN sz way s=true:=by unfold LN;rw[aAz hsc,aAz hns,aAE how]
     rw[eS,eB] at q
     refine ⟨_,rfl,p,dx,_,rfl,h1,no,_,rfl,p,C,dx,_,_,rfl,h1,TC.cl_Road,TC.n_row,NL,_,rfl,r,ys,rfl,SqL.ofL h2,fun l hl=>?_⟩
     rw[YV (by decide)]
     have s1:=Same.new (o:=.lst (ys.take (1:Int).toNat)) hl
     refine ⟨p,l,_,s.rows.take 1,sz,way,s,r,d,rfl,RA.same s1,GU,(h3.same s1).take 1,by rw[aAM];omega,hol,fun H2 RA2 st2=>?_⟩
     have st2':=(s1.step [d]).trans st2
     obtain⟨⟨dx2,g1⟩,⟨ys2,g2,g3⟩,g4,g5⟩:=id RA2
     refine ⟨_,rfl,p,C,dx2,_,_,rfl,g1,TC.cl_Road,TC.n_row,NL,_,rfl,r,ys2,rfl,SqL.ofL g2,fun l2 hl2=>?_⟩
     rw[Nq (by decide)]
     have s3:=Same.new (o:=.lst (ys2.drop (1:Int).toNat)) hl2
     refine ⟨_,rfl,(show 1≤sizeLine by decide),fun l3 hl3=>?_⟩
     have s4:=s3.trans (Same.new (o:=.lst [.ref c]) hl3)
     refine ⟨l2,l3,_,_,rfl,rfl,(Same.new (o:=.lst [.ref c]) hl3) _ _ GU,GU,by rw[aB3,aAs,g3.len];show _ - _ + 1≤_;have:({ s with out:=s.out ++ (s.rows.take 1).map (·.n) }:RS).rows.length=s.rows.length:=rfl;omega,fun l4 hl4=>?_⟩
     have s5:=s4.trans (Same.new (o:=.lst (ys2.drop (1:Int).toNat ++ [.ref c])) hl4)
     have i1:=s5 _ _ g1
     refine ⟨_,rfl,p,C,dx2,_,rfl,i1,TC.cl_Road,TC.n_row,lF,?_⟩
     rw[Rh]
     have np4:p≠l4:=G5 (s4 _ _ g1) hl4
     have nd4:l4≠d:=(G5 (s4 _ _ g4) hl4).symm
     have st:Stp [p,r,d] H [p,l4,d] _:=((st2'.up (qs:=[p,r,d]) (by simp)).trans ((s4.step [p,r,d]).trans (Stp.make (o:=.lst (ys2.drop (1:Int).toNat ++ [.ref c])) hl4))).trans ((Stp.put (p:=p) (ps:=[p,l4,d]) (o:=.ins C dx2 (rF sz way l4 d s.cut)) i1 (fun _ z=>by cases z) (by simp)).weak (qs:=l4 :: [p,r,d]) (by simp) (by simp))
     have hc2:=st.tup _ _ hc
     refine q l4 _ ⟨⟨dx2,GU⟩,⟨_,(GY np4.symm).trans GU,?_⟩,?_,nd4⟩ st
     · exact ((g3.drop 1).tups (s5.tups.trans (Stp.put (ps:=[p]) (o:=.ins C dx2 (rF sz way l4 d s.cut)) i1 (fun _ z=>by cases z) (by simp)).tup)).append (Ms.one hc2)
     · rw[GY (HY g1 g4 (by intro z;cases z)).symm]
       exact s5 _ _ g4
   · have how:¬way = "old":=by simpa using ho
     refine ⟨_,rfl,p,C,dx,_,_,rfl,h1,TC.cl_Road,TC.n_way,Xz,rfl,_,rfl,?_⟩
     refine Kk (fun hw=>?_) (fun hw=>?_)
     · have hwn:way = "new":=by simpa using hw
       have eS:JC sz way s m={ s with out:=s.out ++ [m.n] }:=by
        unfold JC;rw[aAz hsc,aAz hns,aAz how,aAE hwn]
       have eB:LN sz way s=false:=by unfold LN;rw[aAz hsc,aAz hns,aAz how]
       rw[eS,eB] at q
       refine ⟨_,rfl,p,dx,_,rfl,h1,no,_,rfl,(show 1≤sizeLine by decide),fun l hl=>?_⟩
       have s1:=Same.new (o:=.lst [.ref c]) hl
       exact ⟨p,l,_,[m],sz,way,s,r,d,rfl,RA.same s1,GU,Ms.one (s1 _ _ hc),(show 1 < 64 by decide),hol,fun H2 RA2 st2=>q r H2 RA2 (((s1.step [d]).trans st2).up (by simp))⟩
     · have hwn:¬way = "new":=by simpa using hw
       have eS:JC sz way s m=⟨[],s.out ++ (s.rows ++ [m]).map (·.n),true⟩:=by
        unfold JC;rw[aAz hsc,aAz hns,aAz how,aAz hwn]
       have eB:LN sz way s=false:=by unfold LN;rw[aAz hsc,aAz hns,aAz how]
       rw[eS,eB] at q
       refine ⟨_,rfl,p,dx,_,rfl,h1,no,_,rfl,p,C,dx,_,_,rfl,h1,TC.cl_Road,TC.n_row,NL,_,rfl,(show 1≤sizeLine by decide),fun l hl=>?_⟩
       have s1:=Same.new (o:=.lst [.ref c]) hl
       refine ⟨r,l,_,_,rfl,rfl,s1 _ _ h2,GU,by rw[aAs,hyl];show _ + 1≤_;omega,fun l2 hl2=>?_⟩
       have s2:=s1.trans (Same.new (o:=.lst (ys ++ [.ref c])) hl2)
       refine ⟨p,l2,_,s.rows ++ [m],sz,way,s,r,d,rfl,RA.same s2,GU,(h3.same s2).append (Ms.one (s2 _ _ hc)),by rw[aAk];show _ + 1 < _;omega,hol,fun H3 RA3 st3=>?_⟩
       obtain⟨⟨dx3,g1⟩,⟨ys3,g2,g3⟩,g4,g5⟩:=id RA3
       refine ⟨aAJ _,fun l4 hl4=>?_⟩
       have s4:=Same.new (o:=.lst []) hl4
       have i1:=s4 _ _ g1
       refine ⟨_,rfl,p,C,dx3,_,rfl,i1,TC.cl_Road,TC.n_row,lF,?_⟩
       rw[Rh]
       refine ⟨_,rfl,p,C,dx3,_,rfl,GU,TC.cl_Road,TC.n_broken,lF,?_⟩
       rw[R8,RH]
       have np4:p≠l4:=G5 g1 hl4
       have nd4:l4≠d:=(G5 g4 hl4).symm
       have st:Stp [p,r,d] H [p,l4,d] _:=((((s2.step [d]).trans st3).up (qs:=[p,r,d]) (by simp)).trans (Stp.make (o:=.lst []) hl4)).trans ((Stp.put (p:=p) (ps:=[p,l4,d]) (o:=.ins C dx3 (rF sz way l4 d true)) i1 (fun _ z=>by cases z) (by simp)).weak (qs:=l4 :: [p,r,d]) (by simp) (by simp))
       refine q l4 _ ⟨⟨dx3,GU⟩,⟨_,(GY np4.symm).trans GU,Ms.nil⟩,?_,nd4⟩ st
       rw[GY (HY g1 g4 (by intro z;cases z)).symm]
       exact s4 _ _ g4
abbrev Kg:Stmt:=Hk (IF 19) 1
abbrev Vu:List Str:=["self","message"]
theorem Tb:FnScope Vu ["self","message"] (GV Kg):=⟨rfl,rfl,rfl,by decide +kernel,rfl,by decide +kernel,by decide +kernel⟩
theorem Tw{f C:Addr}{fd:FuncData}(F:Fun K "put" "Road.put" Kg f fd)(T:Txt mg)(TC:RoadC K mg C)(m_leave_out:CalleeM P w K mg base 2 C "leave_out" ["self","messages"] (RN C))(m_put_without_room:CalleeM P w K mg base 3 C "put_without_room" ["self","message"] (Xg C)):FnOk P w K mg base Jg 4 f fd ["self","message"] (Xh C):=by
 refine F.ok Tb (fun vs H Q E h=>?_) (fun cdv A outer s0 H vs Q E hr h=>?_)
 · obtain⟨p,c,m,sz,way,s,r,d,rfl,_⟩:=h;rfl
 · obtain⟨p,c,m,sz,way,s,r,d,rfl,RA,hc,hrl,hol,q⟩:=h
   refine ⟨_,(GX (IA (UN (Ho K (pv 0) rfl)) (GX (Hr (JS m_leave_out TC.cl_Road (hr.mono (by decide)) (pv 0) (G0 (HJ (GW (pv 1) GZ)) GZ)))
    (G4 (Hh Lr))) HP)
    (GX (IA (Hu Rm (Ij (Jx K) (by rfl) T.b_len aBx (G0 (Ho K (pv 0) rfl) GZ)) (Ho K (pv 0) rfl) (Hy _)) (GX (Hr (Mt K aAA aAP aAQ Jc (Ho K (pv 0) rfl) (HU (pv 1) IE)))
    (G4 (Hh Lr))) HP)
    (G4 (Hh (JS m_put_without_room TC.cl_Road (hr.mono (by decide)) (pv 0) (G0 (pv 1) GZ)))))),?_⟩
   obtain⟨⟨dx,h1⟩,⟨ys,h2,h3⟩,h4,h5⟩:=id RA
   have no1:∀{r d:Addr} {b:Bool},(rF sz way r d b).lookup ("leave_out" : Str)=none:=Tm (by decide +kernel) (by decide +kernel) (by decide +kernel) (by decide +kernel) (by decide +kernel)
   have no2:∀{r d:Addr} {b:Bool},(rF sz way r d b).lookup ("put_without_room" : Str)=none:=Tm (by decide +kernel) (by decide +kernel) (by decide +kernel) (by decide +kernel) (by decide +kernel)
   have hyl:=h3.len
   refine ⟨_,rfl,p,C,dx,_,_,rfl,h1,TC.cl_Road,TC.n_broken,Ri,_,rfl,?_⟩
   refine Kk (fun hsc=>?_) (fun hsc=>?_)
   · have eS:JC sz way s m={ s with out:=s.out ++ [m.n] }:=by unfold JC;rw[aAE hsc]
     have eB:LN sz way s=false:=by unfold LN;rw[aAE hsc]
     rw[eS,eB] at q
     refine ⟨_,rfl,p,dx,_,rfl,h1,no1,_,rfl,(show 1≤sizeLine by decide),fun l hl=>?_⟩
     have s1:=Same.new (o:=.lst [.ref c]) hl
     exact ⟨p,l,_,[m],sz,way,s,r,d,rfl,RA.same s1,GU,Ms.one (s1 _ _ hc),(show 1 < 64 by decide),hol,fun H2 RA2 st2=>q r H2 RA2 (((s1.step [d]).trans st2).up (by simp))⟩
   · refine ⟨_,rfl,p,C,dx,_,_,rfl,h1,TC.cl_Road,TC.n_row,NL,r,ys,rfl,.inl (SqL.ofL h2),_,rfl,p,C,dx,_,_,rfl,h1,TC.cl_Road,TC.n_size,Zr,_,_,rfl,rfl,_,rfl,?_⟩
     refine Kk (fun hlt=>?_) (fun hlt=>?_)
     · have hlt':(s.rows.length:Int) < sz:=by rw[←hyl];exact aAI hlt
       have eS:JC sz way s m={ s with rows:=s.rows ++ [m] }:=by unfold JC;rw[aAz hsc,aAE hlt']
       have eB:LN sz way s=true:=by unfold LN;rw[aAz hsc,aAE hlt']
       rw[eS,eB] at q
       refine ⟨_,rfl,p,C,dx,_,_,rfl,h1,TC.cl_Road,TC.n_row,NL,.inl ⟨rfl,_,SqL.ofL h2⟩,_,rfl,r,ys,.ref c,rfl,rfl,h2,by rw[aAs,hyl];omega,?_⟩
       have st:Stp [r] H [r] (Hq H r (.lst (ys ++ [.ref c]))):=Stp.put h2 (fun _ z=>by cases z) (by simp)
       exact q r _ ⟨⟨dx,st.keep h1 (by simp[RA.npr])⟩,⟨_,GU,(h3.step st).append (Ms.one (st.tup _ _ hc))⟩,st.keep h4 (by simp[h5.symm]),h5⟩ (st.up (by simp))
     · have hlt':¬(s.rows.length:Int) < sz:=by rw[←hyl];exact fun z=>hlt (aAD z)
       exact ⟨_,rfl,p,dx,_,rfl,h1,no2,_,rfl,p,c,m,sz,way,s,r,d,rfl,RA,hc,hrl,hol,by simpa using hsc,hlt',q⟩
abbrev IX:Stmt:=Hk (IF 19) 5
abbrev Qx:List Str:=["self"]
theorem Oz:FnScope Qx ["self"] (GV IX):=⟨rfl,rfl,rfl,by decide +kernel,rfl,by decide +kernel,by decide +kernel⟩
theorem OJ{f C:Addr}{fd:FuncData}(F:Fun K "waiting" "Road.waiting" IX f fd)(T:Txt mg)(TC:RoadC K mg C):FnOk P w K mg base Jg 1 f fd ["self"] (Uz C):=by
 refine F.ok Oz (fun vs H Q E h=>?_) (fun cdv A outer s0 H vs Q E hr h=>?_)
 · obtain⟨p,sz,way,s,r,d,rfl,_⟩:=h;rfl
 · obtain⟨p,sz,way,s,r,d,rfl,RA,q⟩:=h
   refine ⟨_,(G4 (Hh (ID (IP K) (by rfl) T.b_list aAN (G0 (Ho K (pv 0) rfl) GZ)))),?_⟩
   obtain⟨⟨dx,h1⟩,⟨ys,h2,h3⟩,h4,h5⟩:=id RA
   exact ⟨_,rfl,p,C,dx,_,_,rfl,h1,TC.cl_Road,TC.n_row,NL,r,ys,rfl,.inl (SqL.ofL h2),fun l hl=>q l ys hl (h3.same (Same.new hl))⟩
abbrev IL:Stmt:=Hk (IF 19) 6
abbrev OV:List Str:=["self"]
theorem NH:FnScope OV ["self"] (GV IL):=⟨rfl,rfl,rfl,by decide +kernel,rfl,by decide +kernel,by decide +kernel⟩
theorem N2{f C:Addr}{fd:FuncData}(F:Fun K "left_out" "Road.left_out" IL f fd)(T:Txt mg)(TC:RoadC K mg C):FnOk P w K mg base Jg 1 f fd ["self"] (Xk C):=by
 refine F.ok NH (fun vs H Q E h=>?_) (fun cdv A outer s0 H vs Q E hr h=>?_)
 · obtain⟨p,sz,way,s,r,d,rfl,_⟩:=h;rfl
 · obtain⟨p,sz,way,s,r,d,rfl,RA,q⟩:=h
   refine ⟨_,(G4 (Hh (ID (IP K) (by rfl) T.b_list aAN (G0 (Ho K (pv 0) rfl) GZ)))),?_⟩
   obtain⟨⟨dx,h1⟩,⟨ys,h2,h3⟩,h4,h5⟩:=id RA
   exact ⟨_,rfl,p,C,dx,_,_,rfl,h1,TC.cl_Road,TC.n_dropped,PH,d,_,rfl,.inl (SqL.ofL h4),fun l hl=>q l hl⟩
abbrev Jt:Stmt:=Hk (IF 19) 7
abbrev QX:List Str:=["self"]
theorem Pw:FnScope QX ["self"] (GV Jt):=⟨rfl,rfl,rfl,by decide +kernel,rfl,by decide +kernel,by decide +kernel⟩
theorem P3{f C:Addr}{fd:FuncData}(F:Fun K "is_cut" "Road.is_cut" Jt f fd)(TC:RoadC K mg C):FnOk P w K mg base Jg 1 f fd ["self"] (VE C):=by
 refine F.ok Pw (fun vs H Q E h=>?_) (fun cdv A outer s0 H vs Q E hr h=>?_)
 · obtain⟨p,sz,way,s,r,d,rfl,_⟩:=h;rfl
 · obtain⟨p,sz,way,s,r,d,rfl,RA,q⟩:=h
   refine ⟨_,(G4 (Hh (Ho K (pv 0) rfl))),?_⟩
   obtain⟨⟨dx,h1⟩,⟨ys,h2,h3⟩,h4,h5⟩:=id RA
   exact ⟨_,rfl,p,C,dx,_,_,rfl,h1,TC.cl_Road,TC.n_broken,Ri,q⟩
theorem OM{k r n:Int}{s d:Addr}{f:Str}(h:f = "tell"∨f = "told"∨f = "kept"∨f = "oldest"∨f = "last"∨f = "mark"∨f = "behind"∨f = "since"∨f = "anew"):(tF k r n s d).lookup f=none:=by
 rcases h with rfl | rfl | rfl | rfl | rfl | rfl | rfl | rfl | rfl <;> exact Xd (by decide +kernel) (by decide +kernel) (by decide +kernel) (by decide +kernel) (by decide +kernel)
theorem Kb{a:FA}{f:Str}(h:f = "refuse_unknown"∨f = "road_of"∨f = "hearer_of"∨f = "names"∨f = "tell"∨f = "carry"∨f = "catch_up"∨f = "heard"∨f = "lost"∨f = "waiting"∨f = "lag"∨f = "slowest"∨f = "lay"∨f = "close"):(Up a).lookup f=none:=by
 rcases h with rfl | rfl | rfl | rfl | rfl | rfl | rfl | rfl | rfl | rfl | rfl | rfl | rfl | rfl <;> exact abi (by decide +kernel) (by decide +kernel) (by decide +kernel)
theorem aar{sz:Int}{way:Str}{r d:Addr}{b:Bool}{f:Str}(h:f = "put"∨f = "take"∨f = "waiting"∨f = "mend"):(rF sz way r d b).lookup f=none:=by
 rcases h with rfl | rfl | rfl | rfl <;> exact Tm (by decide +kernel) (by decide +kernel) (by decide +kernel) (by decide +kernel) (by decide +kernel)
abbrev HW:Stmt:=Hk (IF 23) 3
abbrev Mc:List Str:=["self","name"]
theorem LS:FnScope Mc ["self","name"] (GV HW):=⟨rfl,rfl,rfl,by decide +kernel,rfl,by decide +kernel,by decide +kernel⟩
theorem LG{f CF CT CR CH XR:Addr}{fd:FuncData}(F:Fun K "refuse_unknown" "Fan.refuse_unknown" HW f fd)(TC:FanC K mg CF)(x_NoRoad:Exc K mg "NoRoad" XR):FnOk P w K mg base (LX P w) 1 f fd ["self","name"] (L0 CF CT CR CH XR):=by
 refine F.okX LS (fun vs H Q E h=>?_) (fun cdv A outer s0 H vs Q E hr h=>?_)
 · obtain⟨a,l,g,k,all,n,rfl,_⟩:=h;rfl
 · obtain⟨a,l,g,k,all,n,rfl,hA,q⟩:=h
   refine ⟨_,(G4 (IA (PN (NQ (Jk hr) (pv 1) (Ho K (pv 0) rfl))) (G4 (KQ x_NoRoad (G0 Hw GZ))) HP)),?_⟩
   obtain⟨dx,h1⟩:=hA.ob
   refine ⟨_,rfl,_,rfl,a.p,CF,dx,_,_,rfl,h1,TC.cl_Fan,TC.n_roads,Qk a,a.rd,_,rfl,DGet.k (k:=Sum.inr n) hA.rs,_,rfl,?_⟩
   rcases q with ⟨hn,q⟩ | ⟨hn,q⟩
   · rw[show Jh (M8 l g) (Sum.inr n)=some (.ref (g n).p) from Lk hn]
     exact Jj q
   · rw[show Jh (M8 l g) (Sum.inr n)=none from NB hn]
     exact Lb ⟨(show 1≤sizeLine by decide),q⟩
abbrev Jw:Stmt:=Hk (IF 23) 4
abbrev Q1:List Str:=["self","name"]
theorem PD:FnScope Q1 ["self","name"] (GV Jw):=⟨rfl,rfl,rfl,by decide +kernel,rfl,by decide +kernel,by decide +kernel⟩
theorem OG{f CF CT CR CH XR:Addr}{fd:FuncData}(F:Fun K "road_of" "Fan.road_of" Jw f fd)(TC:FanC K mg CF)(mx_refuse_unknown:CalleeMX P w K mg base 1 CF "refuse_unknown" ["self","name"] (L0 CF CT CR CH XR)):FnOk P w K mg base (LX P w) 2 f fd ["self","name"] (Pl CF CT CR CH XR):=by
 refine F.okX PD (fun vs H Q E h=>?_) (fun cdv A outer s0 H vs Q E hr h=>?_)
 · obtain⟨a,l,g,k,all,n,rfl,_⟩:=h;rfl
 · obtain⟨a,l,g,k,all,n,rfl,hA,q⟩:=h
   refine ⟨_,(GX (Hr (Hz mx_refuse_unknown TC.cl_Fan (hr.mono (by decide)) J7 (pv 0) (G0 (pv 1) GZ)))
    (G4 (Hh (Na (Jk hr) (Ho K (pv 0) rfl) (pv 1) (fun _ _=>rfl))))),?_⟩
   obtain⟨dx,h1⟩:=hA.ob
   rcases q with ⟨hn,q⟩ | ⟨hn,q⟩
   · exact ⟨_,rfl,a.p,dx,_,rfl,h1,Kb (.inl rfl),_,rfl,a,l,g,k,all,n,rfl,hA,.inl ⟨hn,_,rfl,a.p,CF,dx,_,_,rfl,h1,TC.cl_Fan,TC.n_roads,Qk a,_,rfl,a.rd,_,rfl,.inl ⟨_,Sum.inr n,.inl hA.rs,rfl,(Lk hn).symm⟩,q⟩⟩
   · exact ⟨_,rfl,a.p,dx,_,rfl,h1,Kb (.inl rfl),_,rfl,a,l,g,k,all,n,rfl,hA,.inr ⟨hn,q⟩⟩
abbrev IN:Stmt:=Hk (IF 23) 5
abbrev OX:List Str:=["self","name"]
theorem NJ:FnScope OX ["self","name"] (GV IN):=⟨rfl,rfl,rfl,by decide +kernel,rfl,by decide +kernel,by decide +kernel⟩
theorem Nd{f CF CT CR CH XR:Addr}{fd:FuncData}(F:Fun K "hearer_of" "Fan.hearer_of" IN f fd)(TC:FanC K mg CF)(mx_refuse_unknown:CalleeMX P w K mg base 1 CF "refuse_unknown" ["self","name"] (L0 CF CT CR CH XR)):FnOk P w K mg base (LX P w) 2 f fd ["self","name"] (KO CF CT CR CH XR):=by
 refine F.okX NJ (fun vs H Q E h=>?_) (fun cdv A outer s0 H vs Q E hr h=>?_)
 · obtain⟨a,l,g,k,all,n,rfl,_⟩:=h;rfl
 · obtain⟨a,l,g,k,all,n,rfl,hA,q⟩:=h
   refine ⟨_,(GX (Hr (Hz mx_refuse_unknown TC.cl_Fan (hr.mono (by decide)) J7 (pv 0) (G0 (pv 1) GZ)))
    (G4 (Hh (Na (Jk hr) (Ho K (pv 0) rfl) (pv 1) (fun _ _=>rfl))))),?_⟩
   obtain⟨dx,h1⟩:=hA.ob
   rcases q with ⟨hn,q⟩ | ⟨hn,q⟩
   · exact ⟨_,rfl,a.p,dx,_,rfl,h1,Kb (.inl rfl),_,rfl,a,l,g,k,all,n,rfl,hA,.inl ⟨hn,_,rfl,a.p,CF,dx,_,_,rfl,h1,TC.cl_Fan,TC.n_hearers,YO a,_,rfl,a.hd,_,rfl,.inl ⟨_,Sum.inr n,.inl hA.hs,rfl,(Lk hn).symm⟩,q⟩⟩
   · exact ⟨_,rfl,a.p,dx,_,rfl,h1,Kb (.inl rfl),_,rfl,a,l,g,k,all,n,rfl,hA,.inr ⟨hn,q⟩⟩
abbrev JY:Stmt:=Hk (IF 23) 10
abbrev Ul:List Str:=["self","name"]
theorem R3:FnScope Ul ["self","name"] (GV JY):=⟨rfl,rfl,rfl,by decide +kernel,rfl,by decide +kernel,by decide +kernel⟩
theorem QI{f CF CT CR CH XR:Addr}{fd:FuncData}(F:Fun K "heard" "Fan.heard" JY f fd)(TC:TxtF K mg CF CT CR CH)(mx_hearer_of:CalleeMX P w K mg base 2 CF "hearer_of" ["self","name"] (KO CF CT CR CH XR))(m_Hearer_heard:CalleeM P w K mg base 1 CH "heard" ["self"] (MZ CH)):FnOk P w K mg base (LX P w) 3 f fd ["self","name"] (ND CF CT CR CH XR):=by
 refine F.okX R3 (fun vs H Q E h=>?_) (fun cdv A outer s0 H vs Q E hr h=>?_)
 · obtain⟨a,l,g,k,all,n,rfl,_⟩:=h;rfl
 · obtain⟨a,l,g,k,all,n,rfl,hA,q⟩:=h
   refine ⟨_,(G4 (Hh (Hl m_Hearer_heard TC.cl_Hearer (hr.mono (by decide)) (Hz mx_hearer_of TC.cl_Fan (hr.mono (by decide)) J7 (pv 0) (G0 (pv 1) GZ))))),?_⟩
   obtain⟨dx,h1⟩:=hA.ob
   rcases q with ⟨hn,q⟩ | ⟨hn,q⟩
   case inr=>
    exact ⟨_,rfl,a.p,dx,_,rfl,h1,Kb (.inr (.inr (.inl rfl))),_,rfl,a,l,g,k,all,n,rfl,hA,.inr ⟨hn,q⟩⟩
   have hB:=(hA.en n hn).ha
   obtain⟨dB,oB⟩:=hB.ob
   exact ⟨_,rfl,a.p,dx,_,rfl,h1,Kb (.inr (.inr (.inl rfl))),_,rfl,a,l,g,k,all,n,rfl,hA,.inl ⟨hn,(g n).B.p,dB,_,rfl,oB,Lh hB (.inr (.inr (.inr (.inr (.inr (.inl rfl)))))),(g n).B,_,[],rfl,hB,q⟩⟩
abbrev Ki:Stmt:=Hk (IF 23) 11
abbrev Vw:List Str:=["self","name"]
theorem Tc:FnScope Vw ["self","name"] (GV Ki):=⟨rfl,rfl,rfl,by decide +kernel,rfl,by decide +kernel,by decide +kernel⟩
theorem Sc{f CF CT CR CH XR:Addr}{fd:FuncData}(F:Fun K "lost" "Fan.lost" Ki f fd)(TC:TxtF K mg CF CT CR CH)(mx_hearer_of:CalleeMX P w K mg base 2 CF "hearer_of" ["self","name"] (KO CF CT CR CH XR))(m_Hearer_lost:CalleeM P w K mg base 1 CH "lost" ["self"] (UC CH)):FnOk P w K mg base (LX P w) 3 f fd ["self","name"] (Pm CF CT CR CH XR):=by
 refine F.okX Tc (fun vs H Q E h=>?_) (fun cdv A outer s0 H vs Q E hr h=>?_)
 · obtain⟨a,l,g,k,all,n,rfl,_⟩:=h;rfl
 · obtain⟨a,l,g,k,all,n,rfl,hA,q⟩:=h
   refine ⟨_,(G4 (Hh (Hl m_Hearer_lost TC.cl_Hearer (hr.mono (by decide)) (Hz mx_hearer_of TC.cl_Fan (hr.mono (by decide)) J7 (pv 0) (G0 (pv 1) GZ))))),?_⟩
   obtain⟨dx,h1⟩:=hA.ob
   rcases q with ⟨hn,q⟩ | ⟨hn,q⟩
   case inr=>
    exact ⟨_,rfl,a.p,dx,_,rfl,h1,Kb (.inr (.inr (.inl rfl))),_,rfl,a,l,g,k,all,n,rfl,hA,.inr ⟨hn,q⟩⟩
   have hB:=(hA.en n hn).ha
   obtain⟨dB,oB⟩:=hB.ob
   exact ⟨_,rfl,a.p,dx,_,rfl,h1,Kb (.inr (.inr (.inl rfl))),_,rfl,a,l,g,k,all,n,rfl,hA,.inl ⟨hn,(g n).B.p,dB,_,rfl,oB,Lh hB (.inr (.inr (.inr (.inr (.inr (.inr (.inr (.inr (.inl rfl))))))))),(g n).B,_,[],rfl,hB,q⟩⟩
abbrev Jv:Stmt:=Hk (IF 23) 12
abbrev Q0:List Str:=["self","name"]
theorem Pz:FnScope Q0 ["self","name"] (GV Jv):=⟨rfl,rfl,rfl,by decide +kernel,rfl,by decide +kernel,by decide +kernel⟩
theorem OF{f CF CT CR CH XR:Addr}{fd:FuncData}(F:Fun K "waiting" "Fan.waiting" Jv f fd)(TC:TxtF K mg CF CT CR CH)(mx_road_of:CalleeMX P w K mg base 2 CF "road_of" ["self","name"] (Pl CF CT CR CH XR))(m_Road_waiting:CalleeM P w K mg base 1 CR "waiting" ["self"] (Uz CR)):FnOk P w K mg base (LX P w) 3 f fd ["self","name"] (Pk CF CT CR CH XR):=by
 refine F.okX Pz (fun vs H Q E h=>?_) (fun cdv A outer s0 H vs Q E hr h=>?_)
 · obtain⟨a,l,g,k,all,n,rfl,_⟩:=h;rfl
 · obtain⟨a,l,g,k,all,n,rfl,hA,q⟩:=h
   refine ⟨_,(G4 (Hh (Hl m_Road_waiting TC.cl_Road (hr.mono (by decide)) (Hz mx_road_of TC.cl_Fan (hr.mono (by decide)) J7 (pv 0) (G0 (pv 1) GZ))))),?_⟩
   obtain⟨dx,h1⟩:=hA.ob
   rcases q with ⟨hn,q⟩ | ⟨hn,q⟩
   case inr=>
    exact ⟨_,rfl,a.p,dx,_,rfl,h1,Kb (.inr (.inl rfl)),_,rfl,a,l,g,k,all,n,rfl,hA,.inr ⟨hn,q⟩⟩
   have hR:=(hA.en n hn).ra
   obtain⟨dR,oR⟩:=hR.ob
   exact ⟨_,rfl,a.p,dx,_,rfl,h1,Kb (.inr (.inl rfl)),_,rfl,a,l,g,k,all,n,rfl,hA,.inl ⟨hn,(g n).p,dR,_,rfl,oR,aar (.inr (.inr (.inl rfl))),(g n).p,_,_,_,_,_,rfl,hR,q⟩⟩
abbrev KK:Stmt:=Hk (IF 23) 13
abbrev W8:List Str:=["self","name"]
theorem UJ:FnScope W8 ["self","name"] (GV KK):=⟨rfl,rfl,rfl,by decide +kernel,rfl,by decide +kernel,by decide +kernel⟩
theorem Tr{f CF CT CR CH XR:Addr}{fd:FuncData}(F:Fun K "lag" "Fan.lag" KK f fd)(TC:TxtF K mg CF CT CR CH)(mx_hearer_of:CalleeMX P w K mg base 2 CF "hearer_of" ["self","name"] (KO CF CT CR CH XR))(m_told:CalleeM P w K mg base 1 CT "told" ["self"] (UA CT))(m_Hearer_expects:CalleeM P w K mg base 1 CH "expects" ["self"] (Ky CH)):FnOk P w K mg base (LX P w) 3 f fd ["self","name"] (O1 CF CT CR CH XR):=by
 refine F.okX UJ (fun vs H Q E h=>?_) (fun cdv A outer s0 H vs Q E hr h=>?_)
 · obtain⟨a,l,g,k,all,n,rfl,_⟩:=h;rfl
 · obtain⟨a,l,g,k,all,n,rfl,hA,q⟩:=h
   refine ⟨_,(G4 (Hh (Hx JA (Hx Kj (Hl m_told TC.cl_Teller (hr.mono (by decide)) (Ho K (pv 0) rfl)) (Hl m_Hearer_expects TC.cl_Hearer (hr.mono (by decide)) (Hz mx_hearer_of TC.cl_Fan (hr.mono (by decide)) J7 (pv 0) (G0 (pv 1) GZ)))) G9))),?_⟩
   obtain⟨dx,h1⟩:=hA.ob
   rcases q with ⟨hn,q⟩ | ⟨hn,q⟩
   case inr=>
    obtain⟨dT,oT⟩:=hA.tl.ob
    exact ⟨_,rfl,a.p,CF,dx,_,_,rfl,h1,TC.cl_Fan,TC.R_Fan.n_teller,YM a,a.tp,dT,_,rfl,oT,OM (.inr (.inl rfl)),a.tp,_,_,_,_,_,rfl,hA.tl,_,rfl,a.p,dx,_,rfl,h1,Kb (.inr (.inr (.inl rfl))),_,rfl,a,l,g,k,all,n,rfl,hA,.inr ⟨hn,q⟩⟩
   have hB:=(hA.en n hn).ha
   obtain⟨dB,oB⟩:=hB.ob
   obtain⟨dT,oT⟩:=hA.tl.ob
   exact ⟨_,rfl,a.p,CF,dx,_,_,rfl,h1,TC.cl_Fan,TC.R_Fan.n_teller,YM a,a.tp,dT,_,rfl,oT,OM (.inr (.inl rfl)),a.tp,_,_,_,_,_,rfl,hA.tl,_,rfl,a.p,dx,_,rfl,h1,Kb (.inr (.inr (.inl rfl))),_,rfl,a,l,g,k,all,n,rfl,hA,.inl ⟨hn,(g n).B.p,dB,_,rfl,oB,Lh hB (.inl rfl),(g n).B,_,[],rfl,hB,_,_,rfl,rfl,_,_,rfl,rfl,q⟩⟩
abbrev JX:Stmt:=Hk (IF 23) 6
abbrev Uk:List Str:=["self"]
theorem R1:FnScope Uk ["self"] (GV JX):=⟨rfl,rfl,rfl,by decide +kernel,rfl,by decide +kernel,by decide +kernel⟩
theorem Si{f CF CT CR CH:Addr}{fd:FuncData}(F:Fun K "names" "Fan.names" JX f fd)(T:Txt mg)(TC:FanC K mg CF):FnOk P w K mg base Jg 1 f fd ["self"] (M0 CF CT CR CH):=by
 refine F.ok R1 (fun vs H Q E h=>?_) (fun cdv A outer s0 H vs Q E hr h=>?_)
 · obtain⟨a,l,g,k,all,rfl,_⟩:=h;rfl
 · obtain⟨a,l,g,k,all,rfl,hA,hl,q⟩:=h
   refine ⟨_,(G4 (Hh (Ij (ZV K rfl) (by rfl) T.b_sorted aCs (G0 (Ho K (pv 0) rfl) GZ)))),?_⟩
   obtain⟨dx,h1⟩:=hA.ob
   exact ⟨_,rfl,a.p,CF,dx,_,_,rfl,h1,TC.cl_Fan,TC.n_roads,Qk a,.ref a.rd,l,rfl,.inr ⟨a.rd,_,rfl,hA.rs,Wi l _⟩,hl,q⟩
abbrev Ja:Stmt:=Hk (IF 23) 0
abbrev QC:List Str:=["self","keep"]
theorem OD:FnScope QC ["self","keep"] (GV Ja):=⟨rfl,rfl,rfl,by decide +kernel,rfl,by decide +kernel,by decide +kernel⟩
theorem Ty{f CF CT CR CH:Addr}{fd:FuncData}(F:Fun K "__init__" "Fan.__init__" Ja f fd)(TC:TxtF K mg CF CT CR CH)(i_Teller:CalleeI P w K mg base 1 CT ["self","keep"] (OY CT)):FnOk P w K mg base Jg 3 f fd ["self","keep"] (RV CF CT CR CH):=by
 refine F.ok OD (fun vs H Q E h=>?_) (fun cdv A outer s0 H vs Q E hr h=>?_)
 · obtain⟨p,dx,k,rfl,_⟩:=h;rfl
 · obtain⟨p,dx,k,rfl,hp,q⟩:=h
   refine ⟨_,(GX (HM K (pv 0) (LL i_Teller (hr.mono (by decide)) TC.mg_Teller (G0 (pv 1) GZ)) rfl)
    (GX (HM K (pv 0) JN rfl)
    (G4 (HM K (pv 0) JN rfl)))),?_⟩
   refine ⟨_,rfl,?_⟩
   intro tp dx1 np1 nd1 nx1
   refine ⟨tp,dx1,k,rfl,GU,fun ts td H2 ns nd TA bu=>⟨rfl,?_⟩⟩
   have s0:=Stp.obj (o:=.own tp) (o':=.ins CT dx1 []) np1 nd1
   have s2:Same H H2:=fun b o ho=>bu b o (s0.same _ _ ho) (fun z=>by rw[z,np1] at ho;cases ho)
   have nts:H ts=none:=s0.free ns aAa
   have ntd:H td=none:=s0.free nd aAa
   have hp2:=s2 _ _ hp
   refine ⟨_,rfl,p,CF,dx,[],rfl,hp2,TC.cl_Fan,TC.R_Fan.n_teller,by decide,?_⟩
   have z1:=Stp.put (ps:=[p]) (o:=.ins CF dx (Hm "teller" (.ref tp) [])) hp2 (fun _ z=>by cases z) (by simp)
   have e1:=GU (H:=H2) (a:=p) (o:=.ins CF dx (Hm "teller" (.ref tp) []))
   generalize Hq H2 p (.ins CF dx (Hm "teller" (.ref tp) []))=H3 at z1 e1 ⊢
   intro rd nrd
   have g3:=Same.new (o:=.dK []) nrd
   have erd:=GU (H:=H3) (a:=rd) (o:=.dK [])
   have ep3:=g3 _ _ e1
   have nrp:rd≠p:=fun z=>by rw[z,e1] at nrd;cases nrd
   generalize Hq H3 rd (.dK [])=H4 at g3 erd ep3 ⊢
   refine ⟨_,rfl,p,CF,dx,_,rfl,ep3,TC.cl_Fan,TC.R_Fan.n_roads,(show 1 < 1000 by decide),?_⟩
   have z2:=Stp.put (ps:=[p]) (o:=.ins CF dx (Hm "roads" (.ref rd) (Hm "teller" (.ref tp) []))) ep3 (fun _ z=>by cases z) (by simp)
   have e2:=GU (H:=H4) (a:=p) (o:=.ins CF dx (Hm "roads" (.ref rd) (Hm "teller" (.ref tp) [])))
   have erd2:=z2.keep erd (by simp[nrp])
   generalize Hq H4 p (.ins CF dx (Hm "roads" (.ref rd) (Hm "teller" (.ref tp) [])))=H5 at z2 e2 erd2 ⊢
   intro hd nhd
   have g5:=Same.new (o:=.dK []) nhd
   have ehd:=GU (H:=H5) (a:=hd) (o:=.dK [])
   have ep5:=g5 _ _ e2
   have erd5:=g5 _ _ erd2
   have nhp:hd≠p:=fun z=>by rw[z,e2] at nhd;cases nhd
   have nhr:hd≠rd:=fun z=>by rw[z,erd2] at nhd;cases nhd
   generalize Hq H5 hd (.dK [])=H6 at g5 ehd ep5 erd5 ⊢
   refine ⟨_,rfl,p,CF,dx,_,rfl,ep5,TC.cl_Fan,TC.R_Fan.n_hearers,(show 2 < 1000 by decide),?_⟩
   rw[show Hm "hearers" (.ref hd) (Hm "roads" (.ref rd) (Hm "teller" (.ref tp) []))=Up ⟨p,rd,hd,tp,ts,td⟩ from YN ⟨p,rd,hd,tp,ts,td⟩]
   have z3:=Stp.put (ps:=[p]) (o:=.ins CF dx (Up ⟨p,rd,hd,tp,ts,td⟩)) ep5 (fun _ z=>by cases z) (by simp)
   have e3:=GU (H:=H6) (a:=p) (o:=.ins CF dx (Up ⟨p,rd,hd,tp,ts,td⟩))
   have erd7:=z3.keep erd5 (by simp[nrp])
   have ehd7:=z3.keep ehd (by simp[nhp])
   generalize Hq H6 p (.ins CF dx (Up ⟨p,rd,hd,tp,ts,td⟩))=H7 at z3 e3 erd7 ehd7 ⊢
   have w:Stp [p] H2 [p] H7:=(((z1.trans (g3.step _)).trans z2).trans (g5.step _)).trans z3
   have ntp:∀c∈[tp,ts,td],c≠p:=fun c hc z=>by
    simp only[aAg,aAa,aBa] at hc
    rcases hc with rfl | rfl | rfl
    · rw[z,hp] at np1;cases np1
    · rw[z,hp] at nts;cases nts
    · rw[z,hp] at ntd;cases ntd
   have TA7:=TA.stp w (fun c hc=>by simp[ntp c hc])
   have nrd2:H2 rd=none:=z1.free nrd (by simp[nrp])
   have nhd2:H2 hd=none:=((z1.trans (g3.step _)).trans z2).free nhd (by simp[nhp])
   have l3:=TA.live3
   refine q ⟨p,rd,hd,tp,ts,td⟩ H7 rfl (fun g=>⟨⟨⟨dx,e3⟩,TA7,ehd7,fun n hn=>absurd hn aAa,aBk,fun n hn=>absurd hn aAa,fun n hn=>absurd hn aAa,by simp[nrp,nhr.symm],fun c hc z=>?_⟩,erd7⟩) ⟨fun c o ho hc=>w.but c o (s2 _ _ ho) hc,s2.tups.trans w.tup,fun c hc=>?_⟩
   · simp only[aAg,aAa,aBa] at hc
     obtain⟨o,ho⟩:=l3 c z
     rcases hc with rfl | rfl | rfl
     · exact ntp _ z rfl
     · rw[nrd2] at ho;cases ho
     · rw[nhd2] at ho;cases ho
   · simp only[FA.own,aAg,aAa,aBa] at hc
     rcases hc with rfl | rfl | rfl | rfl | rfl | rfl
     · exact .inl (by simp)
     · exact .inr ((s2.step []).free nrd2 aAa)
     · exact .inr ((s2.step []).free nhd2 aAa)
     · exact .inr np1
     · exact .inr nts
     · exact .inr ntd
abbrev Kh:Stmt:=Hk (IF 23) 7
abbrev Vv:List Str:=["self","topic","text","number","road"]
theorem sc_Fan_tell:FnScope Vv ["self","topic","text"] (GV Kh):=⟨rfl,rfl,rfl,by decide +kernel,rfl,by decide +kernel,by decide +kernel⟩
theorem Tx{f CF CT CR CH:Addr}{fd:FuncData}(F:Fun K "tell" "Fan.tell" Kh f fd)(TC:TxtF K mg CF CT CR CH)(m_Teller_tell:CalleeM P w K mg base 1 CT "tell" ["self","topic","text"] (UB CT))(m_Road_put:CalleeM P w K mg base 4 CR "put" ["self","message"] (Xh CR)):FnOk P w K mg base Jg 5 f fd ["self","topic","text"] (RT CF CT CR CH):=by
 refine F.ok sc_Fan_tell (fun vs H Q E h=>?_) (fun cdv A outer s0 H vs Q E hr h=>?_)
 · obtain⟨a,l,g,k,all,t,x,rfl,_⟩:=h;rfl
 · obtain⟨a,l,g,k,all,t,x,rfl,hA,hal,hk,hl,hroom,q⟩:=h
   refine ⟨_,(GX (Hs (i:=3) sc_Fan_tell.nd rfl (Or.inl rfl) (JS m_Teller_tell TC.cl_Teller (hr.mono (by decide)) (Ho K (pv 0) rfl) (G0 (pv 1) (GW (pv 2) GZ))))
    (GX (VM (J5 aBc rfl (Zx (TY K aBD aBY aCp N3 (Ho K (pv 0) rfl))) (Hn (i:=4) sc_Fan_tell.nd rfl (Or.inl rfl)) (G4 (Hr (JS m_Road_put TC.cl_Road (hr.mono (by decide)) (pv 4) (G0 (Iw (GW (pv 3) (GW (pv 1) (GW (pv 2) GZ)))) GZ))))))
    (G4 (Hh (pv 3))))),?_⟩
   obtain⟨dx,h1⟩:=hA.ob
   obtain⟨dT,oT⟩:=hA.tl.ob
   refine ⟨_,rfl,a.p,CF,dx,_,_,rfl,h1,TC.cl_Fan,TC.R_Fan.n_teller,YM a,a.tp,dT,_,rfl,oT,OM (.inl rfl),_,rfl,_,rfl,a.tp,t,x,k,0,all,a.ts,a.td,rfl,hA.tl,hal,hk,fun H2 TA2 bu=>?_⟩
   have ⟨hA2,w2⟩:=hA.told TA2 ⟨bu,hA.tl.tups bu,fun c hc=>.inl hc⟩
   obtain⟨dx2,h2⟩:=hA2.ob
   have hfz:∀(o:Obj) (u:HO),H a.rd=some (.frz o u)→False:=fun o u e=>by rw[hA.rs] at e;cases e
   refine ⟨_,rfl,a.p,CF,dx2,_,_,rfl,h2,TC.cl_Fan,TC.R_Fan.n_roads,Qk a,.inr (.inr (.inl ⟨rfl,.inl ⟨_,hA2.rs⟩⟩)),a.rd,_,rfl,rfl,hA2.rs,fun pv npv=>?_⟩
   have g3:=Same.new (o:=K0 pv a.rd) npv
   refine ⟨pv,a.rd,_,rfl,GU,g3 _ _ hA2.rs,hfz,fun ob=>?_⟩
   have hA3:=hA2.same g3
   have z4:=Stp.put (ps:=[a.rd]) (o:=.frz ob (.dK (M8 l g))) hA3.rs (fun _ z=>by cases z) (by simp)
   have hA4:=hA3.toFAt0.step z4 (fun c _ hne z=>hne (aAc.mp z))
   have e4:=GU (H:=Hq H2 pv (K0 pv a.rd)) (a:=a.rd) (o:=.frz ob (.dK (M8 l g)))
   have rdo:a.rd∈a.own:=by simp[FA.own]
   have w4:Stp (a.fp l g) H (a.fp l g) (Hq (Hq H2 pv (K0 pv a.rd)) a.rd (.frz ob (.dK (M8 l g)))):=(w2.trans (g3.step _)).trans (z4.up fun c hc=>aAj _ (by rw[aAc] at hc;rw[hc];exact rdo))
   generalize Hq (Hq H2 pv (K0 pv a.rd)) a.rd (.frz ob (.dK (M8 l g)))=H4 at hA4 e4 w4 ⊢
   clear g3 z4 hA3
   generalize hm:(⟨(all.length:Int) + 1,t,x⟩:Msg)=m at hA4 q
   refine YL (n:=(M8 l g).length) (fun i σ H'=>∃o4 gi,σ=[some (.ref a.p),some (.str t),some (.str x),some (.int ((all.length:Int) + 1)),o4]∧FAt0 CF CT CR CH H' a l gi k (all ++ [m])∧H' a.rd=some (.frz ob (.dK (M8 l g)))∧(∀n,(gi n).p=(g n).p)∧(∀n∈l,(n∈l.take i→FPut m (g n) (gi n))∧(n∉l.take i→gi n=g n))∧Stp (a.fp l g) H (a.fp l gi) H')
    ⟨_,g,rfl,hA4,e4,fun n=>rfl,fun n hn=>⟨fun z=>absurd z (by rw[aDq];exact aAa),fun _=>rfl⟩,w4⟩ ?_ ?_
   · rintro i σ H' hi ⟨o4,gi,rfl,hA',e',hpp,hin,w'⟩
     refine ⟨⟨e',hi⟩,?_⟩
     rintro y H5 ⟨rfl,kv,hkv,rfl⟩
     have hi':i < l.length:=by rw[M8,MW] at hi;exact hi
     have hkv':kv=(Sum.inr l[i],V.ref (g l[i]).p):=by
      unfold M8 LZ at hkv
      rw[aAH,aAd hi'] at hkv
      exact (aAi hkv).symm
     subst hkv'
     have hn:=aAO hi'
     have hni:l[i]∉l.take i:=fun z=>by
      obtain⟨j,hj,e⟩:=aAS z
      rw[aAM] at hj
      rw[aDa] at e
      exact aAZ.mp hA.nd j i (by omega) hi' (by omega) e
     have hgi:=(hin _ hn).2 hni
     have hrm:=hroom _ hn
     have hE:=hA'.en _ hn
     have hp0:=hpp l[i]
     generalize hnm:l[i]=n at *
     rw[hgi] at hE hp0
     obtain⟨dR,oR⟩:=hE.ra.ob
     refine HN ⟨_,rfl,(g n).p,dR,_,rfl,oR,aar (.inl rfl),_,rfl,_,rfl,_,rfl,(show 3≤sizeLine by decide),fun c nc=>?_⟩
     have g5:Same H5 (Hq H5 c (mT m)):=Same.new nc
     have hc5:(Hq H5 c (mT m)) c=some (mT m):=GU
     have hmT:(HO.tup [V.int ((all.length:Int) + 1),V.str t,V.str x])=mT m:=by rw[←hm];rfl
     rw[hmT]
     have hA5:=hA'.step (g5.step []) (fun _ _ _=>aAa)
     have hE5:=hE.same g5
     have e5:=g5 _ _ e'
     generalize Hq H5 c (mT m)=H6 at g5 hc5 hA5 hE5 e5 ⊢
     refine ⟨(g n).p,c,m,_,_,_,_,_,rfl,hE5.ra,hc5,hrm.1,hrm.2,fun r' H7 RA7 st7=>?_⟩
     have ⟨e1,t1⟩:=hE5.road st7 RA7
     have ⟨hA7,w7⟩:=hA5.put (e:={ g n with s:=JC (g n).sz (g n).way (g n).s m,r:=r' }) hn ⟨_,e5⟩ (by rw[hgi];exact t1) e1 (by rw[hgi]) (by rw[hgi])
     refine ⟨_,Lj gi n { g n with s:=JC (g n).sz (g n).way (g n).s m,r:=r' },rfl,hA7,st7.keep e5 (fun z=>hA.own n hn a.rd (aAj _ z) rdo),fun n'=>?_,fun n' hn'=>⟨fun z=>?_,fun z=>?_⟩,(w'.trans (g5.step _)).trans w7⟩
     · by_cases y:n'=n
       · subst y;rw[HV]
       · rw[JB y];exact hpp n'
     · by_cases y:n'=n
       · subst y;rw[HV];exact ⟨rfl,rfl,rfl,rfl⟩
       · rw[JB y]
         refine (hin n' hn').1 ?_
         rw[aAF,aAd hi',hnm] at z
         rcases aAx.mp z with u | u
         · exact u
         · exact absurd (aAc.mp u) y
     · have y:n'≠n:=fun y=>z (by
        rw[aAF,aAd hi',hnm,y]
        exact aAu _ (by simp))
       rw[JB y]
       refine (hin n' hn').2 fun u=>z ?_
       rw[aAF]
       exact aAj _ u
   rintro σ H5 ⟨o4,gi,rfl,hA5,e5,hpp,hin,w5⟩
   refine ⟨⟨e5,aAh _⟩,a.rd,ob,_,e5,hfz,?_⟩
   have z6:=Stp.put (ps:=[a.rd]) (o:=.dK (M8 l g)) e5 (fun _ z=>by cases z) (by simp)
   have hA6:=hA5.step z6 (fun c _ hne z=>hne (aAc.mp z))
   have eT:M8 l gi=M8 l g:=KN fun n _=>by rw[hpp n]
   refine ⟨_,rfl,q gi _ ⟨hA6,by rw[eT];exact GU⟩ (fun n hn=>(hin n hn).1 ?_) (w5.trans (z6.up fun c hc=>aAj _ (by rw[aAc] at hc;rw[hc];exact rdo)))⟩
   rw[M8,MW,aAW];exact hn
abbrev JZ:Stmt:=Hk (IF 23) 2
abbrev Um:List Str:=["self","name"]
theorem R4:FnScope Um ["self","name"] (GV JZ):=⟨rfl,rfl,rfl,by decide +kernel,rfl,by decide +kernel,by decide +kernel⟩
theorem NC(F:Str→V)(n:Str):∀l:List Str,Kp (LZ l F) (Sum.inr n)=LZ (l.filter fun m=>decide (m≠n)) F
 | []=>rfl
 | m :: r=>by
   have ih:=NC F n r
   unfold Kp LZ at ih ⊢
   rw[aAr,aBO,aBO]
   by_cases z:m=n
   · rw[aAz (by simp[z]),aAz (by simp[z])];exact ih
   · rw[aAE (by simp[z]),aAE (by simp[z]),aAr,ih]
theorem QJ{f CF CT CR CH XR:Addr}{fd:FuncData}(F:Fun K "close" "Fan.close" JZ f fd)(TC:FanC K mg CF)(mx_refuse_unknown:CalleeMX P w K mg base 1 CF "refuse_unknown" ["self","name"] (L0 CF CT CR CH XR)):FnOk P w K mg base (LX P w) 2 f fd ["self","name"] (NE CF CT CR CH XR):=by
 refine F.okX R4 (fun vs H Q E h=>?_) (fun cdv A outer s0 H vs Q E hr h=>?_)
 · obtain⟨a,l,g,k,all,n,rfl,_⟩:=h;rfl
 · obtain⟨a,l,g,k,all,n,rfl,hA,q⟩:=h
   refine ⟨_,(GX (Hr (Hz mx_refuse_unknown TC.cl_Fan (hr.mono (by decide)) J7 (pv 0) (G0 (pv 1) GZ)))
    (GX (Hr (PQ (Ho K (pv 0) rfl) (pv 1) ⟨rfl,rfl,rfl,rfl⟩))
    (G4 (Hr (PQ (Ho K (pv 0) rfl) (pv 1) ⟨rfl,rfl,rfl,rfl⟩))))),?_⟩
   obtain⟨dx,h1⟩:=hA.ob
   rcases q with ⟨hn,q⟩ | ⟨hn,q⟩
   case inr=>exact ⟨_,rfl,a.p,dx,_,rfl,h1,Kb (.inl rfl),_,rfl,a,l,g,k,all,n,rfl,hA,.inr ⟨hn,q⟩⟩
   refine ⟨_,rfl,a.p,dx,_,rfl,h1,Kb (.inl rfl),_,rfl,a,l,g,k,all,n,rfl,hA,.inl ⟨hn,_,rfl,a.p,CF,dx,_,_,rfl,h1,TC.cl_Fan,TC.n_roads,Qk a,a.rd,rfl,.inl ⟨_,.inl hA.rs⟩,_,rfl,_,Sum.inr n,_,hA.rs,rfl,Lk hn,?_⟩⟩
   have z1:=Stp.put (ps:=[a.rd]) (o:=.dK (Kp (M8 l g) (Sum.inr n))) hA.rs (fun _ z=>by cases z) (by simp)
   have e1:=GU (H:=H) (a:=a.rd) (o:=.dK (Kp (M8 l g) (Sum.inr n)))
   have hA1:=hA.toFAt0.step z1 (fun c _ hne z=>hne (aAc.mp z))
   generalize Hq H a.rd (.dK (Kp (M8 l g) (Sum.inr n)))=H1 at z1 e1 hA1 ⊢
   obtain⟨dx2,h2⟩:=hA1.ob
   refine ⟨_,rfl,a.p,CF,dx2,_,_,rfl,h2,TC.cl_Fan,TC.n_hearers,YO a,a.hd,rfl,.inl ⟨_,.inl hA1.hs⟩,_,rfl,_,Sum.inr n,_,hA1.hs,rfl,Lk hn,?_⟩
   have z2:=Stp.put (ps:=[a.hd]) (o:=.dK (Kp (WK l g) (Sum.inr n))) hA1.hs (fun _ z=>by cases z) (by simp)
   have e2:=GU (H:=H1) (a:=a.hd) (o:=.dK (Kp (WK l g) (Sum.inr n)))
   have nrh:a.rd≠a.hd:=fun z=>hA.ne (by simp[z])
   have e12:=z2.keep e1 (by simp[nrh])
   generalize Hq H1 a.hd (.dK (Kp (WK l g) (Sum.inr n)))=H2 at z2 e2 e12 ⊢
   have nph:a.p≠a.hd:=HY h2 hA1.hs (by intro z;cases z)
   have sub:∀m∈l.filter (fun m=>decide (m≠n)),m∈l:=fun m hm=>(aBp.mp hm).1
   refine q H2 ⟨⟨⟨dx2,z2.keep h2 (by simp[nph])⟩,hA1.tl.stp z2 (fun c hc z=>hA.bt a.hd (by simp) (by rw[aAc] at z;rw[←z];exact hc)),by rw[e2,WK,NC];rfl,fun m hm=>(hA1.en m (sub m hm)).step z2 (fun c hc z=>hA.own m (sub m hm) c hc (by rw[aAc] at z;rw[z];simp[FA.own])),List.Pairwise.filter _ hA.nd,fun m hm m' hm'=>hA.ap m (sub m hm) m' (sub m' hm'),fun m hm=>hA.own m (sub m hm),hA.ne,hA.bt⟩,by rw[e12,M8,NC];rfl⟩ ?_
   have w1:Stp (a.fp l g) H (a.fp l g) H2:=(z1.up fun c hc=>aAj _ (by rw[aAc] at hc;rw[hc];simp[FA.own])).trans (z2.up fun c hc=>aAj _ (by rw[aAc] at hc;rw[hc];simp[FA.own]))
   exact ⟨w1.1,w1.2,fun c hc=>by
    rcases aAx.mp hc with z | z
    · exact .inl (aAj _ z)
    · obtain⟨m,hm,hc⟩:=mem_fpF.mp z
      exact .inl (aAu _ (mem_fpF.mpr ⟨m,sub m hm,hc⟩))⟩
abbrev KJ:Stmt:=Hk (IF 23) 1
abbrev W7:List Str:=["self","name","size","way"]
theorem UI:FnScope W7 ["self","name","size","way"] (GV KJ):=⟨rfl,rfl,rfl,by decide +kernel,rfl,by decide +kernel,by decide +kernel⟩
theorem Tq{f CF CT CR CH XR:Addr}{fd:FuncData}(F:Fun K "lay" "Fan.lay" KJ f fd)(TC:TxtF K mg CF CT CR CH)(x_Taken:Exc K mg "Taken" XR)(i_Road:CalleeI P w K mg base 1 CR ["self","size","way"] (OZ CR))(i_Hearer:CalleeI P w K mg base 1 CH ["self"] (Me CH)):FnOk P w K mg base (LX P w) 3 f fd ["self","name","size","way"] (O0 CF CT CR CH XR):=by
 refine F.okX UI (fun vs H Q E h=>?_) (fun cdv A outer s0 H vs Q E hr h=>?_)
 · obtain⟨a,l,g,k,all,n,sz,way,rfl,_⟩:=h;rfl
 · obtain ⟨a,l,g,k,all,n,sz,way,rfl,hA,q⟩:=h
   refine ⟨_,(GX (IA (PN (XW (Jk hr) (pv 1) (Ho K (pv 0) rfl))) (G4 (KQ x_Taken (G0 Hw GZ))) HP)
    (GX (J6 (Jk hr) (Ho K (pv 0) rfl) (pv 1) (LL i_Road (hr.mono (by decide)) TC.mg_Road (G0 (pv 2) (GW (pv 3) GZ))) rfl)
    (G4 (J6 (Jk hr) (Ho K (pv 0) rfl) (pv 1) (Nr i_Hearer (hr.mono (by decide)) TC.mg_Hearer) rfl)))),?_⟩
   obtain⟨dx,h1⟩:=hA.ob
   refine ⟨_,rfl,_,rfl,a.p,CF,dx,_,_,rfl,h1,TC.cl_Fan,TC.R_Fan.n_roads,Qk a,a.rd,_,rfl,DGet.k (k:=Sum.inr n) hA.rs,_,rfl,?_⟩
   rcases q with ⟨hn,hl,q⟩ | ⟨hn,q⟩
   case inr=>
    rw[show Jh (M8 l g) (Sum.inr n)=some (.ref (g n).p) from Lk hn]
    exact Lb ⟨(show 1≤sizeLine by decide),q⟩
   rw[show Jh (M8 l g) (Sum.inr n)=none from NB hn]
   refine Jj ⟨_,rfl,_,rfl,?_⟩
   intro p1 dx1 np1 nd1 nx1
   refine ⟨p1,dx1,sz,way,rfl,GU,fun r d H2 RA st2=>⟨rfl,?_⟩⟩
   have v2:Stp [] H [p1,r,d] H2:=(Stp.obj (o:=.own p1) (o':=.ins CR dx1 []) np1 nd1).trans st2
   have hA2:=hA.step v2 fun _ _=>aAa
   have o2:∀c∈a.fp l g,c∉[p1,r,d]:=hA.out v2 fun _ _=>aAa
   obtain⟨dx2,h2⟩:=hA2.ob
   have hkr:(M8 l g).length < sizeLine:=by rw[M8,MW,aAs];omega
   have hkh:(WK l g).length < sizeLine:=by rw[WK,MW,aAs];omega
   refine ⟨_,rfl,a.p,CF,dx2,_,_,rfl,h2,TC.cl_Fan,TC.R_Fan.n_roads,Qk a,_,rfl,a.rd,_,rfl,DPut.k (k:=Sum.inr n) hA2.rs hkr,?_⟩
   have z3:=Stp.put (ps:=[a.rd]) (o:=.dK (Ir (M8 l g) (Sum.inr n) (.ref p1))) hA2.rs (fun _ z=>by cases z) (by simp)
   have erd:=GU (H:=H2) (a:=a.rd) (o:=.dK (Ir (M8 l g) (Sum.inr n) (.ref p1)))
   have rdo:a.rd∈a.own:=by simp[FA.own]
   have hdo:a.hd∈a.own:=by simp[FA.own]
   have own_fp:∀c∈a.own,c∈a.fp l g:=fun c hc=>aAj _ hc
   have RA3:=RA.step z3 (fun c hc z=>o2 a.rd (own_fp _ rdo) (by rw[aAc] at z;rw[←z];exact hc))
   have hA3:=hA2.toFAt0.step z3 (fun c _ hne z=>hne (aAc.mp z))
   generalize Hq H2 a.rd (.dK (Ir (M8 l g) (Sum.inr n) (.ref p1)))=H3 at z3 erd RA3 hA3 ⊢
   intro p2 dx3 np2 nd2 nx2
   refine ⟨p2,dx3,rfl,GU,fun B H4 ep hB st4=>⟨rfl,?_⟩⟩
   subst ep
   have v4:Stp [] H3 B.fp H4:=(Stp.obj (o:=.own B.p) (o':=.ins CH dx3 []) np2 nd2).trans st4
   have hA4:=hA3.step v4 (fun _ _ _=>aAa)
   have RA4:=RA3.step v4 (fun _ _=>aAa)
   have oR:∀c∈[p1,r,d],c∉B.fp:=RA3.out v4 fun _ _=>aAa
   have erd4:=v4.keep erd aAa
   have w3:Stp [a.rd] H [a.rd] H3:=((v2.weak (qs:=[a.rd]) (qs':=[a.rd]) (fun _ z=>absurd z aAa) fun c hc=>.inr hc)).trans z3
   have o4:∀c∈a.fp l g,c∉B.fp:=fun c hc=>by
    obtain⟨o,ho⟩:=hA.live c hc
    by_cases z:c=a.rd
    · rw[z];exact v4.out erd aAa
    · exact v4.out (w3.keep ho (by simp[z])) aAa
   obtain⟨dx4,h4⟩:=hA4.ob
   refine ⟨_,rfl,a.p,CF,dx4,_,_,rfl,h4,TC.cl_Fan,TC.R_Fan.n_hearers,YO a,_,rfl,a.hd,_,rfl,DPut.k (k:=Sum.inr n) hA4.hs hkh,?_⟩
   have z5:=Stp.put (ps:=[a.hd]) (o:=.dK (Ir (WK l g) (Sum.inr n) (.ref B.p))) hA4.hs (fun _ z=>by cases z) (by simp)
   have ehd:=GU (H:=H4) (a:=a.hd) (o:=.dK (Ir (WK l g) (Sum.inr n) (.ref B.p)))
   have nrh:a.rd≠a.hd:=fun z=>hA.ne (by simp[z])
   have erd5:=z5.keep erd4 (by simp[nrh])
   generalize Hq H4 a.hd (.dK (Ir (WK l g) (Sum.inr n) (.ref B.p)))=H5 at z5 ehd erd5 ⊢
   have nph:a.p≠a.hd:=HY h4 hA4.hs (by intro z;cases z)
   have hE:FEAt CR CH H5 ⟨p1,r,d,sz,way,⟨[],[],false⟩,B,Ot⟩:=⟨RA4.step z5 (fun c hc z=>o2 a.hd (own_fp _ hdo) (by rw[aAc] at z;rw[←z];exact hc)),hB.step z5 (fun c hc z=>o4 a.hd (own_fp _ hdo) (by rw[aAc] at z;rw[←z];exact hc)),oR⟩
   have efp:∀c,c∈FE.fp ⟨p1,r,d,sz,way,⟨[],[],false⟩,B,Ot⟩↔c∈[p1,r,d]∨c∈B.fp:=fun c=>aAx
   have oE:∀c∈a.fp l g,c∉FE.fp ⟨p1,r,d,sz,way,⟨[],[],false⟩,B,Ot⟩:=fun c hc z=>((efp c).mp z).elim (o2 c hc) (o4 c hc)
   have up_ne:∀m∈l,Lj g n ⟨p1,r,d,sz,way,⟨[],[],false⟩,B,Ot⟩ m=g m:=fun m hm=>JB (fun z=>hn (z ▸ hm))
   have fpm:∀m∈l,∀c∈(g m).fp,c∈a.fp l g:=fun m hm c hc=>aAu _ (mem_fpF.mpr ⟨m,hm,hc⟩)
   have mem':∀m∈l ++ [n],m∈l∨m=n:=fun m hm=>by simpa using hm
   refine q ⟨p1,r,d,sz,way,⟨[],[],false⟩,B,Ot⟩ H5 ⟨⟨⟨dx4,z5.keep h4 (by simp[nph])⟩,hA4.tl.stp z5 (fun c hc z=>hA.bt a.hd (by simp) (by rw[aAc] at z;rw[←z];exact hc)),?_,fun m hm=>?_,?_,fun m hm m' hm' hne c hc=>?_,fun m hm c hc=>?_,hA.ne,hA.bt⟩,?_⟩ rfl rfl rfl rfl ?_
   · rw[ehd]
     have e:=Q6 (F:=fun n=>V.ref (g n).B.p) hn (.ref B.p)
     rw[WK,e]
     refine aA2 (fun x=>some (HO.dK x)) (KN fun m hm=>?_)
     show (if m=n then V.ref B.p else V.ref (g m).B.p)=_
     by_cases z:m=n
     · subst z;rw[aAE rfl,HV]
     · rw[aAz z,JB z]
   · rcases mem' m hm with z | rfl
     · rw[up_ne m z]
       exact (hA4.en m z).step z5 (fun c hc y=>hA.own m z c hc (by rw[aAc] at y;rw[y];exact hdo))
     · rw[HV];exact hE
   · exact aBF.mpr ⟨hA.nd,by simp,fun x hx y hy e=>by simp at hy;rw[hy] at e;rw[e] at hx;exact hn hx⟩
   · rcases mem' m hm with z | rfl
     · rw[up_ne m z] at hc
       rcases mem' m' hm' with z' | rfl
       · rw[up_ne m' z'];exact hA.ap m z m' z' hne c hc
       · rw[HV];exact oE c (fpm m z c hc)
     · rw[HV] at hc
       rcases mem' m' hm' with z' | rfl
       · rw[up_ne m' z'];exact fun y=>oE c (fpm m' z' c y) hc
       · exact absurd rfl hne
   · rcases mem' m hm with z | rfl
     · rw[up_ne m z] at hc;exact hA.own m z c hc
     · rw[HV] at hc;exact fun y=>oE c (own_fp c y) hc
   · rw[erd5]
     have e:=Q6 (F:=fun n=>V.ref (g n).p) hn (.ref p1)
     rw[M8,e]
     refine aA2 (fun x=>some (HO.dK x)) (KN fun m hm=>?_)
     show (if m=n then V.ref p1 else V.ref (g m).p)=_
     by_cases z:m=n
     · subst z;rw[aAE rfl,HV]
     · rw[aAz z,JB z]
   · refine ⟨fun c o ho hc=>z5.keep (v4.keep (w3.keep ho (fun z=>hc ?_)) aAa) (fun z=>hc ?_),(w3.tup.trans v4.tup).trans z5.tup,fun c hc=>?_⟩
     · rw[aAc] at z;rw[z];exact own_fp _ rdo
     · rw[aAc] at z;rw[z];exact own_fp _ hdo
     · rcases aAx.mp hc with z | z
       · exact .inl (own_fp c z)
       · obtain⟨m,hm,hc⟩:=mem_fpF.mp z
         rcases mem' m hm with y | rfl
         · rw[up_ne m y] at hc;exact .inl (fpm m y c hc)
         · rw [HV] at hc
           rcases (efp c).mp hc with y | y
           · rcases v2.3 c y with u | u
             · exact absurd u aAa
             · exact .inr u
           · rcases v4.3 c y with u | u
             · exact absurd u aAa
             · rcases w3.free' u with t | t
               · rw[aAc] at t;exact .inl (by rw[t];exact own_fp _ rdo)
               · exact .inr t
abbrev Iz:Stmt:=Hk (IF 23) 14
abbrev Li:List Str:=["self","greatest"]
theorem sc_Fan_slowest:FnScope Li ["self"] (GV Iz):=⟨rfl,rfl,rfl,by decide +kernel,rfl,by decide +kernel,by decide +kernel⟩
theorem P5{f CF CT CR CH XR:Addr}{fd:FuncData}(F:Fun K "slowest" "Fan.slowest" Iz f fd)(T:Txt mg)(TC:TxtF K mg CF CT CR CH)(m_names:CalleeM P w K mg base 1 CF "names" ["self"] (M0 CF CT CR CH))(mx_lag:CalleeMX P w K mg base 3 CF "lag" ["self","name"] (O1 CF CT CR CH XR)):FnOk P w K mg base Jg 4 f fd ["self"] (RU CF CT CR CH):=by
 refine F.ok sc_Fan_slowest (fun vs H Q E h=>?_) (fun cdv A outer s0 H vs Q E hr h=>?_)
 · obtain⟨a,l,g,k,all,rfl,_⟩:=h;rfl
 · obtain⟨a,l,g,k,all,rfl,hA,hl,q⟩:=h
   refine ⟨_,(GX (Hs (i:=1) sc_Fan_slowest.nd rfl (Or.inr rfl) (Yx K rfl (Km (N':=["name","self"]) (ix:=[none,some 0]) (own:=[0]) rfl (LA (osc:=GV Iz) (ON:=Li) rfl rfl (by decide +kernel)) (by decide) (HQ K (Hl m_names TC.cl_Fan (hr.mono (by decide)) (pv 0))) (fun _ _ _ _=>(Hn (i:=0) (show (["name","self"]:List Str).Nodup by decide +kernel) rfl (Or.inl rfl))) Jb (fun _ _ _ _=>Lp) (fun _ _ _ _=>(Hz mx_lag TC.cl_Fan (hr.mono (by decide)) Ia (pv 1) (G0 (pv 0) GZ)))) T.b_max))
    (G4 (Hh (Km (N':=["name","self","greatest"]) (ix:=[none,some 0,some 1]) (own:=[0]) rfl (LA (osc:=GV Iz) (ON:=Li) rfl rfl (by decide +kernel)) (by decide) (HQ K (Hl m_names TC.cl_Fan (hr.mono (by decide)) (pv 0))) (fun _ _ _ _=>(Hn (i:=0) (show (["name","self","greatest"]:List Str).Nodup by decide +kernel) rfl (Or.inl rfl))) Jb (fun _ _ _ _=>(KR (Hu L6 (Hz mx_lag TC.cl_Fan (hr.mono (by decide)) Ia (pv 1) (G0 (pv 0) GZ)) (pv 2) (Hy _)))) (fun _ _ _ _=>(pv 0)))))),?_⟩
   obtain⟨dx,h1⟩:=hA.ob
   refine ⟨_,rfl,a.p,dx,_,rfl,h1,Kb (.inr (.inr (.inr (.inl rfl)))),a,l,g,k,all,rfl,hA,hl,fun q1 ts nq1 hts=>?_⟩
   have g1:=Same.new (o:=.lst (ts.map V.str)) nq1
   have eq1:=GU (H:=H) (a:=q1) (o:=.lst (ts.map V.str))
   have hA1:=hA.same g1
   generalize Hq H q1 (.lst (ts.map V.str))=H1 at g1 eq1 hA1 ⊢
   have lts:ts.length=l.length:=hts.perm.length_eq
   have mts:∀n∈ts,n∈l:=fun n hn=>hts.perm.mem_iff.mp hn
   refine ⟨q1,rfl,⟨_,SqL.ofL eq1⟩,ts.length,fun i ys H'=>Same H1 H'∧ys=((ts.take i).map fun n=>LV all (g n)).map V.int,Zf (by omega),⟨Same.refl _,rfl⟩,?_,?_⟩
   · rintro i ys H' hi ⟨sH,rfl⟩
     have ei:(ts.map V.str)[i]?=some (V.str ts[i]):=by rw[aAH,aAd hi];rfl
     refine ⟨⟨_,_,SqL.ofL (sH _ _ eq1),ei⟩,?_⟩
     rintro x H3 ⟨rfl,hx⟩
     have hx':=hx _ (SqL.ofL (sH _ _ eq1))
     rw[ei] at hx'
     obtain rfl:=aAi hx'
     have hA':=hA1.same sH
     obtain⟨dx',h1'⟩:=hA'.ob
     refine HN ⟨_,rfl,a.p,dx',_,rfl,h1',Kb (.inr (.inr (.inr (.inr (.inr (.inr (.inr (.inr (.inr (.inr (.inl rfl))))))))))),_,rfl,a,l,g,k,all,ts[i],rfl,hA',.inl ⟨mts _ (aAO hi),sH,?_⟩⟩
     rw[aAF,aAd hi,aAy,aAy];rfl
   rintro yr H2 ⟨s2,rfl⟩
   rw[aAW]
   refine ⟨⟨_,SqL.ofL (s2 _ _ eq1),by rw[aAf];exact aAh _⟩,fun lr nlr=>?_⟩
   have g3:=Same.new (o:=.lst ((ts.map fun n=>LV all (g n)).map V.int)) nlr
   have w3:=(g1.trans s2).trans g3
   have elr:=GU (H:=H2) (a:=lr) (o:=.lst ((ts.map fun n=>LV all (g n)).map V.int))
   generalize Hq H2 lr (.lst ((ts.map fun n=>LV all (g n)).map V.int))=H3 at w3 elr ⊢
   have hA3:=hA.same w3
   refine ⟨lr,_,rfl,SqL.ofL elr,fun hnil=>?_,fun M hM hmax=>?_⟩
   all_goals first
    | (have hmx:Y1 (ts.map fun n=>LV all (g n)) 0:=.inl ⟨hnil,rfl⟩;clear hnil;generalize (0:Int)=M at hmx ⊢)
    | (have hmx:Y1 (ts.map fun n=>LV all (g n)) M:=.inr ⟨hM,hmax⟩;clear hM hmax)
   all_goals
    obtain⟨dx3,h3⟩:=hA3.ob
    refine ⟨_,rfl,a.p,dx3,_,rfl,h3,Kb (.inr (.inr (.inr (.inl rfl)))),a,l,g,k,all,rfl,hA3,hl,fun q2 ts2 nq2 hts2=>?_⟩
    have ets:ts2=ts:=hts2.eq hts.perm hts.rise
    subst ets
    have g4:=Same.new (o:=.lst (ts2.map V.str)) nq2
    have eq2:=GU (H:=H3) (a:=q2) (o:=.lst (ts2.map V.str))
    have w4:=w3.trans g4
    generalize Hq H3 q2 (.lst (ts2.map V.str))=H4 at eq2 w4 g4 ⊢
    refine ⟨q2,rfl,⟨_,SqL.ofL eq2⟩,ts2.length,fun i ys H'=>Same H4 H'∧ys=((ts2.take i).filter fun n=>decide (LV all (g n)=M)).map V.str,Zf (by omega),⟨Same.refl _,rfl⟩,?_,?_⟩
    · rintro i ys H' hi ⟨sH,rfl⟩
      have ei:(ts2.map V.str)[i]?=some (V.str ts2[i]):=by rw[aAH,aAd hi];rfl
      refine ⟨⟨_,_,SqL.ofL (sH _ _ eq2),ei⟩,?_⟩
      rintro x H5 ⟨rfl,hx⟩
      have hx':=hx _ (SqL.ofL (sH _ _ eq2))
      rw[ei] at hx'
      obtain rfl:=aAi hx'
      have hA':=hA.same (w4.trans sH)
      obtain⟨dx',h1'⟩:=hA'.ob
      refine HN ⟨_,rfl,a.p,dx',_,rfl,h1',Kb (.inr (.inr (.inr (.inr (.inr (.inr (.inr (.inr (.inr (.inr (.inl rfl))))))))))),_,rfl,a,l,g,k,all,ts2[i],rfl,hA',.inl ⟨mts _ (aAO hi),_,rfl,rfl,_,rfl,Kk (fun z=>⟨_,rfl,sH,?_⟩) (fun z=>⟨sH,?_⟩)⟩⟩
      · have z':LV all (g ts2[i])=M:=V.int.inj (aAI z)
        rw[aAF,aAd hi,aBA,aAy]
        congr 1
        show _=List.map V.str (List.filter _ [ts2[i]])
        rw[aBO,aAE (aAD z')];rfl
      · have z':¬LV all (g ts2[i])=M:=fun y=>z (aAD (aA2 V.int y))
        rw[aAF,aAd hi,aBA]
        show _=List.map V.str (_ ++ List.filter _ [ts2[i]])
        rw[aBO,aAz (by rw[aA1 z'];decide),List.filter_nil,aBl]
    rintro yr H5 ⟨s5,rfl⟩
    rw[aAW]
    refine ⟨⟨_,SqL.ofL (s5 _ _ eq2),by rw[aAf];exact aAh _⟩,fun D nD=>?_⟩
    have w5:=w4.trans s5
    exact q D ts2 M _ (w5.trans (Same.new nD)) ((w5.step []).free nD aAa) hts hmx GU
def MX(C CH CO:Addr):Sp:=fun vs H Q E=>∃a l f story n c m,vs=[.ref (SA.p a),.str n,.ref c]∧SAt C CH H a l f story∧H c=some (mT m)∧(n∉l.map (·.1)→f n=Ot)∧LE m∧(∀m,m∈(f n).heard∨m∈(f n).held→LE m)∧Diff (f n).held∧(f n).heard.length + (f n).held.length + (f n).lost.length < 1000∧story.length < 1000∧l.length < 100∧
 ((Q2 (f n) [m]∧(Ji (f n) [m]).heard.length < 1000∧∀l' found H',SAt C CH H' a l' (LY f n (Ji (f n) [m])) (story ++ found.map fun m=>(n,m))→(Ji (f n) [m]).heard=(f n).heard ++ found→Stp (a.fp l) H (a.fp l') H'→((n∈l.map (·.1)∧l'=l)∨(n∉l.map (·.1)∧∃b,l'=l ++ [(n,b)]))→Q (.int (found.length:Int)) H')∨
  (Ox (f n) m∧∀H',Same H H'→E (.ref CO) none H'))
def prD(r:Str×Int):PyData:=.tuple [.str r.1,.int r.2]
abbrev Xa(es:List (Str×Int)):List (HX×V):=List.map (fun (e:Str×Int)=>((Sum.inr e.1:HX),V.int e.2)) es
def JD(f:Str→HS)(l:HL)(es:List (Str×Int)):List (Str×Int):=(es.filter fun e=>decide (Ma f l e.1 < e.2)).map fun e=>(e.1,Ma f l e.1)
def Pe(C CH:Addr):Sp:=fun vs H Q _=>∃a l f story md es,vs=[.ref (SA.p a),.ref md]∧SAt C CH H a l f story∧l.length < 100∧H md=some (.dK (Xa es))∧(es.map (·.1)).Nodup∧es.length < 2∧
 ∀(q:Addr) (ys:List V) (rs:List (Str×Int)) (H':Hp),Same H H'→H q=none→H' q=some (.lst ys)→HasL H' ys (rs.map prD)→rs.Perm (JD f l es)→rs.Pairwise (fun x y=>x.1.cps.toList < y.1.cps.toList)→Q (.ref q) H'
theorem P6{a:SA}{f:Str}(h:f = "take"∨f = "heard"∨f = "marks"∨f = "lacks"):(Y2 a).lookup f=none:=by
 rcases h with rfl | rfl | rfl | rfl <;> exact aaS (by decide +kernel) (by decide +kernel)
abbrev Ie:Stmt:=Hk (IF 26) 0
abbrev MS:List Str:=["self"]
theorem Mr:FnScope MS ["self"] (GV Ie):=⟨rfl,rfl,rfl,by decide +kernel,rfl,by decide +kernel,by decide +kernel⟩
theorem OI{f C CH:Addr}{fd:FuncData}(F:Fun K "__init__" "Sources.__init__" Ie f fd)(TC:SourcesC K mg C):FnOk P w K mg base Jg 1 f fd ["self"] (RM C CH):=by
 refine F.ok Mr (fun vs H Q E h=>?_) (fun cdv A outer s H vs Q E hr h=>?_)
 · obtain⟨p,dx,rfl,_⟩:=h;rfl
 · obtain⟨p,dx,rfl,hp,q⟩:=h
   refine ⟨_,(GX (HM K (pv 0) JN rfl)
    (G4 (HM K (pv 0) (HJ GZ) rfl))),?_⟩
   intro hd nhd
   have g1:=Same.new (o:=.dK []) nhd
   refine ⟨_,rfl,p,C,dx,[],rfl,g1 _ _ hp,TC.cl_Sources,TC.n_hearers,by decide,?_⟩
   have z1:=Stp.put (ps:=[p]) (o:=.ins C dx (Hm "hearers" (.ref hd) [])) (g1 _ _ hp) (fun _ z=>by cases z) (by simp)
   have nhp:hd≠p:=fun z=>by rw[z,hp] at nhd;cases nhd
   have ehd:=z1.keep (GU (H:=H) (a:=hd) (o:=.dK [])) (by simp[nhp])
   have ep:=GU (H:=Hq H hd (.dK [])) (a:=p) (o:=.ins C dx (Hm "hearers" (.ref hd) []))
   have w1:Stp [p] H [p,hd] (Hq (Hq H hd (.dK [])) p (.ins C dx (Hm "hearers" (.ref hd) []))):=⟨fun c o ho hc=>z1.keep (g1 _ _ ho) hc,fun c xs ho=>z1.tup _ _ (g1 _ _ ho),fun c hc=>by
    simp only[aAg,aAa,aBa] at hc
    rcases hc with rfl | rfl
    · exact .inl (by simp)
    · exact .inr nhd⟩
   generalize Hq (Hq H hd (.dK [])) p (.ins C dx (Hm "hearers" (.ref hd) []))=H1 at ehd ep w1 ⊢
   refine ⟨aAJ _,fun st nst=>?_⟩
   have g2:=Same.new (o:=.lst []) nst
   refine ⟨_,rfl,p,C,dx,_,rfl,g2 _ _ ep,TC.cl_Sources,TC.n_story,(show 1 < 1000 by decide),?_⟩
   have nsp:st≠p:=fun z=>by rw[z,ep] at nst;cases nst
   have nsh:st≠hd:=fun z=>by rw[z,ehd] at nst;cases nst
   rw[show Hm "story" (.ref st) (Hm "hearers" (.ref hd) [])=Y2 ⟨p,hd,st⟩ from Xs ⟨p,hd,st⟩]
   have z2:=Stp.put (ps:=[p]) (o:=.ins C dx (Y2 ⟨p,hd,st⟩)) (g2 _ _ ep) (fun _ z=>by cases z) (by simp)
   refine q ⟨p,hd,st⟩ _ rfl (fun f=>⟨⟨dx,GU⟩,z2.keep (g2 _ _ ehd) (by simp[nhp]),⟨[],z2.keep (GU (H:=H1) (a:=st) (o:=.lst [])) (by simp[nsp]),HH⟩,fun x hx=>absurd hx aAa,⟨aBk,.nil⟩,fun c hc=>absurd hc aAa⟩) ?_
   have w2:Stp [p,hd] H1 [p,hd,st] (Hq (Hq H1 st (.lst [])) p (.ins C dx (Y2 ⟨p,hd,st⟩))):=⟨fun c o ho hc=>z2.keep (g2 _ _ ho) (fun z=>hc (by simp at z;simp[z])),fun c xs ho=>z2.tup _ _ (g2 _ _ ho),fun c hc=>by
    simp only[aAg,aAa,aBa] at hc
    rcases hc with rfl | rfl | rfl
    · exact .inl (by simp)
    · exact .inl (by simp)
    · exact .inr nst⟩
   exact w1.trans w2
abbrev IK:Stmt:=Hk (IF 26) 2
abbrev OU:List Str:=["self"]
theorem NG:FnScope OU ["self"] (GV IK):=⟨rfl,rfl,rfl,by decide +kernel,rfl,by decide +kernel,by decide +kernel⟩
theorem N1{f C CH:Addr}{fd:FuncData}(F:Fun K "heard" "Sources.heard" IK f fd)(T:Txt mg)(TC:SourcesC K mg C):FnOk P w K mg base Jg 1 f fd ["self"] (Pf C CH):=by
 refine F.ok NG (fun vs H Q E h=>?_) (fun cdv A outer s0 H vs Q E hr h=>?_)
 · obtain⟨a,l,f,story,rfl,_⟩:=h;rfl
 · obtain⟨a,l,f,story,rfl,hA,q⟩:=h
   refine ⟨_,(G4 (Hh (ID (IP K) (by rfl) T.b_list aAN (G0 (Ho K (pv 0) rfl) GZ)))),?_⟩
   obtain⟨dx,h1⟩:=hA.ob
   obtain⟨ys,h2,h3⟩:=hA.sy
   exact ⟨_,rfl,a.p,C,dx,_,_,rfl,h1,TC.cl_Sources,TC.n_story,aak a,a.st,_,rfl,.inl (SqL.ofL h2),fun l hl=>q l ys hl (h3.same (Same.new hl))⟩
abbrev IW:Stmt:=Hk (IF 26) 1
abbrev Qw:List Str:=["self","source","message","heard","one"]
theorem sc_Sources_take:FnScope Qw ["self","source","message"] (GV IW):=⟨rfl,rfl,rfl,by decide +kernel,rfl,by decide +kernel,by decide +kernel⟩
theorem NU{f C CH CO:Addr}{fd:FuncData}(F:Fun K "take" "Sources.take" IW f fd)(T:Txt mg)(TC:TxtC K mg C CH)(c_number_of:Callee P w K mg base 1 "number_of" ["message"] (Jz 0))(c_topic_of:Callee P w K mg base 1 "topic_of" ["message"] (Jz 1))(c_text_of:Callee P w K mg base 1 "text_of" ["message"] (Jz 2))(i_Hearer:CalleeI P w K mg base 1 CH ["self"] (Me CH))(mx_Hearer_take:CalleeMX P w K mg base 4 CH "take" ["self","message"] (Md CH CO)):FnOk P w K mg base (LX P w) 5 f fd ["self","source","message"] (MX C CH CO):=by
 refine F.okX sc_Sources_take (fun vs H Q E h=>?_) (fun cdv A outer s0 H vs Q E hr h=>?_)
 · obtain⟨a,l,f,story,n,c,m,rfl,_⟩:=h;rfl
 · obtain ⟨a,l,f,story,n,c,m,rfl,hA,hc,hn0,hok,hokA,hdf,hsz,hst,hl,q⟩:=h
   refine ⟨_,(R9 (IA (PN (NQ (Jk hr) (pv 1) (Ho K (pv 0) rfl))) (G4 (J6 (Jk hr) (Ho K (pv 0) rfl) (pv 1) (Nr i_Hearer (hr.mono (by decide)) TC.mg_Hearer) rfl)) HP)
    (GX (Hs (i:=3) sc_Sources_take.nd rfl (Or.inl rfl) (Hz mx_Hearer_take TC.cl_Hearer (hr.mono (by decide)) J7 (Na (Jk hr) (Ho K (pv 0) rfl) (pv 1) (fun _ _=>rfl)) (G0 (pv 2) GZ)))
    (GX (J5 aDc rfl (HQ K (pv 3)) (Hn (i:=4) sc_Sources_take.nd rfl (Or.inl rfl)) (G4 (Hr (Mt K aAA aAP aAQ Jc (Ho K (pv 0) rfl) (HU (Iw (GW (pv 1) (GW (HE c_number_of (hr.mono (by decide)) (G0 (pv 4) GZ)) (GW (HE c_topic_of (hr.mono (by decide)) (G0 (pv 4) GZ)) (GW (HE c_text_of (hr.mono (by decide)) (G0 (pv 4) GZ)) GZ))))) IE)))))
    (G4 (Hh (Ij (Jx K) (by rfl) T.b_len aBx (G0 (pv 3) GZ))))))),?_⟩
   obtain⟨dx,h1⟩:=hA.ob
   refine ⟨fun σ H'=>∃l',σ=[some (.ref a.p),some (.str n),some (.ref c),none,none]∧SAt C CH H' a l' f story∧Stp (a.fp l) H (a.fp l') H'∧(∃b,(n,b)∈l')∧((n∈l.map (·.1)∧l'=l∧H'=H)∨(n∉l.map (·.1)∧∃b,l'=l ++ [(n,b)])),?_,?_⟩
   case refine_2=>
    refine ⟨_,rfl,_,rfl,a.p,C,dx,_,_,rfl,h1,TC.cl_Sources,TC.n_hearers,Td a,a.hd,_,rfl,DGet.k (k:=Sum.inr n) hA.hs,_,rfl,?_⟩
    by_cases hn:n∈l.map (·.1)
    · obtain⟨x,hx,e⟩:=aA6.mp hn
      have ev:Jh (TV l) (Sum.inr n)=some (.ref x.2.p):=by rw[←e];exact Su hA.dis hx
      rw[ev]
      refine Jj ⟨l,rfl,hA,Stp.refl _ _,⟨x.2,by rw[←e];exact hx⟩,.inl ⟨hn,rfl,rfl⟩⟩
    · rw [TU hn]
      refine Lb ?_
      intro p1 dx1 np1 nd1 nx1
      refine ⟨p1,dx1,rfl,GU,fun B H2 ep hB st2=>⟨rfl,?_⟩⟩
      subst ep
      have v2:Stp [] H B.fp H2:=(Stp.obj (o:=.own B.p) (o':=.ins CH dx1 []) np1 nd1).trans st2
      have hA2:=hA.step v2 fun _ _=>aAa
      have oB:∀x∈a.fp l,x∉B.fp:=hA.out v2 fun _ _=>aAa
      obtain⟨dx2,h2⟩:=hA2.ob
      have hkl:(TV l).length < sizeLine:=by rw[Sv,aAs];omega
      refine ⟨_,rfl,a.p,C,dx2,_,_,rfl,h2,TC.cl_Sources,TC.n_hearers,Td a,_,rfl,a.hd,_,rfl,DPut.k (k:=Sum.inr n) hA2.hs hkl,?_⟩
      have z1:=Stp.put (ps:=[a.hd]) (o:=.dK (Ir (TV l) (Sum.inr n) (.ref B.p))) hA2.hs (fun _ z=>by cases z) (by simp)
      have ne:=hA2.ne
      have hhd:∀x∈T4 l,x∉[a.hd]:=fun x hx z=>hA2.own x hx (by rw[aAc] at z;rw[z];simp[SA.own])
      have hBd:∀x∈B.fp,x∉[a.hd]:=fun x hx z=>by rw[aAc] at z;exact oB a.hd (aAj _ (by simp[SA.own])) (by rw[←z];exact hx)
      obtain⟨ys,hys,hss⟩:=hA2.sy
      refine ⟨l ++ [(n,B)],rfl,⟨⟨dx2,z1.keep h2 (by simp[ne.1])⟩,by rw[GU,Yv hn],⟨ys,z1.keep hys (by simp[ne.2.2.symm]),hss.tups z1.tup (Lv story)⟩,HsAt.more (hA2.all.step z1 hhd) (by rw[hn0 hn];exact hB.step z1 hBd),hA2.dis.more hn (fun x hx=>oB x (aAu _ hx)),fun x hx=>?_⟩,?_,⟨B,by simp⟩,.inr ⟨hn,B,rfl⟩⟩
      · rw[T3] at hx
        rcases aAx.mp hx with z | z
        · exact hA2.own x z
        · exact fun w=>oB x (aAj _ w) z
      · have e:a.fp (l ++ [(n,B)])=a.fp l ++ B.fp:=by unfold SA.fp;rw[T3,aBw]
        rw[e]
        refine ⟨fun x o ho hx=>z1.keep (v2.keep ho aAa) (fun z=>hx (by rw[aAc] at z;rw[z];exact aAj _ (by simp[SA.own]))),fun x xs ho=>z1.tup _ _ (v2.tup _ _ ho),fun x hx=>?_⟩
        rcases aAx.mp hx with z | z
        · exact .inl z
        · rcases v2.new x z with w | w
          · exact absurd w aAa
          · exact .inr w
   rintro σ H1 ⟨l',rfl,hA1,st1,⟨b,hb⟩,hcase⟩
   clear h1 hA
   obtain⟨dx1,h1⟩:=hA1.ob
   have hB1:=hA1.all _ hb
   obtain⟨db,ob⟩:=hB1.ob
   have hc1:=st1.tup _ _ hc
   refine ⟨_,rfl,a.p,C,dx1,_,_,rfl,h1,TC.cl_Sources,TC.n_hearers,Td a,_,rfl,a.hd,.ref b.p,rfl,.inl ⟨_,Sum.inr n,.inl hA1.hs,rfl,(Su hA1.dis hb).symm⟩,b.p,db,_,rfl,ob,Lh hB1 (.inr (.inl rfl)),_,rfl,b,f n,[],c,m,rfl,hB1,hc1,hok,hokA,hdf,hsz,?_⟩
   rcases q with ⟨hf,hsz2,q⟩ | ⟨hcl,q⟩
   case inr=>
    refine .inr ⟨hcl,fun H2 s2=>?_⟩
    rcases hcase with ⟨_,_,rfl⟩ | ⟨hno,_⟩
    · exact q H2 s2
    · rw[hn0 hno] at hcl
      obtain⟨x,hx,_⟩:=hcl
      rcases hx with z | z <;> exact absurd z aAa
   refine .inl ⟨hf,fun lh yh found H2 hB2 eh st2 nl ol el ml=>?_⟩
   have st2':Stp b.fp H1 b.fp H2:=⟨st2.1,st2.2,fun x hx=>st2.3 x (aAq _ hx)⟩
   have hown:∀x∈a.own,x∉b.fp:=fun x hx z=>hA1.own x (mem_fpH.mpr ⟨_,hb,z⟩) hx
   have hput:=hA1.all.put hA1.dis hb st2' hB2
   have hA2:SAt C CH H2 a l' (LY f n (Ji (f n) [m])) story:=by
    obtain⟨ys,hys,hss⟩:=hA1.sy
    exact ⟨⟨dx1,st2.keep h1 (hown _ (by simp[SA.own]))⟩,st2.keep hA1.hs (hown _ (by simp[SA.own])),⟨ys,st2.keep hys (hown _ (by simp[SA.own])),hss.tups st2.tup (Lv story)⟩,hput.1,hA1.dis,hA1.own⟩
   have t2:Stp (a.fp l) H (a.fp l') H2:=st1.trans (hput.2.weak (fun x hx=>aAu _ hx) fun x hx=>.inr hx)
   have nlS:lh∉a.fp l':=fun z=>by
    obtain⟨o,ho⟩:=hA1.live lh z
    rw[nl] at ho;cases ho
   have lyh:=ml.len
   have lfo:found.length < 1000:=by
    have:=aA2 List.length eh
    rw[aAk] at this
    omega
   refine ⟨_,rfl,lh,rfl,⟨_,SqL.ofL el⟩,JR (K:=K) (a:=lh) (xs:=yh) (fun i σ H'=>∃o4,σ=[some (.ref a.p),some (.str n),some (.ref c),some (.ref lh),o4]∧SAt C CH H' a l' (LY f n (Ji (f n) [m])) (story ++ (found.take i).map fun m=>(n,m))∧Stp (a.fp l) H (a.fp l') H'∧H' lh=some (.lst yh)∧Ms H' yh found)
    ⟨_,rfl,by rw[aDq,aBV,aBl];exact hA2,t2,el,ml⟩ (fun i σ H' _ ⟨_,_,_,_,h,_⟩=>SqL.ofL h) ?_ ?_⟩
   · rintro i y σ H' hi ⟨o4,rfl,hA',t',el',ml'⟩
     have hil:i < found.length:=by rw[←lyh];exact (aAn.mp hi).1
     obtain⟨c1,ec,hc1⟩:=ml'.get hil
     rw[hi] at ec
     obtain rfl:=aAi ec
     obtain⟨dx',h1'⟩:=hA'.ob
     obtain⟨ys,hys,hss⟩:=hA'.sy
     have lys:=HasL.length hss
     rw[aAf,aAk,aAf,aAM] at lys
     refine HN ⟨_,rfl,a.p,C,dx',_,_,rfl,h1',TC.cl_Sources,TC.n_story,aak a,.inl ⟨rfl,_,SqL.ofL hys⟩,_,rfl,_,rfl,c1,_,_,_,rfl,hc1,_,rfl,c1,_,_,_,rfl,hc1,_,rfl,c1,_,_,_,rfl,hc1,(show 4≤sizeLine by decide),fun r nr=>?_⟩
     have g1:=Same.new (o:=.tup [.str n,.int found[i].n,.str found[i].t,.str found[i].x]) nr
     have hA'':=hA'.same g1
     refine ⟨a.st,ys,.ref r,rfl,rfl,g1 _ _ hys,by rw[aAs];omega,?_⟩
     have z1:=Stp.put (ps:=[a.st]) (o:=.lst (ys ++ [.ref r])) (g1 _ _ hys) (fun _ z=>by cases z) (by simp)
     have ne:=hA'.ne
     have hst':∀x∈T4 l',x∉[a.st]:=fun x hx z=>hA'.own x hx (by rw[aAc] at z;rw[z];simp[SA.own])
     have nlh:lh≠a.st:=fun z=>nlS (by rw[z];exact aAj _ (by simp[SA.own]))
     refine ⟨_,rfl,⟨⟨dx',z1.keep (g1 _ _ h1') (by simp[ne.2.1])⟩,z1.keep (g1 _ _ hA'.hs) (by simp[ne.2.2]),⟨_,GU,?_⟩,hA''.all.step z1 hst',hA'.dis,hA'.own⟩,(t'.trans (g1.step _)).trans (z1.up fun x hx=>by rw[aAc] at hx;rw[hx];exact aAj _ (by simp[SA.own])),z1.keep (g1 _ _ el') (by simp[nlh]),(ml'.same g1).step z1⟩
     have e1:List.map VJ (story ++ List.map (fun m=>(n,m)) (found.take (i + 1)))=List.map VJ (story ++ List.map (fun m=>(n,m)) (found.take i)) ++ [VJ (n,found[i])]:=by
      rw[aAF,aAd hil,aAy (l₁:=found.take i),←aBw,aAy (l₁:=story ++ _)];rfl
     rw[e1]
     refine HasL.append ((hss.same g1).tups z1.tup (Lv _)) ?_
     refine Hi (Mn (z1.tup _ _ GU) ?_) HH
     exact Hi (Kw _) (Hi (IS _) (Hi (Kw _) (Hi (Kw _) HH)))
   rintro σ H3 ⟨o4,rfl,hA3,t3,el3,ml3⟩
   rw[lyh,aAW] at hA3
   refine ⟨_,rfl,lh,yh,rfl,.inl (SqL.ofL el3),?_⟩
   rw[lyh]
   exact q l' found _ hA3 eh t3 (hcase.elim (fun z=>.inl ⟨z.1,z.2.1⟩) .inr)
abbrev IJ:Stmt:=Hk (IF 26) 3
abbrev OT:List Str:=["self","marks","source"]
theorem sc_Sources_marks:FnScope OT ["self"] (GV IJ):=⟨rfl,rfl,rfl,by decide +kernel,rfl,by decide +kernel,by decide +kernel⟩
theorem NZ{f C CH:Addr}{fd:FuncData}(F:Fun K "marks" "Sources.marks" IJ f fd)(TC:TxtC K mg C CH)(m_Hearer_expects:CalleeM P w K mg base 1 CH "expects" ["self"] (Ky CH)):FnOk P w K mg base Jg 2 f fd ["self"] (MY C CH):=by
 refine F.ok sc_Sources_marks (fun vs H Q E h=>?_) (fun cdv A outer s0 H vs Q E hr h=>?_)
 · obtain⟨a,l,f,story,rfl,_⟩:=h;rfl
 · obtain⟨a,l,f,story,rfl,hA,hl,q⟩:=h
   refine ⟨_,(GX (Hs (i:=1) sc_Sources_marks.nd rfl (Or.inl rfl) JN)
    (GX (VM (J5 aBc rfl (VO (Ho K (pv 0) rfl)) (Hn (i:=2) sc_Sources_marks.nd rfl (Or.inl rfl)) (G4 (J6 (Jk hr) (pv 1) (pv 2) (Hx Kj (Hl m_Hearer_expects TC.cl_Hearer (hr.mono (by decide)) (Na (Jk hr) (Ho K (pv 0) rfl) (pv 2) (fun _ _=>rfl))) G9) rfl))))
    (G4 (Hh (pv 1))))),?_⟩
   obtain⟨dx,h1⟩:=hA.ob
   intro mk nmk
   have g1:=Same.new (o:=.dK []) nmk
   have hfz:∀(o:Obj) (u:HO),H a.hd=some (.frz o u)→False:=fun o u e=>by rw[hA.hs] at e;cases e
   have nmh:mk≠a.hd:=fun z=>by rw[z,hA.hs] at nmk;cases nmk
   have nmp:mk≠a.p:=fun z=>by rw[z,h1] at nmk;cases nmk
   refine ⟨_,rfl,a.p,C,dx,_,_,rfl,g1 _ _ h1,TC.cl_Sources,TC.n_hearers,Td a,a.hd,_,rfl,g1 _ _ hA.hs,hfz,fun ob=>?_⟩
   have z1:=Stp.put (ps:=[a.hd]) (o:=.frz ob (.dK (TV l))) (g1 _ _ hA.hs) (fun _ z=>by cases z) (by simp)
   have nph:=hA.ne.1
   have hown:∀c∈T4 l,c∉[a.hd]:=fun c hc z=>hA.own c hc (by rw[aAc] at z;rw[z];simp[SA.own])
   refine YL (n:=(TV l).length) (fun i σ H'=>∃o2,σ=[some (.ref a.p),some (.ref mk),o2]∧But [a.hd] H H'∧H' a.p=some (.ins C dx (Y2 a))∧H' a.hd=some (.frz ob (.dK (TV l)))∧HsAt CH H' l f∧H' mk=some (.dK (VX (l.take i) f)))
    ⟨_,rfl,fun c o ho hc=>z1.keep (g1 _ _ ho) hc,z1.keep (g1 _ _ h1) (by simp[nph]),GU,(hA.all.same g1).step z1 hown,z1.keep (GU (H:=H) (a:=mk) (o:=.dK [])) (by simp[nmh])⟩ ?_ ?_
   · rintro i σ H' hi ⟨o2,rfl,bu,e1,e2,hs,e3⟩
     refine ⟨⟨e2,hi⟩,?_⟩
     rintro x H2 ⟨rfl,kv,hkv,rfl⟩
     have hi':i < l.length:=by rw[←Sv];exact hi
     have hkv':kv=(Sum.inr l[i].1,V.ref l[i].2.p):=by
      unfold TV at hkv
      rw[aAH,aAd hi'] at hkv
      exact (aAi hkv).symm
     subst hkv'
     have hx:=aAO hi'
     have hAx:=hs _ hx
     obtain⟨dh,oh⟩:=hAx.ob
     have hlen:(VX (l.take i) f).length < sizeLine:=by unfold VX;rw[aAf,aAM,aAs];omega
     refine HN ⟨_,rfl,a.p,C,dx,_,_,rfl,e1,TC.cl_Sources,TC.n_hearers,Td a,_,rfl,a.hd,.ref l[i].2.p,rfl,.inl ⟨_,Sum.inr l[i].1,.inr ⟨ob,e2⟩,rfl,(Su hA.dis hx).symm⟩,l[i].2.p,dh,_,rfl,oh,Lh hAx (.inl rfl),l[i].2,_,[],rfl,hAx,_,_,rfl,rfl,_,rfl,_,rfl,mk,_,rfl,DPut.k (k:=Sum.inr l[i].1) e3 hlen,?_⟩
     have z2:=Stp.put (ps:=[mk]) (o:=.dK (Ir (VX (l.take i) f) (Sum.inr l[i].1) (V.int ((f l[i].1).next - 1)))) e3 (fun _ z=>by cases z) (by simp)
     refine ⟨_,rfl,fun c o ho hc=>z2.keep (bu c o ho hc) (fun z=>by rw[aAc] at z;rw[z,nmk] at ho;cases ho),z2.keep e1 (by simp[nmp.symm]),z2.keep e2 (by simp[nmh.symm]),hs.step z2 (fun c hc z=>by
      rw[aAc] at z
      obtain⟨o,ho⟩:=hA.all.live c hc
      rw[z,nmk] at ho;cases ho),?_⟩
     rw[GU,Yi hA.dis hi']
   rintro σ H' ⟨o2,rfl,bu,e1,e2,hs,e3⟩
   refine ⟨⟨e2,aAh _⟩,a.hd,ob,_,e2,hfz,?_⟩
   have z2:=Stp.put (ps:=[a.hd]) (o:=.dK (TV l)) e2 (fun _ z=>by cases z) (by simp)
   rw[Sv,aAW] at e3
   refine ⟨_,rfl,q mk _ (fun c o ho=>?_) nmk (z2.keep e3 (by simp[nmh]))⟩
   by_cases hc:c=a.hd
   · subst hc
     rw[hA.hs] at ho
     rw[GU];exact ho
   · rw[GY hc]
     exact bu c o ho (by simp[hc])
abbrev Iq:Stmt:=Hk (IF 26) 4
abbrev LR:List Str:=["self","marks","own"]
theorem sc_Sources_lacks:FnScope LR ["self","marks"] (GV Iq):=⟨rfl,rfl,rfl,by decide +kernel,rfl,by decide +kernel,by decide +kernel⟩
theorem N0{f C CH:Addr}{fd:FuncData}(F:Fun K "lacks" "Sources.lacks" Iq f fd)(T:Txt mg)(TC:SourcesC K mg C)(m_marks:CalleeM P w K mg base 2 C "marks" ["self"] (MY C CH)):FnOk P w K mg base Jg 3 f fd ["self","marks"] (Pe C CH):=by
 refine F.ok sc_Sources_lacks (fun vs H Q E h=>?_) (fun cdv A outer s0 H vs Q E hr h=>?_)
 · obtain⟨a,l,f,story,md,es,rfl,_⟩:=h;rfl
 · obtain⟨a,l,f,story,md,es,rfl,hA,hl,hmd,hnd,hes,q⟩:=h
   refine ⟨_,(GX (Hs (i:=2) sc_Sources_lacks.nd rfl (Or.inr rfl) (Hl m_marks TC.cl_Sources (hr.mono (by decide)) (pv 0)))
    (G4 (Hh (Ij (ZX K) (by rfl) T.b_sorted aCs (G0 (Zz (Km (N':=["source","own","marks"]) (ix:=[none,some 2,some 1]) (own:=[0]) rfl (LA (osc:=GV Iq) (ON:=LR) rfl rfl (by decide +kernel)) (by decide) (VO (pv 1)) (fun _ _ _ _=>(Hn (i:=0) (show (["source","own","marks"]:List Str).Nodup by decide +kernel) rfl (Or.inl rfl))) Jb (fun _ _ _ _=>(KR (Hu Rm (M9 (Jk hr) (pv 1) (pv 0) G9 ⟨rfl,rfl,rfl,rfl⟩) (Na (Jk hr) (pv 2) (pv 0) (fun _ _=>rfl)) (Hy _)))) (fun _ _ _ _=>(Iw (GW (pv 0) (GW (M9 (Jk hr) (pv 1) (pv 0) G9 ⟨rfl,rfl,rfl,rfl⟩) GZ)))))) GZ))))),?_⟩
   obtain⟨dx,h1⟩:=hA.ob
   refine ⟨_,rfl,a.p,dx,_,rfl,h1,P6 (.inr (.inr (.inl rfl))),a,l,f,story,rfl,hA,hl,fun pm H1 s1 npm epm=>?_⟩
   have hmd1:=s1 _ _ hmd
   have hfz:∀(o:Obj) (u:HO),H md=some (.frz o u)→False:=fun o u e=>by rw[hmd] at e;cases e
   have npd:pm≠md:=fun z=>by rw[z,hmd] at npm;cases npm
   refine ⟨_,rfl,md,_,rfl,hmd1,hfz,fun ob=>?_⟩
   have z1:=Stp.put (ps:=[md]) (o:=.frz ob (.dK (Xa es))) hmd1 (fun _ z=>by cases z) (by simp)
   have epm1:=z1.keep epm (by simp[npd])
   have emd1:=GU (H:=H1) (a:=md) (o:=.frz ob (.dK (Xa es)))
   generalize hHf:Hq H1 md (.frz ob (.dK (Xa es)))=Hf at z1 epm1 emd1 ⊢
   refine ⟨es.length,fun i ys H'=>Same Hf H'∧HasL H' ys ((JD f l (es.take i)).map prD),Zf (by omega),⟨Same.refl _,HH⟩,?_,?_⟩
   · rintro i ys H' hi ⟨sH,hy⟩
     have emd':=sH _ _ emd1
     refine ⟨⟨emd',by rw[aAf];exact hi⟩,?_⟩
     rintro x H2 ⟨rfl,kv,hkv,rfl⟩
     have hkv':kv=(Sum.inr es[i].1,V.int es[i].2):=by
      rw[aAH,aAd hi] at hkv
      exact (aAi hkv).symm
     subst hkv'
     have hx:=aAO hi
     have hv:Jh (Xa es) (Sum.inr es[i].1)=some (V.int es[i].2):=TZ hnd hx
     have epm':=sH _ _ epm1
     have etk:es.take (i + 1)=es.take i ++ [es[i]]:=by rw[aAF,aAd hi];rfl
     refine HN ⟨_,rfl,pm,rfl,.inl ⟨_,.inl epm'⟩,_,rfl,_,DGet.k (k:=Sum.inr es[i].1) epm',_,rfl,_,rfl,md,_,rfl,.inl ⟨_,Sum.inr es[i].1,.inr ⟨ob,emd'⟩,rfl,hv.symm⟩,?_⟩
     rw[VW]
     refine ⟨_,_,rfl,rfl,_,rfl,Kk (fun z=>?_) (fun z=>?_)⟩
     · refine ⟨_,rfl,_,rfl,pm,rfl,.inl ⟨_,.inl epm'⟩,_,rfl,_,DGet.k (k:=Sum.inr es[i].1) epm',?_⟩
       rw[VW]
       refine ⟨(show 2≤sizeLine by decide),fun u nu=>⟨sH.trans (Same.new nu),?_⟩⟩
       have e1:JD f l (es.take (i + 1))=JD f l (es.take i) ++ [(es[i].1,Ma f l es[i].1)]:=by
        unfold JD
        rw[etk,aBA,aAy,aBH (p:=fun e:Str×Int=>decide (Ma f l e.1 < e.2)) z];rfl
       rw[e1,aAy]
       exact HasL.append (HasL.same (Same.new nu) hy) (Hi (Mn GU (Hi (Kw _) (Hi (IS _) HH))) HH)
     · refine ⟨sH,?_⟩
       have e1:JD f l (es.take (i + 1))=JD f l (es.take i):=by
        unfold JD
        rw[etk,aBA,aAy,aBG (p:=fun e:Str×Int=>decide (Ma f l e.1 < e.2)) z];simp
       rw[e1]
       exact hy
   rintro ys H' ⟨sH,hy⟩
   rw[aAW] at hy
   have emd':=sH _ _ emd1
   refine ⟨⟨emd',by rw[aAf];exact aAh _⟩,fun q1 nq1=>?_⟩
   have g2:=Same.new (o:=.lst ys) nq1
   have nq1m:q1≠md:=fun z=>by rw[z,emd'] at nq1;cases nq1
   refine ⟨md,ob,_,g2 _ _ emd',hfz,?_⟩
   have z2:=Stp.put (ps:=[md]) (o:=.dK (Xa es)) (g2 _ _ emd') (fun _ z=>by cases z) (by simp)
   have eq1:=z2.keep (GU (H:=H') (a:=q1) (o:=.lst ys)) (by simp[nq1m])
   have sm:Same H1 (Hq (Hq H' q1 (.lst ys)) md (.dK (Xa es))):=fun c o ho=>by
    by_cases hc:c=md
    · subst hc
      rw[GU,←hmd1];exact ho
    · refine z2.keep (g2 _ _ (sH _ _ ?_)) (by simp[hc])
      rw[←hHf,GY hc];exact ho
   have noL:Ib ((JD f l es).map prD)=true:=by
    generalize JD f l es=rs
    induction rs with
    | nil=>rfl
    | cons r rs ih=>simp[Ib,JP,prD,ih]
   have hy2:=HasL.tups z2.tup noL (HasL.same g2 hy)
   generalize Hq (Hq H' q1 (.lst ys)) md (.dK (Xa es))=H3 at eq1 sm hy2 ⊢
   have lyl:=hy2.length
   rw[aAf] at lyl
   have hll:(JD f l es).length≤es.length:=by unfold JD;rw[aAf];exact aAX _ _
   refine ⟨_,ys,rfl,.inl ⟨q1,rfl,SqL.ofL eq1⟩,by omega,fun p hp=>?_⟩
   have g3:=Same.new (o:=.lst ys) hp
   refine q p _ (JD f l es) _ ((s1.trans sm).trans g3) ((s1.trans sm).free hp) GU (HasL.same g3 hy2) (aDr _) ?_
   have hl2:(JD f l es).length < 2:=by omega
   generalize JD f l es=rs at hl2
   match rs,hl2 with
   | [],_=>exact .nil
   | [_],_=>exact aB6 _ _
   | _ :: _ :: _,z=>exact absurd z (by simp)
abbrev Ik:Stmt:=Hk (IF 36) 0
abbrev Nw:List Str:=["self","room"]
theorem MF:FnScope Nw ["self","room"] (GV Ik):=⟨rfl,rfl,rfl,by decide +kernel,rfl,by decide +kernel,by decide +kernel⟩
theorem PR{f C:Addr}{fd:FuncData}(F:Fun K "__init__" "Window.__init__" Ik f fd)(TC:WindowC K mg C):FnOk P w K mg base Jg 1 f fd ["self","room"] (RQ C):=by
 refine F.ok MF (fun vs H Q E h=>?_) (fun cdv A outer s H vs Q E hr h=>?_)
 · obtain⟨p,dx,room,rfl,_⟩:=h;rfl
 · obtain⟨p,dx,room,rfl,hp,q⟩:=h
   refine ⟨_,(GX (HM K (pv 0) (pv 1) rfl)
    (GX (HM K (pv 0) (HJ GZ) rfl)
    (GX (HM K (pv 0) (HJ GZ) rfl)
    (G4 (HM K (pv 0) G9 rfl))))),?_⟩
   have l0:([]:List (Str×V)).length=0:=rfl
   have l1:=Iy "room" (.int room) []
   refine ⟨_,rfl,_,rfl,p,C,dx,[],rfl,hp,TC.cl_Window,TC.n_room,(by show 0 < 1000;decide),?_⟩
   refine ⟨aAJ _,fun w hw=>?_⟩
   have npw:p≠w:=G5 GU hw
   refine ⟨_,rfl,p,C,dx,_,rfl,(by rw[GY npw];exact GU),TC.cl_Window,TC.n_on_way,by omega,?_⟩
   have l2:=Iy "on_way" (.ref w) (Hm "room" (.int room) [])
   refine ⟨aAJ _,fun r hr=>?_⟩
   have npr:p≠r:=G5 GU hr
   have nwr:w≠r:=fun e=>by rw[←e,GY npw.symm,GU] at hr;cases hr
   refine ⟨_,rfl,p,C,dx,_,rfl,(by rw[GY npr];exact GU),TC.cl_Window,TC.n_row,by omega,?_⟩
   have l3:=Iy "row" (.ref r) (Hm "on_way" (.ref w) (Hm "room" (.int room) []))
   refine ⟨_,rfl,p,C,dx,_,rfl,GU,TC.cl_Window,TC.n_arrived,by omega,?_⟩
   rw[ZN,RH]
   have hw0:H w=none:=by rw[GY npw.symm] at hw;exact hw
   have hr0:H r=none:=by rw[GY npr.symm,GY nwr.symm,GY npr.symm] at hr;exact hr
   refine q w r _ ⟨⟨dx,GU⟩,⟨[],?_,Ms.nil⟩,⟨[],?_,Ms.nil⟩,nwr⟩ ⟨fun b o e hb=>?_,fun b xs e=>?_,fun c hc=>?_⟩
   · rw[GY npw.symm,GY nwr,GY npw.symm,GU]
   · rw[GY npr.symm,GU]
   · have hb':b≠p:=by simpa using hb
     rw[GY hb',GY (G5 e hr0),GY hb',GY (G5 e hw0),GY hb'];exact e
   · have hb':b≠p:=HY e hp (by intro z;cases z)
     rw[GY hb',GY (G5 e hr0),GY hb',GY (G5 e hw0),GY hb'];exact e
   · simp only[aAg,aAa,aBa] at hc
     rcases hc with rfl | rfl | rfl
     · exact .inl (by simp)
     · exact .inr hw0
     · exact .inr hr0
abbrev Jm:Stmt:=Hk (IF 36) 8
abbrev QP:List Str:=["self"]
theorem Pp:FnScope QP ["self"] (GV Jm):=⟨rfl,rfl,rfl,by decide +kernel,rfl,by decide +kernel,by decide +kernel⟩
theorem PU{f C:Addr}{fd:FuncData}(F:Fun K "free" "Window.free" Jm f fd)(T:Txt mg)(TC:WindowC K mg C):FnOk P w K mg base Jg 1 f fd ["self"] (RR C):=by
 refine F.ok Pp (fun vs H Q E h=>?_) (fun cdv A outer s0 H vs Q E hr h=>?_)
 · obtain⟨p,s,w,r,rfl,_⟩:=h;rfl
 · obtain⟨p,s,w,r,rfl,WA,q⟩:=h
   refine ⟨_,(G4 (Hh (Ij (Oe rfl) (by rfl) T.b_max aCJ (G0 G9 (GW (Hx Kj (Ho K (pv 0) rfl) (Ij (Jx K) (by rfl) T.b_len aBx (G0 (Ho K (pv 0) rfl) GZ))) GZ))))),?_⟩
   obtain⟨⟨dx,h1⟩,⟨ys,h2,h3⟩,⟨zs,h4,h5⟩,h6⟩:=id WA
   refine ⟨_,rfl,p,C,dx,_,_,rfl,h1,TC.cl_Window,TC.n_room,ZM,_,rfl,p,C,dx,_,_,rfl,h1,TC.cl_Window,TC.n_on_way,P8,w,ys,rfl,.inl (SqL.ofL h2),_,_,rfl,rfl,0,_,rfl,?_⟩
   rw[h3.len]
   exact q
abbrev IG:Stmt:=Hk (IF 36) 4
abbrev OQ:List Str:=["self","many","going"]
theorem sc_Window_let_go:FnScope OQ ["self"] (GV IG):=⟨rfl,rfl,rfl,by decide +kernel,rfl,by decide +kernel,by decide +kernel⟩
theorem NX{f C:Addr}{fd:FuncData}(F:Fun K "let_go" "Window.let_go" IG f fd)(TC:WindowC K mg C)(m_free:CalleeM P w K mg base 1 C "free" ["self"] (RR C)):FnOk P w K mg base Jg 2 f fd ["self"] (Xn C):=by
 refine F.ok sc_Window_let_go (fun vs H Q E h=>?_) (fun cdv A outer s0 H vs Q E hr h=>?_)
 · obtain⟨p,s,w,r,rfl,_⟩:=h;rfl
 · obtain⟨p,s,w,r,rfl,WA,hlen,q⟩:=h
   refine ⟨_,(GX (Hs (i:=1) sc_Window_let_go.nd rfl (Or.inl rfl) (Hl m_free TC.cl_Window (hr.mono (by decide)) (pv 0)))
    (GX (Hs (i:=2) sc_Window_let_go.nd rfl (Or.inl rfl) (Lq (KL K) (Ho K (pv 0) rfl) Mi (Mh (pv 1))))
    (GX (HM K (pv 0) (Lq (KL K) (Ho K (pv 0) rfl) (Mh (pv 1)) Mi) rfl)
    (GX (Hr (Mt K aAA aCq aCr N4 (Ho K (pv 0) rfl) (HU (pv 2) IE)))
    (G4 (Hh (pv 2))))))),?_⟩
   obtain⟨⟨dx,h1⟩,⟨ys,h2,h3⟩,⟨zs,h4,h5⟩,h6⟩:=id WA
   have hf:=YJ s
   have lz:=h5.len
   have ly:=h3.len
   refine ⟨_,rfl,p,dx,_,rfl,h1,VU (by decide +kernel) (by decide +kernel) (by decide +kernel) (by decide +kernel),p,s,w,r,rfl,WA,?_⟩
   refine ⟨_,rfl,p,C,dx,_,_,rfl,h1,TC.cl_Window,TC.n_row,Sj,_,rfl,_,rfl,r,zs,rfl,SqL.ofL h4,fun l hl=>?_⟩
   rw[YV hf]
   have s1:=Same.new (o:=.lst (zs.take (JQ s).toNat)) hl
   refine ⟨_,rfl,p,C,dx,_,_,rfl,s1 _ _ h1,TC.cl_Window,TC.n_row,Sj,_,rfl,_,rfl,r,zs,rfl,SqL.ofL (s1 _ _ h4),fun l2 hl2=>?_⟩
   rw[Nq hf]
   have s2:=s1.trans (Same.new (o:=.lst (zs.drop (JQ s).toNat)) hl2)
   have i1:=s2 _ _ h1
   refine ⟨_,rfl,p,C,dx,_,rfl,i1,TC.cl_Window,TC.n_row,U0,?_⟩
   rw[Wx]
   have np2:p≠l2:=G5 (s1 _ _ h1) hl2
   have nw2:w≠l2:=G5 (s1 _ _ h2) hl2
   have nl2:l≠l2:=G5 GU hl2
   have nlp:l≠p:=(G5 h1 hl).symm
   have nlw:l≠w:=(G5 h2 hl).symm
   have stp:=Stp.put (p:=p) (ps:=[p]) (o:=.ins C dx (nF s.room w l2 s.arr)) i1 (fun _ z=>by cases z) (by simp)
   have j1:=GU (H:=Hq (Hq H l (.lst (zs.take (JQ s).toNat))) l2 (.lst (zs.drop (JQ s).toNat))) (a:=p) (o:=.ins C dx (nF s.room w l2 s.arr))
   have j2:=stp.keep (s2 _ _ h2) (by simp[WA.npw.symm])
   have jl:Hq (Hq (Hq H l (.lst (zs.take (JQ s).toNat))) l2 (.lst (zs.drop (JQ s).toNat))) p (.ins C dx (nF s.room w l2 s.arr)) l=some (.lst (zs.take (JQ s).toNat)):=by rw[GY nlp,GY nl2,GU]
   have jr:Hq (Hq (Hq H l (.lst (zs.take (JQ s).toNat))) l2 (.lst (zs.drop (JQ s).toNat))) p (.ins C dx (nF s.room w l2 s.arr)) l2=some (.lst (zs.drop (JQ s).toNat)):=by rw[GY np2.symm,GU]
   have st3:Stp [p,w,r] H [p,w,l2] _:=((s1.step [p,w,r]).trans (Stp.make (o:=.lst (zs.drop (JQ s).toNat)) hl2)).trans (stp.weak (qs:=l2 :: [p,w,r]) (qs':=[p,w,l2]) (by simp) (by simp))
   generalize Hq (Hq (Hq H l (.lst (zs.take (JQ s).toNat))) l2 (.lst (zs.drop (JQ s).toNat))) p (.ins C dx (nF s.room w l2 s.arr))=H3 at j1 j2 jl jr st3 ⊢
   refine ⟨_,rfl,p,C,dx,_,_,rfl,j1,TC.cl_Window,TC.n_on_way,P8,.inl ⟨rfl,_,SqL.ofL j2⟩,_,rfl,w,l,ys,_,rfl,rfl,j2,jl,by rw[aAs,aAM];omega,?_⟩
   have sq:=Stp.put (ps:=[p,w,l2]) (o:=.lst (ys ++ zs.take (JQ s).toNat)) j2 (fun _ z=>by cases z) (by simp)
   have st4:=st3.trans sq
   refine ⟨_,rfl,q l _ w l2 _ ⟨⟨dx,?_⟩,⟨_,GU,((h3.step st4).append ((h5.step st4).take _))⟩,⟨_,?_,(h5.step st4).drop _⟩,nw2⟩ st4 hl ?_ ?_ ((h5.step st4).take _)⟩
   · rw[GY WA.npw];exact j1
   · rw[GY nw2.symm];exact jr
   · simp[nlp,nlw,nl2]
   · rw[GY nlw];exact jl
abbrev JI:Stmt:=Hk (IF 36) 1
abbrev SH:List Str:=["self","message"]
theorem QG:FnScope SH ["self","message"] (GV JI):=⟨rfl,rfl,rfl,by decide +kernel,rfl,by decide +kernel,by decide +kernel⟩
theorem QL{f C:Addr}{fd:FuncData}(F:Fun K "put" "Window.put" JI f fd)(TC:WindowC K mg C)(m_let_go:CalleeM P w K mg base 2 C "let_go" ["self"] (Xn C)):FnOk P w K mg base Jg 3 f fd ["self","message"] (VB C):=by
 refine F.ok QG (fun vs H Q E h=>?_) (fun cdv A outer s0 H vs Q E hr h=>?_)
 · obtain⟨p,c,m,s,w,r,rfl,_⟩:=h;rfl
 · obtain⟨p,c,m,s,w,r,rfl,WA,hc,hlen,q⟩:=h
   refine ⟨_,(GX (Hr (Mt K aAA aAP aAQ Jc (Ho K (pv 0) rfl) (HU (pv 1) IE)))
    (G4 (Hh (Hl m_let_go TC.cl_Window (hr.mono (by decide)) (pv 0))))),?_⟩
   obtain⟨⟨dx,h1⟩,⟨ys,h2,h3⟩,⟨zs,h4,h5⟩,h6⟩:=id WA
   have lz:=h5.len
   refine ⟨_,rfl,p,C,dx,_,_,rfl,h1,TC.cl_Window,TC.n_row,Sj,.inl ⟨rfl,_,SqL.ofL h4⟩,_,rfl,r,zs,_,rfl,rfl,h4,by rw[aAs];omega,?_⟩
   have st:=Stp.put (ps:=[r]) (o:=.lst (zs ++ [.ref c])) h4 (fun _ z=>by cases z) (by simp)
   have g1:=st.keep h1 (by simp[WA.npr])
   refine ⟨_,rfl,p,dx,_,rfl,g1,VU (by decide +kernel) (by decide +kernel) (by decide +kernel) (by decide +kernel),p,{ s with rows:=s.rows ++ [m] },w,r,rfl,⟨⟨dx,g1⟩,⟨ys,st.keep h2 (by simp[h6]),h3.step st⟩,⟨_,GU,(h5.step st).append (Ms.one (st.tup _ _ hc))⟩,h6⟩,by show s.way.length + (s.rows ++ [m]).length < 1000;rw[aAk];show _ + (_ + 1) < _;omega,?_⟩
   intro l ys' w' r' H' WA' st' hl nl e m'
   refine q l ys' w' r' H' WA' ((st.up (by simp)).trans st') ?_ nl e m'
   have nlr:l≠r:=fun z=>by rw[z,GU] at hl;cases hl
   rwa [GY nlr] at hl
abbrev IQ:Stmt:=Hk (IF 36) 2
abbrev MC:List Str:=["self","number","numbers","many"]
theorem sc_Window_done:FnScope MC ["self","number"] (GV IQ):=⟨rfl,rfl,rfl,by decide +kernel,rfl,by decide +kernel,by decide +kernel⟩
theorem OE{f C CN:Addr}{fd:FuncData}(F:Fun K "done" "Window.done" IQ f fd)(TC:WindowC K mg C)(x_NoNumber:Exc K mg "NoNumber" CN)(c_number_of:Callee P w K mg base 1 "number_of" ["message"] (Jz 0))(m_let_go:CalleeM P w K mg base 2 C "let_go" ["self"] (Xn C)):FnOk P w K mg base (LX P w) 3 f fd ["self","number"] (VG C CN):=by
 refine F.okX sc_Window_done (fun vs H Q E h=>?_) (fun cdv A outer s0 H vs Q E hr h=>?_)
 · obtain⟨p,x,s,w,r,rfl,_⟩:=h;rfl
 · obtain⟨p,x,s,w,r,rfl,WA,hlen,q⟩:=h
   refine ⟨_,(GX (Sa (i:=2) sc_Window_done.nd rfl (Or.inl rfl) (N':=["message"]) (ix:=[none]) (own:=[0]) rfl (LA (osc:=GV IQ) (ON:=MC) rfl rfl (by decide +kernel)) (by decide) (HQ K (Ho K (pv 0) rfl)) (fun _ _ _ _=>(Hn (i:=0) (show (["message"]:List Str).Nodup by decide +kernel) rfl (Or.inl rfl))) Jb (fun _ _ _ _=>Lp) (fun _ _ _ _=>(HE c_number_of (hr.mono (by decide)) (G0 (pv 0) GZ))))
    (GX (IA (Hu (TW K) (pv 1) (pv 2) (by with_unfolding_all rfl)) (G4 (KQ x_NoNumber (G0 Hw GZ))) HP)
    (GX (Hs (i:=3) sc_Window_done.nd rfl (Or.inl rfl) (Hx JA (Mt K aAA PySem.F.slot_list_index PySem.F.type_list_index Wz (pv 2) (HU (pv 1) IE)) G9))
    (GX (HM K (pv 0) (Lq (KL K) (Ho K (pv 0) rfl) (Mh (pv 3)) Mi) rfl)
    (GX (HM K (pv 0) (Hx JA (Ho K (pv 0) rfl) (pv 3)) rfl)
    (G4 (Hh (Hl m_let_go TC.cl_Window (hr.mono (by decide)) (pv 0))))))))),?_⟩
   obtain⟨⟨dx,h1⟩,⟨ys,h2,h3⟩,⟨zs,h4,h5⟩,h6⟩:=id WA
   have ly:=h3.len
   refine ⟨_,rfl,p,C,dx,_,_,rfl,h1,TC.cl_Window,TC.n_on_way,P8,w,rfl,⟨_,SqL.ofL h2⟩,_,PMap H s.way fun m=>.int m.n,Zf (by omega),PMap.zero,PMap.step h2 h3 (fun c m R N hmm hc hR=>?_),fun ys' H2 hP=>?_⟩
   · exact HN (R6 (Lb ⟨_,rfl,c,_,_,_,rfl,hc,hR⟩))
   obtain⟨hst,rfl,rfl⟩:=PMap.done (K:=K) h2 h3 hP
   refine ⟨hst,fun D hD=>?_⟩
   have eN:(s.way.map fun m=>V.int m.n)=(s.way.map (·.n)).map V.int:=by rw[aA3];rfl
   rw[eN]
   have s1:=Same.new (o:=.lst ((s.way.map (·.n)).map V.int)) hD
   refine ⟨_,rfl,_,rfl,D,_,rfl,.inl (SqL.ofL GU),rfl,Ob _,_,rfl,?_⟩
   rcases q with ⟨j,hj,hb,q⟩ | ⟨hno,q⟩
   case inr=>
    rw[abe hno]
    exact Lb ⟨(show 1≤sizeLine by decide),q _ s1⟩
   rw[inV_ints.mpr (aBr hj)]
   refine Jj ?_
   refine ⟨_,rfl,.inl ⟨rfl,_,SqL.ofL GU⟩,_,rfl,D,_,x,j,rfl,rfl,GU,hj,hb,_,_,rfl,rfl,?_⟩
   refine ⟨_,rfl,p,C,dx,_,_,rfl,s1 _ _ h1,TC.cl_Window,TC.n_on_way,P8,_,rfl,_,rfl,w,ys,rfl,SqL.ofL (s1 _ _ h2),fun l2 hl2=>?_⟩
   have e2:SB ys (some ((j:Int) + 1)) none=ys.drop (j + 1):=by rw[Nq (by omega)];rfl
   rw[e2]
   have s2:=s1.trans (Same.new (o:=.lst (ys.drop (j + 1))) hl2)
   have i1:=s2 _ _ h1
   refine ⟨_,rfl,p,C,dx,_,rfl,i1,TC.cl_Window,TC.n_on_way,U0,?_⟩
   rw[Ww]
   refine ⟨_,rfl,p,C,dx,_,_,rfl,GU,TC.cl_Window,TC.n_arrived,Yd,_,rfl,_,_,rfl,rfl,_,rfl,p,C,dx,_,rfl,GU,TC.cl_Window,TC.n_arrived,U0,?_⟩
   rw[Wy,RH]
   have np2:p≠l2:=G5 (s1 _ _ h1) hl2
   have nr2:l2≠r:=(G5 (s1 _ _ h4) hl2).symm
   have stp:=Stp.put (p:=p) (ps:=[p]) (o:=.ins C dx (nF s.room l2 r (s.arr + ((j:Int) + 1)))) i1 (fun _ z=>by cases z) (by simp)
   have st3:Stp [p,w,r] H [p,l2,r] _:=((s1.step [p,w,r]).trans (Stp.make (o:=.lst (ys.drop (j + 1))) hl2)).trans (stp.weak (qs:=l2 :: [p,w,r]) (qs':=[p,l2,r]) (by simp) (by simp))
   have g4:=stp.keep (s2 _ _ h4) (by simp[WA.npr.symm])
   refine ⟨_,rfl,p,dx,_,rfl,GU,VU (by decide +kernel) (by decide +kernel) (by decide +kernel) (by decide +kernel),p,{ s with way:=s.way.drop (j + 1),arr:=s.arr + ((j:Int) + 1) },l2,r,rfl,⟨⟨dx,GU⟩,⟨_,(GY np2.symm).trans GU,(h3.step st3).drop _⟩,⟨zs,g4,h5.step st3⟩,nr2⟩,by show (s.way.drop (j + 1)).length + s.rows.length < 1000;rw[aB3];omega,?_⟩
   intro l ys' w' r' H' WA' st' hl nl e m'
   refine q l ys' w' r' H' WA' (st3.trans st') ?_ nl e m'
   have nlp:l≠p:=fun z=>by rw[z,GU] at hl;cases hl
   rw[GY nlp] at hl
   exact s2.free hl
abbrev IU:Stmt:=Hk (IF 36) 5
abbrev Qu:List Str:=["self"]
theorem Oy:FnScope Qu ["self"] (GV IU):=⟨rfl,rfl,rfl,by decide +kernel,rfl,by decide +kernel,by decide +kernel⟩
theorem OH{f C:Addr}{fd:FuncData}(F:Fun K "again" "Window.again" IU f fd)(T:Txt mg)(TC:WindowC K mg C):FnOk P w K mg base Jg 1 f fd ["self"] (VH C):=by
 refine F.ok Oy (fun vs H Q E h=>?_) (fun cdv A outer s0 H vs Q E hr h=>?_)
 · obtain⟨p,s,w,r,rfl,_⟩:=h;rfl
 · obtain⟨p,s,w,r,rfl,WA,q⟩:=h
   refine ⟨_,(G4 (Hh (ID (IP K) (by rfl) T.b_list aAN (G0 (Ho K (pv 0) rfl) GZ)))),?_⟩
   obtain⟨⟨dx,h1⟩,⟨ys,h2,h3⟩,⟨zs,h4,h5⟩,h6⟩:=id WA
   exact ⟨_,rfl,p,C,dx,_,_,rfl,h1,TC.cl_Window,TC.n_on_way,P8,w,ys,rfl,.inl (SqL.ofL h2),fun l hl=>q l ys hl (h3.same (Same.new hl))⟩
abbrev IB:Stmt:=Hk (IF 36) 6
abbrev Og:List Str:=["self"]
theorem M3:FnScope Og ["self"] (GV IB):=⟨rfl,rfl,rfl,by decide +kernel,rfl,by decide +kernel,by decide +kernel⟩
theorem Nf{f C:Addr}{fd:FuncData}(F:Fun K "waiting" "Window.waiting" IB f fd)(T:Txt mg)(TC:WindowC K mg C):FnOk P w K mg base Jg 1 f fd ["self"] (Pc C):=by
 refine F.ok M3 (fun vs H Q E h=>?_) (fun cdv A outer s0 H vs Q E hr h=>?_)
 · obtain⟨p,s,w,r,rfl,_⟩:=h;rfl
 · obtain⟨p,s,w,r,rfl,WA,q⟩:=h
   refine ⟨_,(G4 (Hh (ID (IP K) (by rfl) T.b_list aAN (G0 (Ho K (pv 0) rfl) GZ)))),?_⟩
   obtain⟨⟨dx,h1⟩,⟨ys,h2,h3⟩,⟨zs,h4,h5⟩,h6⟩:=id WA
   exact ⟨_,rfl,p,C,dx,_,_,rfl,h1,TC.cl_Window,TC.n_row,Sj,r,zs,rfl,.inl (SqL.ofL h4),fun l hl=>q l zs hl (h5.same (Same.new hl))⟩
abbrev Jn:Stmt:=Hk (IF 36) 7
abbrev QR:List Str:=["self"]
theorem Pq:FnScope QR ["self"] (GV Jn):=⟨rfl,rfl,rfl,by decide +kernel,rfl,by decide +kernel,by decide +kernel⟩
theorem PV{f C:Addr}{fd:FuncData}(F:Fun K "came" "Window.came" Jn f fd)(TC:WindowC K mg C):FnOk P w K mg base Jg 1 f fd ["self"] (Xq C):=by
 refine F.ok Pq (fun vs H Q E h=>?_) (fun cdv A outer s0 H vs Q E hr h=>?_)
 · obtain⟨p,s,w,r,rfl,_⟩:=h;rfl
 · obtain⟨p,s,w,r,rfl,⟨⟨dx,h1⟩,_,_,_⟩,q⟩:=h
   refine ⟨_,(G4 (Hh (Ho K (pv 0) rfl))),?_⟩
   exact ⟨_,rfl,p,C,dx,_,_,rfl,h1,TC.cl_Window,TC.n_arrived,Yd,q⟩
theorem Ni{C:Addr}{H:Hp}{a:HA}{s:HS}{ex:List (Str×V)}(h:HAt C H a s ex){nx:Int}{f:Str}(hf:f = "kept"∨f = "behind"∨f = "heard"∨f = "expects"∨f = "take"∨f = "give_up"∨f = "take_all"):(hF nx a.q a.h a.k a.g ex).lookup f=none:=by
 rcases hf with rfl | rfl | rfl | rfl | rfl | rfl | rfl <;> exact (aay (by decide +kernel) (by decide +kernel) (by decide +kernel) (by decide +kernel) (by decide +kernel)).trans (h.exn _ (by decide +kernel))
abbrev IC:Stmt:=Hk (IF 25) 0
abbrev Oh:List Str:=["self","keep"]
theorem M5:FnScope Oh ["self","keep"] (GV IC):=⟨rfl,rfl,rfl,by decide +kernel,rfl,by decide +kernel,by decide +kernel⟩
theorem QN{f C CB:Addr}{fd:FuncData}(F:Fun K "__init__" "Relay.__init__" IC f fd)(TC:TxtB K mg C CB)(b_Hearer_init:CalleeB P w K mg base 1 CB "__init__" ["self"] (Me C)):FnOk P w K mg base Jg 2 f fd ["self","keep"] (Pj C):=by
 refine F.ok M5 (fun vs H Q E h=>?_) (fun cdv A outer s H vs Q E hr h=>?_)
 · obtain⟨p,dx,k,rfl,_⟩:=h;rfl
 · obtain⟨p,dx,k,rfl,hp,q⟩:=h
   refine ⟨_,(GX (Hr (abr b_Hearer_init (hr.mono (by decide)) (by rfl) TC.mg_Hearer (G0 (pv 0) GZ)))
    (G4 (HM K (pv 0) (pv 1) rfl))),?_⟩
   refine ⟨_,rfl,p,dx,rfl,hp,fun a H1 ep hA st=>?_⟩
   subst ep
   obtain⟨d1,h1⟩:=hA.ob
   refine ⟨_,rfl,_,rfl,a.p,C,d1,_,rfl,h1,TC.cl_Relay,TC.n_keep,YG (by show 0 < 100;decide),?_⟩
   rw[Va]
   obtain⟨hA2,st2⟩:=hA.keep (k:=k) h1
   exact q a _ rfl hA2 (st.trans st2)
abbrev JJ:Stmt:=Hk (IF 25) 1
abbrev SI:List Str:=["self","heard"]
theorem sc_Relay_kept:FnScope SI ["self"] (GV JJ):=⟨rfl,rfl,rfl,by decide +kernel,rfl,by decide +kernel,by decide +kernel⟩
theorem QM{f C:Addr}{fd:FuncData}(F:Fun K "kept" "Relay.kept" JJ f fd)(T:Txt mg)(TC:RelayC K mg C)(m_heard:CalleeM P w K mg base 1 C "heard" ["self"] (MZ C)):FnOk P w K mg base Jg 2 f fd ["self"] (Pi C):=by
 refine F.ok sc_Relay_kept (fun vs H Q E h=>?_) (fun cdv A outer s0 H vs Q E hr h=>?_)
 · obtain⟨a,s,k,rfl,_⟩:=h;rfl
 · obtain⟨a,s,k,rfl,hA,hk,q⟩:=h
   refine ⟨_,(GX (Hs (i:=1) sc_Relay_kept.nd rfl (Or.inl rfl) (Hl m_heard TC.cl_Relay (hr.mono (by decide)) (pv 0)))
    (G4 (Hh (Lq (KL K) (pv 1) (Mh (Ij (Oe rfl) (by rfl) T.b_max aCJ (G0 G9 (GW (Hx Kj (Ij (Jx K) (by rfl) T.b_len aBx (G0 (pv 1) GZ)) (Ho K (pv 0) rfl)) GZ)))) Mi)))),?_⟩
   obtain⟨dx,h1⟩:=hA.ob
   refine ⟨_,rfl,a.p,dx,_,rfl,h1,Ni hA (.inr (.inr (.inl rfl))),a,s,_,rfl,hA,fun l ys nl ml=>?_⟩
   have s1:=Same.new (o:=.lst ys) nl
   have ll:=ml.len
   refine ⟨_,rfl,_,rfl,l,ys,rfl,.inl (SqL.ofL GU),_,rfl,a.p,C,dx,_,_,rfl,s1 _ _ h1,TC.cl_Relay,TC.n_keep,Z1,_,_,rfl,rfl,_,_,rfl,_,rfl,l,ys,rfl,SqL.ofL GU,fun l2 n2=>?_⟩
   have e0:(if (ys.length:Int) - k > 0 then (ys.length:Int) - k else 0)=((s.heard.length - k.toNat:Nat):Int):=by
    rw[ll]
    split <;> omega
   rw[e0,Nq (by omega),aBn]
   have s2:=Same.new (o:=.lst (ys.drop (s.heard.length - k.toNat))) n2
   exact q l2 _ _ (s1.trans s2) (s1.free n2) GU ((ml.same s2).drop _)
abbrev IY:Stmt:=Hk (IF 25) 2
abbrev Qy:List Str:=["self","number","topics","found","absent"]
theorem sc_Relay_behind:FnScope Qy ["self","number","topics"] (GV IY):=⟨rfl,rfl,rfl,by decide +kernel,rfl,by decide +kernel,by decide +kernel⟩
theorem NV{f C CN:Addr}{fd:FuncData}(F:Fun K "behind" "Relay.behind" IY f fd)(T:Txt mg)(TC:RelayC K mg C)(x_NoNumber:Exc K mg "NoNumber" CN)(c_of_topics:Callee P w K mg base 2 "of_topics" ["messages","topics"] (S4 K))(c_with_greater_numbers:Callee P w K mg base 2 "with_greater_numbers" ["messages","number"] Mf)(m_expects:CalleeM P w K mg base 1 C "expects" ["self"] (Ky C))(m_kept:CalleeM P w K mg base 2 C "kept" ["self"] (Pi C)):FnOk P w K mg base (LX P w) 3 f fd ["self","number","topics"] (L3 K C CN):=by
 refine F.okX sc_Relay_behind (fun vs H Q E h=>?_) (fun cdv A outer s0 H vs Q E hr h=>?_)
 · obtain⟨a,s,k,n,tv,ts,rfl,_⟩:=h;rfl
 · obtain⟨a,s,k,n,tv,ts,rfl,hA,hk,hlen,htv,q⟩:=h
   refine ⟨_,(GX (IA (PW.pt (PJ (Hu Rm (pv 1) G9 (Hy _)) (NM (Hu VQ (pv 1) (Hl m_expects TC.cl_Relay (hr.mono (by decide)) (pv 0)) (Hy _))))) (G4 (KQ x_NoNumber (G0 Hw GZ))) HP)
    (GX (Hs (i:=3) sc_Relay_behind.nd rfl (Or.inl rfl) (HE c_with_greater_numbers (hr.mono (by decide)) (G0 (Hl m_kept TC.cl_Relay (hr.mono (by decide)) (pv 0)) (GW (pv 1) GZ))))
    (GX (Hs (i:=4) sc_Relay_behind.nd rfl (Or.inl rfl) (Hx Kj (Hx Kj (Hx Kj (Hl m_expects TC.cl_Relay (hr.mono (by decide)) (pv 0)) G9) (pv 1)) (Ij (Jx K) (by rfl) T.b_len aBx (G0 (pv 3) GZ))))
    (G4 (Hh (Iw (GW (HE c_of_topics (hr.mono (by decide)) (G0 (pv 3) (GW (pv 2) GZ))) (GW (pv 4) GZ)))))))),?_⟩
   obtain⟨dx,h1⟩:=hA.ob
   refine ⟨_,rfl,_,_,rfl,rfl,_,rfl,?_⟩
   refine Kk (fun z=>?_) (fun z=>?_)
   · have z':n < 0:=aAI z
     rcases q with ⟨q0,_⟩ | ⟨_,q⟩
     · omega
     · exact Lb ⟨(show 1≤sizeLine by decide),q⟩
   have z':¬n < 0:=fun y=>z (aAD y)
   refine ⟨_,rfl,_,rfl,a.p,dx,_,rfl,h1,Ni hA (.inr (.inr (.inr (.inl rfl)))),a,s,_,rfl,hA,_,_,rfl,rfl,_,rfl,?_⟩
   refine Kk (fun y=>?_) (fun y=>?_)
   · have y':n≥s.next:=aAI y
     rcases q with ⟨_,q1,_⟩ | ⟨_,q⟩
     · omega
     · exact ⟨(show 1≤sizeLine by decide),q⟩
   have y':¬n≥s.next:=fun x=>y (aAD x)
   rcases q with ⟨_,_,q⟩ | ⟨q0,_⟩
   case inr=>exact absurd ⟨by omega,by omega⟩ q0
   have hll:=Ly k s.heard
   refine ⟨_,rfl,a.p,dx,_,rfl,h1,Ni hA (.inl rfl),a,s,k,rfl,hA,hk,fun l1 y1 H1 s1 n1 e1 m1=>?_⟩
   refine ⟨_,rfl,l1,y1,_,n,rfl,e1,m1,by omega,fun p1 y2 H2 s2 n2 e2 m2=>?_⟩
   have s12:=s1.trans s2
   have hfl:(Y3 k n s).length≤(Im k s.heard).length:=aAX _ _
   refine ⟨_,rfl,a.p,dx,_,rfl,s12 _ _ h1,Ni hA (.inr (.inr (.inr (.inl rfl)))),a,s,_,rfl,hA.same s12,_,_,rfl,rfl,_,rfl,_,_,rfl,rfl,_,rfl,p1,y2,rfl,.inl (SqL.ofL e2),_,_,rfl,rfl,?_⟩
   refine ⟨_,rfl,_,rfl,p1,y2,_,tv,ts,rfl,e2,m2,by show (Y3 k n s).length < 64;omega,htv.same s12,fun p3 y3 H3 s3 n3 e3 m3=>?_⟩
   refine ⟨_,rfl,(show 2≤sizeLine by decide),fun d nd=>?_⟩
   have t3:=s12.trans s3
   have l2:(y2.length:Int)=((Y3 k n s).length:Int):=by rw[m2.len];rfl
   have s4:=Same.new (o:=.tup [.ref p3,.int (s.next - 1 - n - (y2.length:Int))]) nd
   refine q d p3 y3 _ (t3.trans s4) (t3.free nd) (s12.free n3) ?_ (s4 _ _ e3) (m3.same s4)
   rw[←l2]
   exact GU
abbrev Kf:Stmt:=IF 28
abbrev Vt:List Str:=["plan"]
theorem Ta:FnScope Vt ["plan"] (GV Kf):=⟨rfl,rfl,rfl,by decide +kernel,rfl,by decide +kernel,by decide +kernel⟩
theorem Tv{f:Addr}{fd:FuncData}(F:Fun K "first_of" "first_of" Kf f fd):FnOk P w K mg base Jg 1 f fd ["plan"] (Ld 0):=by
 refine F.ok Ta (fun vs H Q E h=>?_) (fun cdv A outer s H vs Q E hr h=>?_)
 · obtain⟨a,x,y,z,u,rfl,_⟩:=h;rfl
 · obtain⟨a,x,y,z,u,rfl,h1,q⟩:=h
   refine ⟨_,(G4 (Hh (JM (Jd K) (pv 0) G9 (fun _ _=>rfl)))),?_⟩
   exact ⟨_,rfl,a,_,0,x,rfl,rfl,SqT.ofT h1,rfl,q⟩
abbrev Kd:Stmt:=IF 29
abbrev Vr:List Str:=["plan"]
theorem S9:FnScope Vr ["plan"] (GV Kd):=⟨rfl,rfl,rfl,by decide +kernel,rfl,by decide +kernel,by decide +kernel⟩
theorem Tt{f:Addr}{fd:FuncData}(F:Fun K "times_of" "times_of" Kd f fd):FnOk P w K mg base Jg 1 f fd ["plan"] (Ld 1):=by
 refine F.ok S9 (fun vs H Q E h=>?_) (fun cdv A outer s H vs Q E hr h=>?_)
 · obtain⟨a,x,y,z,u,rfl,_⟩:=h;rfl
 · obtain⟨a,x,y,z,u,rfl,h1,q⟩:=h
   refine ⟨_,(G4 (Hh (JM (Jd K) (pv 0) G9 (fun _ _=>rfl)))),?_⟩
   exact ⟨_,rfl,a,_,1,y,rfl,rfl,SqT.ofT h1,rfl,q⟩
abbrev KB:Stmt:=IF 30
abbrev WZ:List Str:=["plan"]
theorem UG:FnScope WZ ["plan"] (GV KB):=⟨rfl,rfl,rfl,by decide +kernel,rfl,by decide +kernel,by decide +kernel⟩
theorem UR{f:Addr}{fd:FuncData}(F:Fun K "most_of" "most_of" KB f fd):FnOk P w K mg base Jg 1 f fd ["plan"] (Ld 2):=by
 refine F.ok UG (fun vs H Q E h=>?_) (fun cdv A outer s H vs Q E hr h=>?_)
 · obtain⟨a,x,y,z,u,rfl,_⟩:=h;rfl
 · obtain⟨a,x,y,z,u,rfl,h1,q⟩:=h
   refine ⟨_,(G4 (Hh (JM (Jd K) (pv 0) G9 (fun _ _=>rfl)))),?_⟩
   exact ⟨_,rfl,a,_,2,z,rfl,rfl,SqT.ofT h1,rfl,q⟩
abbrev KD:Stmt:=IF 31
abbrev W1:List Str:=["plan"]
theorem UH:FnScope W1 ["plan"] (GV KD):=⟨rfl,rfl,rfl,by decide +kernel,rfl,by decide +kernel,by decide +kernel⟩
theorem UT{f:Addr}{fd:FuncData}(F:Fun K "many_of" "many_of" KD f fd):FnOk P w K mg base Jg 1 f fd ["plan"] (Ld 3):=by
 refine F.ok UH (fun vs H Q E h=>?_) (fun cdv A outer s H vs Q E hr h=>?_)
 · obtain⟨a,x,y,z,u,rfl,_⟩:=h;rfl
 · obtain⟨a,x,y,z,u,rfl,h1,q⟩:=h
   refine ⟨_,(G4 (Hh (JM (Jd K) (pv 0) G9 (fun _ _=>rfl)))),?_⟩
   exact ⟨_,rfl,a,_,3,u,rfl,rfl,SqT.ofT h1,rfl,q⟩
abbrev Kz:Stmt:=IF 32
abbrev WX:List Str:=["plan","number","wait","most","step","grown"]
theorem sc_wait_of:FnScope WX ["plan","number"] (GV Kz):=⟨rfl,rfl,rfl,by decide +kernel,rfl,by decide +kernel,by decide +kernel⟩
theorem UP{f:Addr}{fd:FuncData}(F:Fun K "wait_of" "wait_of" Kz f fd)(T:Txt mg)(c_first_of:Callee P w K mg base 1 "first_of" ["plan"] (Ld 0))(c_times_of:Callee P w K mg base 1 "times_of" ["plan"] (Ld 1))(c_most_of:Callee P w K mg base 1 "most_of" ["plan"] (Ld 2)) :
 FnOk P w K mg base Jg 2 f fd ["plan","number"] SZ:=by
 refine F.ok sc_wait_of (fun vs H Q E h=>?_) (fun cdv A outer s H vs Q E hr h=>?_)
 · obtain⟨c,k,f,t,m,n,rfl,_⟩:=h;rfl
 · obtain ⟨c,k,f,t,m,n,rfl,hc,PO,hk0,hk1,q⟩:=h
   refine ⟨_,(GX (Hs (i:=2) sc_wait_of.nd rfl (Or.inl rfl) (HE c_first_of (hr.mono (by decide)) (G0 (pv 0) GZ)))
    (GX (Hs (i:=3) sc_wait_of.nd rfl (Or.inl rfl) (HE c_most_of (hr.mono (by decide)) (G0 (pv 0) GZ)))
    (R9 (J5 aBc rfl (Mj (by rfl) T.b_range (HU (pv 1) IE)) (Hn (i:=4) sc_wait_of.nd rfl (Or.inl rfl)) (GX (Hs (i:=5) sc_wait_of.nd rfl (Or.inl rfl) (Hx MJ (pv 2) (HE c_times_of (hr.mono (by decide)) (G0 (pv 0) GZ))))
    (GX (IA (PW.pt (PJ (Hu L6 (pv 5) (pv 2) (Hy _)) (NM (XF Tp VQ (pv 5) (pv 2) (pv 3))))) (G4 XH) HP)
    (G4 (Hs (i:=2) sc_wait_of.nd rfl (Or.inl rfl) (pv 5))))))
    (G4 (Hh (Ij (WT rfl) (by rfl) T.b_min PyProof.Rows.boot_min (G0 (pv 2) (GW (pv 3) GZ)))))))),?_⟩
   refine ⟨_,rfl,c,_,_,_,_,rfl,hc,?_⟩
   refine ⟨_,rfl,c,_,_,_,_,rfl,hc,?_⟩
   refine ⟨fun σ H'=>H'=H∧∃w o4 o5,σ=[some (.ref c),some (.int k),some (.int w),some (.int m),o4,o5]∧(if m < w then m else w)=wF f t m k.toNat,?_,?_⟩
   · rintro σ H' ⟨rfl,w,o4,o5,rfl,hw⟩
     refine ⟨_,rfl,_,rfl,_,_,rfl,?_⟩
     rw[hw]
     exact q
   · refine ⟨_,rfl,_,rfl,by omega,by omega,Oa (lo:=0) (n:=k.toNat) (fun i σ H'=>H'=H∧∃o4 o5,σ=[some (.ref c),some (.int k),some (.int (gF f t i)),some (.int m),o4,o5]) ⟨rfl,_,_,rfl⟩ ?_ ?_⟩
     · rintro i σ H' hi ⟨rfl,o4,o5,rfl⟩
       refine HN ?_
       refine ⟨_,rfl,_,rfl,c,_,_,_,_,rfl,hc,_,_,rfl,rfl,.inr ⟨by have:=PO.ht;omega,by have:=PO.ht2;omega⟩,?_⟩
       refine ⟨_,rfl,_,rfl,rfl,_,rfl,?_⟩
       refine Kk (fun z=>?_) (fun z=>?_)
       · have e:gF f t i * t=gF f t i:=by have y:=aAI z;exact V.int.inj y
         have ht1:=Z4 PO.hf PO.ht e
         subst ht1
         refine Lb ⟨rfl,_,_,_,rfl,?_⟩
         rw[Ve,aaE]
       · refine ⟨_,rfl,_,rfl,_,_,rfl,rfl,_,rfl,?_⟩
         refine Kk (fun z1=>?_) (fun z1=>?_)
         · refine ⟨_,rfl,_,_,rfl,rfl,_,rfl,?_⟩
           refine Kk (fun z2=>?_) (fun z2=>?_)
           · have h2:m≤gF f t i:=aAI z2
             refine ⟨rfl,_,_,_,rfl,?_⟩
             rw[aaD PO.hf PO.ht (show i≤k.toNat by omega) h2]
             split <;> omega
           · exact ⟨_,rfl,rfl,_,_,rfl⟩
         · exact ⟨_,rfl,Jj ⟨_,rfl,rfl,_,_,rfl⟩⟩
     · rintro σ H' ⟨rfl,o4,o5,rfl⟩
       exact ⟨rfl,_,_,_,rfl,rfl⟩
abbrev LF:Stmt:=IF 33
abbrev Wc:List Str:=["plan"]
theorem Xr:FnScope Wc ["plan"] (GV LF):=⟨rfl,rfl,rfl,by decide +kernel,rfl,by decide +kernel,by decide +kernel⟩
theorem Ya{f:Addr}{fd:FuncData}(F:Fun K "waits" "waits" LF f fd)(T:Txt mg)(c_many_of:Callee P w K mg base 1 "many_of" ["plan"] (Ld 3))(c_wait_of:Callee P w K mg base 2 "wait_of" ["plan","number"] SZ) :
 FnOk P w K mg base Jg 3 f fd ["plan"] RK:=by
 refine F.ok Xr (fun vs H Q E h=>?_) (fun cdv A outer s H vs Q E hr h=>?_)
 · obtain⟨c,f,t,m,n,rfl,_⟩:=h;rfl
 · obtain⟨c,f,t,m,n,rfl,hc,PO,q⟩:=h
   refine ⟨_,(G4 (Hh (Km (N':=["number","plan"]) (ix:=[none,some 0]) (own:=[0]) rfl (LA (osc:=GV LF) (ON:=Wc) rfl rfl (by decide +kernel)) (by decide) (Mj (by rfl) T.b_range (HU (Hx Kj (HE c_many_of (hr.mono (by decide)) (G0 (pv 0) GZ)) G9) IE)) (fun _ _ _ _=>(Hn (i:=0) (show (["number","plan"]:List Str).Nodup by decide +kernel) rfl (Or.inl rfl))) Jb (fun _ _ _ _=>Lp) (fun _ _ _ _=>(HE c_wait_of (hr.mono (by decide)) (G0 (pv 1) (GW (pv 0) GZ))))))),?_⟩
   have hn:=PO.hn
   have hn2:=PO.hn2
   refine ⟨_,rfl,c,_,_,_,_,rfl,hc,_,_,rfl,rfl,_,rfl,by omega,by omega,(n - 1).toNat,IRng H 0 (fun j=>.int (wF f t m j.toNat)),Zf (by omega),IRng.zero,IRng.step (fun j H2 R N hj s2 hR=>?_),fun ys H2 hP=>?_⟩
   · refine HN (R6 (Lb ⟨_,rfl,_,rfl,c,_,f,t,m,n,rfl,s2 _ _ hc,PO,by omega,by omega,hR _ (Same.refl _)⟩))
   · obtain⟨s2,rfl⟩:=hP
     refine ⟨aAh _,fun D hD=>q D _ (s2.free hD) (s2.trans (Same.new hD)) ?_⟩
     rw[GU]
     unfold RG
     rw[aA3]
     congr 2
     refine aBK fun j _=>?_
     show V.int (wF f t m ((0:Int) + (j:Int)).toNat)=V.int (wF f t m j)
     rw[show ((0:Int) + (j:Int)).toNat=j by omega]
abbrev KC:Stmt:=IF 34
abbrev W0:List Str:=["plan","start","found","wait"]
theorem sc_moments:FnScope W0 ["plan","start"] (GV KC):=⟨rfl,rfl,rfl,by decide +kernel,rfl,by decide +kernel,by decide +kernel⟩
theorem US{f:Addr}{fd:FuncData}(F:Fun K "moments" "moments" KC f fd)(c_waits:Callee P w K mg base 3 "waits" ["plan"] RK) :
 FnOk P w K mg base Jg 4 f fd ["plan","start"] Rb:=by
 refine F.ok sc_moments (fun vs H Q E h=>?_) (fun cdv A outer s H vs Q E hr h=>?_)
 · obtain⟨c,st,f,t,m,n,rfl,_⟩:=h;rfl
 · obtain⟨c,st,f,t,m,n,rfl,hc,PO,q⟩:=h
   refine ⟨_,(GX (Hs (i:=2) sc_moments.nd rfl (Or.inl rfl) (HJ (GW (pv 1) GZ)))
    (GX (J5 aBc rfl (HQ K (HE c_waits (hr.mono (by decide)) (G0 (pv 0) GZ))) (Hn (i:=3) sc_moments.nd rfl (Or.inl rfl)) (G4 (Hr (Mt K aAA aAP aAQ Jc (pv 2) (HU (Hx JA (JM (KM K) (pv 2) (aaq Xb G9) (fun _ _=>rfl)) (pv 3)) IE)))))
    (G4 (Hh (pv 2))))),?_⟩
   have hn:=PO.hn
   have hn2:=PO.hn2
   refine ⟨_,rfl,(show 1≤sizeLine by decide),fun l hl=>?_⟩
   have s1:=Same.new (o:=.lst [.int st]) hl
   refine ⟨_,rfl,c,_,_,_,_,rfl,s1 _ _ hc,PO,fun l2 H2 hl2 s2 e2=>?_⟩
   have nll:l≠l2:=G5 GU hl2
   have hwl:=Y5 (f:=f) (t:=t) (m:=m) (n:=n)
   refine ⟨l2,rfl,⟨_,SqL.ofL e2⟩,JR (K:=K) (a:=l2) (xs:=(RG f t m n).map V.int) (fun i σ H'=>∃o3,σ=[some (.ref c),some (.int st),some (.ref l),o3]∧H' l2=some (.lst ((RG f t m n).map V.int))∧Stp [l] H2 [l] H'∧H' l=some (.lst ((List.range (i + 1)).map fun k=>V.int (st + ((RG f t m n).take k).sum)))) ⟨_,rfl,e2,Stp.refl _ _,?_⟩ (fun i σ H' _ h=>?_) ?_ ?_⟩
   · rw[s2 _ _ GU]
     show some (HO.lst [V.int st])=some (HO.lst [V.int (st + ((RG f t m n).take 0).sum)])
     rw[aDq];simp
   · obtain⟨o3,rfl,h1,_,_⟩:=h
     exact SqL.ofL h1
   · rintro i y σ H' hi ⟨o3,rfl,h1,st3,h3⟩
     have hil:i < (RG f t m n).length:=by
      have:=(aAn.mp hi).1
      rwa [aAf] at this
     rw[aAH,aAd hil] at hi
     obtain rfl:=aAi hi
     refine HN ?_
     have hat:Vn ((List.range (i + 1)).map fun k=>V.int (st + ((RG f t m n).take k).sum)) (-1)=some (V.int (st + ((RG f t m n).take i).sum)):=by
      rw[aCT,aAy];exact YX _ _
     refine ⟨_,rfl,.inl ⟨rfl,_,SqL.ofL h3⟩,_,rfl,_,rfl,l,_,-1,_,rfl,rfl,SqL.ofL h3,hat,_,rfl,_,_,rfl,rfl,l,_,_,rfl,rfl,h3,by rw[aAf,aC9,aAs];omega,?_⟩
     refine ⟨_,rfl,(by rw[GY nll.symm];exact h1),st3.trans (Stp.put h3 (fun _ z=>by cases z) (by simp)),?_⟩
     have e:st + ((RG f t m n).take i).sum + (RG f t m n)[i]=st + ((RG f t m n).take (i + 1)).sum:=by rw[QE hil,Int.add_assoc]
     rw[GU,aCT (n:=i + 1),aAy]
     show some (HO.lst (_ ++ [V.int (st + ((RG f t m n).take i).sum + (RG f t m n)[i])]))=some (HO.lst (_ ++ [V.int (st + ((RG f t m n).take (i + 1)).sum)]))
     rw[e]
   · rintro σ H' ⟨o3,rfl,h1,st3,h3⟩
     refine ⟨_,rfl,q l _ hl ?_ ?_⟩
     · exact (((Stp.make (ps:=[]) (o:=.lst [.int st]) hl).trans (s2.step [l])).trans st3).same
     · rw[h3,aAf,hwl]
       unfold moF
       rw[aA3];rfl
structure Frh(H H':Hp)(cs:List Addr):Prop where
 nd:cs.Nodup
 fr:∀c∈cs,H c=none
 lv:∀c∈cs,∃o,H' c=some o
 sm:Same H H'
theorem Frh.nil{H:Hp}:Frh H H []:=⟨aBk,fun c hc=>absurd hc aAa,fun c hc=>absurd hc aAa,Same.refl H⟩
theorem Frh.same{H H1 H2:Hp}{cs:List Addr}(h:Frh H H1 cs)(s:Same H1 H2):Frh H H2 cs:=⟨h.nd,h.fr,fun c hc=>let ⟨o,e⟩:=h.lv c hc;⟨o,s _ _ e⟩,h.sm.trans s⟩
theorem Frh.snoc{H H1 H2:Hp}{cs:List Addr}{c:Addr}{o:HO}(h:Frh H H1 cs)(s:Same H1 H2)(n:H1 c=none)(e:H2 c=some o):Frh H H2 (cs ++ [c]):=by
 refine ⟨aBF.mpr ⟨h.nd,by simp,fun x hx y hy z=>?_⟩,fun d hd=>?_,fun d hd=>?_,h.sm.trans s⟩
 · rw[aAc] at hy
   obtain⟨o',e'⟩:=h.lv x hx
   rw[z,hy,n] at e';cases e'
 · rcases aAx.mp hd with z | z
   · exact h.fr d z
   · rw[aAc] at z;rw[z];exact (h.sm.step []).free n aAa
 · rcases aAx.mp hd with z | z
   · obtain⟨o',e'⟩:=h.lv d z;exact ⟨o',s _ _ e'⟩
   · rw[aAc] at z;rw[z];exact ⟨o,e⟩
def Xi(K:W.Frag):Sp:=fun vs H Q _=>∃(a:Addr) (ns:List Int),vs=[.ref a,.int 0]∧SqL K H a (ns.map V.int)∧ns.length≤63∧∀p ys ms H',Same H H'→H p=none→H' p=some (.lst ys)→Ms H' ys ms→ms.length≤6→Rows ms→(∀m∈ms,LE m)→Q (.ref p) H'
def PlD(ms:List Msg)(ds:List PyData):Prop:=∃ls,Lasts ms ls∧ds=[.list ((ofT (some ["a"]) ms).map mD),.list (ls.map mD),.list ((My [1,3,7]).map gD),.list ((RG 1 2 9 4).map PyData.int),.list ((moF 5 1 2 9 4).map PyData.int)]
def VC:Sp:=fun vs H Q _=>∃lm lt ln ym ms,vs=[.ref lm,.ref lt,.ref ln]∧H lm=some (.lst ym)∧Ms H ym ms∧H lt=some (.lst [.str "a"])∧H ln=some (.lst [.int 1,.int 3,.int 7])∧ms.length≤6∧Rows ms∧(∀m∈ms,LE m)∧
 ∀p cs ds H',Same H H'→H p=none→H' p=some (.lst (cs.map V.ref))→HasL H' (cs.map V.ref) ds→PlD ms ds→Frh H H' (cs ++ [p])→Q (.ref p) H'
def S5:Sp:=fun vs H Q _=>∃lm lt ln ym ms,vs=[.ref lm,.ref lt,.ref ln]∧H lm=some (.lst ym)∧Ms H ym ms∧H lt=some (.lst [.str "a"])∧H ln=some (.lst [.int 1,.int 3,.int 7])∧ms.length≤6∧Rows ms∧(∀m∈ms,LE m)∧
 ∀H',Same H H'→Q (.bl true) H'
theorem ach{d:Int}(h0:0≤d)(h1:d < 2):∃c,Vn ("ab" : Str).cps.toList d=some c∧PyData.strOk (⟨#[c]⟩:Str)=true:=by
 have hc:d=0∨d=1:=by omega
 rcases hc with rfl | rfl <;> exact ⟨_,rfl,by decide +kernel⟩
theorem aaC{d:Int}(h0:0≤d)(h1:d < 3):∃c,Vn ("xyz" : Str).cps.toList d=some c∧PyData.strOk (⟨#[c]⟩:Str)=true:=by
 have hc:d=0∨d=1∨d=2:=by omega
 rcases hc with rfl | rfl | rfl <;> exact ⟨_,rfl,by decide +kernel⟩
theorem ab1:∀{ds:List PyData},(∀d∈ds,PyData.canLay0 d=true∧PyData.depth d≤20)→PyData.canLayAll0 ds=true∧PyData.depthAll ds≤20
 | [],_=>by simp[PyData.canLayAll0,PyData.depthAll]
 | d :: ds,h=>by
   obtain⟨h1,h2⟩:=h d aAp
   obtain⟨h3,h4⟩:=ab1 fun x hx=>h x (aAq _ hx)
   refine ⟨by simp[PyData.canLayAll0,h1,h3],?_⟩
   simp only[PyData.depthAll]
   omega
theorem O2{ds:List PyData}(h:∀d∈ds,PyData.canLay0 d=true∧PyData.depth d≤20):SeqAt.shaped (.list ds)=true:=by
 obtain⟨h1,h2⟩:=ab1 h
 have h3:PyData.canLay0 (.list ds)=true:=by simp only[PyData.canLay0];exact h1
 have h4:PyData.depth (.list ds)≤64:=by simp only[PyData.depth];omega
 show (PyData.canLay0 (.list ds) && decide (PyData.depth (.list ds)≤64))=true
 rw[aAR]
 exact ⟨h3,aAD h4⟩
theorem N5{ms:List Msg}(h:∀m∈ms,LE m):PyData.canLay0 (.list (ms.map mD))=true∧PyData.depth (.list (ms.map mD))≤20:=by
 have:=Np ms
 exact ⟨by simp only[PyData.canLay0];exact Sq h,by simp only[PyData.depth];omega⟩
theorem Mo{H:Hp}:∀{cs:List Addr} {ds:List PyData},HasL H (cs.map V.ref) ds→∀(j:Nat) c d,cs[j]?=some c→ds[j]?=some d→Has H (.ref c) d
 | [],ds,h,j,c,d,h1,_=>by simp at h1
 | c0 :: cs,[],h,j,c,d,h1,h2=>by simp at h2
 | c0 :: cs,d0 :: ds,h,j,c,d,h1,h2=>by
   rw[aAr] at h
   unfold HasL at h
   obtain⟨x,r,e,h3,h4⟩:=h
   injection e with e1 e2
   subst e1 e2
   cases j with
   | zero=>cases aAi h1;cases aAi h2;exact h3
   | succ j=>exact Mo h4 j c d (by simpa using h1) (by simpa using h2)
theorem KW{H:Hp}{xs:List V}{ds:List PyData}(h:HasL H xs ds):xs.length=ds.length:=HasL.length h
theorem MP{H:Hp}:∀{ks:List Addr} {ds:List PyData},ks.length=ds.length→(∀(j:Nat) c d,ks[j]?=some c→ds[j]?=some d→Has H (.ref c) d)→HasL H (ks.map V.ref) ds
 | [],[],_,_=>HH
 | [],_ :: _,h,_=>by simp at h
 | _ :: _,[],h,_=>by simp at h
 | k :: ks,d :: ds,h,hh=>Hi (hh 0 k d rfl rfl) (MP (by simpa using h) fun j c d' h1 h2=>hh (j + 1) c d' (by simpa using h1) (by simpa using h2))
theorem aaw{t u:TS}{D:Ends}{σ:St}{H:Hp}(h:t { D with nx:=u D } σ H):abE t u D σ H:=h
theorem aax{te:TE}{g:TG}{D:Ends}{σ:St}{H:Hp}(h:te σ H fun x H1=>g x σ H1 D.nx):Ze te g D σ H:=h
theorem Ry{K:W.Frag}{tl:TE}{σ:St}{H:Hp}{Q:VK}{p:Addr}{cs:List Addr}(hl:∀R:VK,R (.ref p) H→tl σ H R)(hp:H p=some (.lst (cs.map V.ref)))(hn:cs.length≤100)(hc:∀c∈cs,∃xs,H c=some (.lst xs))
 (q:∀(l:Addr) (ks:List Addr) (H':Hp),Same H H'→H l=none→H' l=some (.lst (ks.map V.ref))→ks.length=cs.length→(∀(j:Nat) c k xs,cs[j]?=some c→ks[j]?=some k→H c=some (.lst xs)→H' k=some (.lst xs))→(∀k∈ks,H k=none)→Q (.ref l) H') :
 VA (YB K tl) [none] (Qj 0) aaH (tCB (fun xs H Q=>∃p ys,xs=[V.ref p]∧(SqL K H p ys∨SqT K H p ys)∧∀(l:Addr),H l=none→Q (V.ref l) (Hq H l (HO.lst ys))) (SV (aaJ 0) SS)) σ H Q:=by
 refine hl _ ?_
 refine ⟨p,rfl,⟨_,SqL.ofL hp⟩,cs.length,fun i ys H'=>∃ks:List Addr,ys=ks.map V.ref∧ks.length=i∧Same H H'∧(∀(j:Nat) c k xs,cs[j]?=some c→ks[j]?=some k→H c=some (.lst xs)→H' k=some (.lst xs))∧(∀k∈ks,H k=none),Zf (by omega),⟨[],rfl,rfl,Same.refl _,fun j c k xs h1 h2=>(by simp at h2),fun k hk=>absurd hk aAa⟩,?_,?_⟩
 · rintro i ys H' hi ⟨ks,rfl,hkl,sH,hks,hkf⟩
   have ei:(cs.map V.ref)[i]?=some (V.ref cs[i]):=by rw[aAH,aAd hi];rfl
   refine ⟨⟨_,_,SqL.ofL (sH _ _ hp),ei⟩,?_⟩
   rintro x H3 ⟨rfl,hx⟩
   have hx':=hx _ (SqL.ofL (sH _ _ hp))
   rw[ei] at hx'
   obtain rfl:=aAi hx'
   obtain⟨xs,ec⟩:=hc cs[i] (aAO hi)
   refine HN (R6 (Lb ⟨_,rfl,cs[i],xs,rfl,.inl (SqL.ofL (sH _ _ ec)),fun k nk=>?_⟩))
   have gk:=Same.new (o:=.lst xs) nk
   refine ⟨ks ++ [k],by rw[aAy];rfl,by rw[aAk,hkl];rfl,sH.trans gk,fun j c k' xs' h1 h2 h3=>?_,fun k' hk'=>?_⟩
   · by_cases hj:j < ks.length
     · rw[aCl hj] at h2
       exact gk _ _ (hks j c k' xs' h1 h2 h3)
     · have hjl:=(aAn.mp h2).1
       rw[aAk] at hjl
       have hj':j=ks.length:=by simp at hjl;omega
       rw[hj',aCj (aAh _),Nat.sub_self] at h2
       cases aAi h2
       rw[hj',hkl,aAd hi] at h1
       have h1':=aAi h1
       rw[←h1',ec] at h3
       cases aAi h3
       exact GU
   · rcases aAx.mp hk' with z | z
     · exact hkf k' z
     · rw[aAc] at z
       rw[z]
       exact (sH.step []).free nk aAa
 rintro yr H2 ⟨ks,rfl,hkl,s2,hks,hkf⟩
 refine ⟨⟨_,SqL.ofL (s2 _ _ hp),by rw[aAf];exact aAh _⟩,fun l nl=>?_⟩
 have gl:=Same.new (o:=.lst (ks.map V.ref)) nl
 exact q l ks _ (s2.trans gl) ((s2.step []).free nl aAa) GU hkl (fun j c k xs h1 h2 h3=>gl _ _ (hks j c k xs h1 h2 h3)) hkf
theorem PlD.uniq{ms:List Msg}{ds ds':List PyData}(h:PlD ms ds)(h':PlD ms ds'):ds=ds':=by
 obtain⟨ls,h1,rfl⟩:=h
 obtain⟨ls',h2,rfl⟩:=h'
 rw[h1.uniq h2]
theorem PlD.lists{ms:List Msg}{ds:List PyData}(hl:ms.length≤6)(h:PlD ms ds):∀d∈ds,∃dd,d=.list dd∧dd.length≤50∧Ib dd=true:=by
 obtain⟨ls,h1,rfl⟩:=h
 have hll:ls.length≤ms.length:=aB7 (h1.1.imp fun h e=>by rw[e] at h;omega) fun m hm=>((h1.2 m).mp hm).1
 have hof:(ofT (some ["a"]) ms).length≤ms.length:=aAX _ _
 intro d hd
 simp only[aAg,aAa,aBa] at hd
 rcases hd with rfl | rfl | rfl | rfl | rfl
 · exact ⟨_,rfl,by rw[aAf];omega,KS _⟩
 · exact ⟨_,rfl,by rw[aAf];omega,KS _⟩
 · exact ⟨_,rfl,by decide +kernel,by decide +kernel⟩
 · exact ⟨_,rfl,by decide +kernel,by decide +kernel⟩
 · exact ⟨_,rfl,by decide +kernel,by decide +kernel⟩
theorem Tg{H:Hp}{cs:List Addr}{ds:List PyData}(h:HasL H (cs.map V.ref) ds)(hd:∀d∈ds,∃dd,d=.list dd∧dd.length≤50∧Ib dd=true):∀c∈cs,∃xs,H c=some (.lst xs)∧xs.length≤50:=fun c hc=>by
 obtain⟨j,hj,e⟩:=aAS hc
 have hjd:j < ds.length:=by rw[←KW h,aAf];exact hj
 have hh:=Mo h j c ds[j] (by rw[aAd hj,e]) (aAd hjd)
 obtain⟨dd,e1,hl,_⟩:=hd _ (aAO hjd)
 rw[e1] at hh
 unfold Has at hh
 obtain⟨b,xs,e2,e3,e4⟩:=hh
 cases e2
 exact ⟨xs,e3,by rw[KW e4];exact hl⟩
theorem Qq{H H':Hp}{cs ks:List Addr}{ds:List PyData}(s:Same H H')(h:HasL H (cs.map V.ref) ds)(hd:∀d∈ds,∃dd,d=.list dd∧dd.length≤50∧Ib dd=true)(hl:ks.length=cs.length)(hk:∀(j:Nat) c k xs,cs[j]?=some c→ks[j]?=some k→H c=some (.lst xs)→H' k=some (.lst xs)):HasL H' (ks.map V.ref) ds:=by
 have hcd:cs.length=ds.length:=by have:=KW h;rw[aAf] at this;exact this
 refine MP (by omega) fun j k d h1 h2=>?_
 have hj:j < cs.length:=by have:=(aAn.mp h1).1;omega
 have hh:=Mo h j cs[j] d (aAd hj) h2
 obtain⟨dd,e1,_⟩:=hd d (aBr h2)
 rw[e1] at hh ⊢
 unfold Has at hh
 obtain⟨b,xs,e2,e3,e4⟩:=hh
 cases e2
 exact Ic (hk j cs[j] k xs (aAd hj) h1 e3) (HasL.same s e4)
theorem Rg{H H':Hp}{ks:List Addr}{ds:List PyData}(t:Tups H H')(h:HasL H (ks.map V.ref) ds)(hd:∀d∈ds,∃dd,d=.list dd∧dd.length≤50∧Ib dd=true)(hk:∀k u,k∈ks→H k=some u→H' k=some u):HasL H' (ks.map V.ref) ds:=by
 have hcd:ks.length=ds.length:=by have:=KW h;rw[aAf] at this;exact this
 refine MP hcd fun j k d h1 h2=>?_
 have hh:=Mo h j k d h1 h2
 obtain⟨dd,e1,_,hno⟩:=hd d (aBr h2)
 rw[e1] at hh ⊢
 unfold Has at hh
 obtain⟨b,xs,e2,e3,e4⟩:=hh
 cases e2
 exact Ic (hk k _ (aBr h1) e3) (e4.tups t hno)
theorem PlD.shaped{ms:List Msg}{ds:List PyData}(ok:∀m∈ms,LE m)(h:PlD ms ds):SeqAt.shaped (.list ds)=true:=by
 obtain⟨ls,h1,rfl⟩:=h
 refine O2 fun d hd=>?_
 simp only[aAg,aAa,aBa] at hd
 rcases hd with rfl | rfl | rfl | rfl | rfl
 · exact N5 fun m hm=>ok m (ZJ m hm)
 · exact N5 fun m hm=>ok m ((h1.2 m).mp hm).1
 · exact ⟨by decide +kernel,by decide +kernel⟩
 · exact ⟨by decide +kernel,by decide +kernel⟩
 · exact ⟨by decide +kernel,by decide +kernel⟩
abbrev JH:Stmt:=IF 40
abbrev SG:List Str:=["_law_script","_law_at","_law_found","_law_k"]
theorem sc_l_messages:FnScope SG ["_law_script","_law_at"] (GV JH):=⟨rfl,rfl,rfl,by decide +kernel,rfl,by decide +kernel,by decide +kernel⟩
theorem QK{f:Addr}{fd:FuncData}(F:Fun K "_law_messages" "_law_messages" JH f fd)(T:Txt mg)(c_l_drawn:Callee P w K mg base 2 "_law_drawn" ["_law_script","_law_k","_law_many"] (RX K)):FnOk P w K mg base Jg 3 f fd ["_law_script","_law_at"] (Xi K):=by
 refine F.ok sc_l_messages (fun vs H Q E h=>?_) (fun cdv A outer s0 H vs Q E hr h=>?_)
 · obtain⟨a,ns,rfl,_⟩:=h;rfl
 · obtain⟨a,ns,rfl,hS,hlen,q⟩:=h
   refine ⟨_,(GX (Hs (i:=2) sc_l_messages.nd rfl (Or.inl rfl) (HJ GZ))
    (GX (J5 aBc rfl (Mj (by rfl) T.b_range (HU (HE c_l_drawn (hr.mono (by decide)) (G0 (pv 0) (GW (pv 1) (GW G9 GZ)))) IE)) (Hn (i:=3) sc_l_messages.nd rfl (Or.inl rfl)) (G4 (Hr (Mt K aAA aAP aAQ Jc (pv 2) (HU (Iw (GW (Hx JA (pv 3) G9) (GW (JM Yz Hw (HE c_l_drawn (hr.mono (by decide)) (G0 (pv 0) (GW (Hx JA (Hx JA (pv 1) G9) (pv 3)) (GW G9 GZ)))) (fun _ _=>rfl)) (GW (JM Yz Hw (HE c_l_drawn (hr.mono (by decide)) (G0 (pv 0) (GW (Hx JA (Hx JA (pv 1) G9) (pv 3)) (GW G9 GZ)))) (fun _ _=>rfl)) GZ)))) IE)))))
    (G4 (Hh (pv 2))))),?_⟩
   refine ⟨aAJ _,fun lp nlp=>?_⟩
   have w1:Stp [] H [lp] (Hq H lp (.lst [])):=Stp.make nlp
   have e1:=GU (H:=H) (a:=lp) (o:=.lst [])
   generalize Hq H lp (.lst [])=H1 at w1 e1 ⊢
   refine ⟨_,rfl,_,rfl,a,ns,0,7,rfl,w1.same.seq hS,hlen,by decide,by decide,fun H2 s2=>?_⟩
   have d0:=No ns 0 (m:=7) (by decide)
   have d7:=Qn ns 0 (m:=7) (by decide)
   generalize Qo ns 0 7=dn at d0 d7 ⊢
   refine ⟨_,rfl,by omega,by omega,Oa (lo:=0) (n:=dn.toNat) (fun i σ H'=>∃o3 ys ms,σ=[some (.ref a),some (.int 0),some (.ref lp),o3]∧H' lp=some (.lst ys)∧Ms H' ys ms∧ms.length=i∧Rows ms∧(∀m∈ms,LE m)∧Stp [] H [lp] H')
    ⟨_,[],[],rfl,s2 _ _ e1,Ms.nil,rfl,Rows.nil,fun m h=>absurd h aAa,w1.trans (s2.step _)⟩ ?_ ?_⟩
   · rintro i σ H' hi ⟨o3,ys,ms,rfl,el,ml,hln,hR,ok,wi⟩
     refine HN ⟨_,rfl,.inl ⟨rfl,_,SqL.ofL el⟩,_,rfl,_,_,rfl,rfl,?_⟩
     refine ⟨_,rfl,_,rfl,_,_,rfl,rfl,_,rfl,_,_,rfl,rfl,a,ns,_,2,rfl,wi.same.seq hS,hlen,by omega,by decide,fun H3 s3=>?_⟩
     obtain⟨c1,hc1,ok1⟩:=ach (No ns (0 + 1 + (0 + (i:Int))) (m:=2) (by decide)) (Qn ns (0 + 1 + (0 + (i:Int))) (m:=2) (by decide))
     refine ⟨"ab",_,c1,rfl,rfl,by decide +kernel,hc1,?_⟩
     refine ⟨_,rfl,_,rfl,_,_,rfl,rfl,_,rfl,_,_,rfl,rfl,a,ns,_,3,rfl,(wi.trans (s3.step _)).same.seq hS,hlen,by omega,by decide,fun H4 s4=>?_⟩
     obtain⟨c2,hc2,ok2⟩:=aaC (No ns (0 + 8 + (0 + (i:Int))) (m:=3) (by decide)) (Qn ns (0 + 8 + (0 + (i:Int))) (m:=3) (by decide))
     refine ⟨"xyz",_,c2,rfl,rfl,by decide +kernel,hc2,?_⟩
     generalize (⟨#[c1]⟩:Str)=t1 at ok1 ⊢
     generalize (⟨#[c2]⟩:Str)=t2 at ok2 ⊢
     refine ⟨(show 3≤sizeLine by decide),fun c nc=>?_⟩
     have emT:HO.tup [V.int ((0 + (i:Int)) + 1),V.str t1,V.str t2]=mT ⟨(ms.length:Int) + 1,t1,t2⟩:=by rw[hln,Int.zero_add];rfl
     rw[show HO.tup [(fun (i j:Int)=>V.int (i + j)) (0 + (i:Int)) 1,V.str t1,V.str t2]=mT ⟨(ms.length:Int) + 1,t1,t2⟩ from emT]
     have s34:=(s3.trans s4).trans (Same.new (o:=mT ⟨(ms.length:Int) + 1,t1,t2⟩) nc)
     have hc:Hq H4 c (mT ⟨(ms.length:Int) + 1,t1,t2⟩) c=some (mT ⟨(ms.length:Int) + 1,t1,t2⟩):=GU
     generalize Hq H4 c (mT ⟨(ms.length:Int) + 1,t1,t2⟩)=H5 at s34 hc ⊢
     have ly:=ml.len
     refine ⟨lp,_,_,rfl,rfl,s34 _ _ el,by rw[aAs];omega,?_⟩
     have st:=Stp.put (ps:=[lp]) (o:=.lst (ys ++ [.ref c])) (s34 _ _ el) (fun _ z=>by cases z) (by simp)
     refine ⟨_,_,ms ++ [⟨(ms.length:Int) + 1,t1,t2⟩],rfl,GU,((ml.same s34).step st).append (Ms.one (m:=⟨(ms.length:Int) + 1,t1,t2⟩) (st.tup _ _ hc)),by rw[aAk,hln];rfl,hR.snoc rfl,fun m hm=>?_,(wi.trans (s34.step _)).trans st⟩
     rcases aAx.mp hm with z | z
     · exact ok m z
     · rw[aAc] at z;rw[z];exact ⟨ok1,ok2⟩
   · rintro σ H' ⟨o3,ys,ms,rfl,el,ml,hln,hR,ok,wi⟩
     exact ⟨_,rfl,q lp ys ms H' wi.same nlp el ml (by omega) hR ok⟩
abbrev KF:Stmt:=IF 44
abbrev W3:List Str:=["_law_messages_here","_law_topics","_law_numbers","_law_rows"]
theorem sc_l_plain:FnScope W3 ["_law_messages_here","_law_topics","_law_numbers"] (GV KF):=⟨rfl,rfl,rfl,by decide +kernel,rfl,by decide +kernel,by decide +kernel⟩
theorem UV{f:Addr}{fd:FuncData}(F:Fun K "_law_plain" "_law_plain" KF f fd)(c_of_topics:Callee P w K mg base 2 "of_topics" ["messages","topics"] (S4 K))(c_last_ones:Callee P w K mg base 4 "last_ones" ["messages"] RP)(c_gaps_in:Callee P w K mg base 1 "gaps_in" ["numbers"] Xo)(c_waits:Callee P w K mg base 3 "waits" ["plan"] RK)(c_moments:Callee P w K mg base 4 "moments" ["plan","start"] Rb):FnOk P w K mg base Jg 5 f fd ["_law_messages_here","_law_topics","_law_numbers"] VC:=by
 refine F.ok sc_l_plain (fun vs H Q E h=>?_) (fun cdv A outer s0 H vs Q E hr h=>?_)
 · obtain⟨lm,lt,ln,ym,ms,rfl,_⟩:=h;rfl
 · obtain⟨lm,lt,ln,ym,ms,rfl,em,mm,et,en,hl,hR,ok,q⟩:=h
   refine ⟨_,(GX (Hs (i:=3) sc_l_plain.nd rfl (Or.inl rfl) (HJ (GW (HE c_of_topics (hr.mono (by decide)) (G0 (pv 0) (GW (pv 1) GZ))) (GW (HE c_last_ones (hr.mono (by decide)) (G0 (pv 0) GZ)) (GW (HE c_gaps_in (hr.mono (by decide)) (G0 (pv 2) GZ)) GZ)))))
    (G4 (Hh (Hx MK (pv 3) (HJ (GW (HE c_waits (hr.mono (by decide)) (G0 (Iw (GW G9 (GW G9 (GW G9 (GW G9 GZ))))) GZ)) (GW (HE c_moments (hr.mono (by decide)) (G0 (Iw (GW G9 (GW G9 (GW G9 (GW G9 GZ))))) (GW G9 GZ))) GZ))))))),?_⟩
   have pok:PlanOk 1 2 9 4:=⟨by decide,by decide,by decide,by decide,by decide,by decide⟩
   refine ⟨_,rfl,_,rfl,lm,ym,ms,.ref lt,some ["a"],rfl,em,mm,by omega,.inr ⟨lt,["a"],rfl,SqL.ofL et,rfl⟩,fun p1 y1 H1 s1 n1 e1 m1=>?_⟩
   have F1:=Frh.nil.snoc s1 n1 e1
   refine ⟨_,rfl,lm,ym,ms,rfl,s1 _ _ em,mm.same s1,by omega,hR.rise.diff,fun p2 y2 ls H2 s2 n2 e2 m2 hls=>?_⟩
   have F2:=F1.snoc s2 n2 e2
   refine ⟨_,rfl,ln,[1,3,7],rfl,F2.sm _ _ en,by decide,fun p3 y3 H3 s3 n3 e3 m3=>?_⟩
   have F3:=F2.snoc s3 n3 e3
   refine ⟨(show 3≤sizeLine by decide),fun l1 nl1=>?_⟩
   have g1:=Same.new (o:=.lst [V.ref p1,V.ref p2,V.ref p3]) nl1
   have el1:=GU (H:=H3) (a:=l1) (o:=.lst [V.ref p1,V.ref p2,V.ref p3])
   generalize Hq H3 l1 (.lst [V.ref p1,V.ref p2,V.ref p3])=H4 at g1 el1 ⊢
   have F4:=F3.same g1
   refine ⟨_,rfl,(show 4≤sizeLine by decide),fun c1 nc1=>⟨c1,1,2,9,4,rfl,GU,pok,fun p4 H5 n4 s4 e4=>?_⟩⟩
   have gc1:=Same.new (o:=.tup [V.int 1,V.int 2,V.int 9,V.int 4]) nc1
   have F5:=(F4.same gc1).snoc s4 n4 e4
   have s45:=gc1.trans s4
   refine ⟨(show 4≤sizeLine by decide),fun c2 nc2=>⟨c2,5,1,2,9,4,rfl,GU,pok,fun p5 H6 n5 s5 e5=>?_⟩⟩
   have gc2:=Same.new (o:=.tup [V.int 1,V.int 2,V.int 9,V.int 4]) nc2
   have F6:=(F5.same gc2).snoc s5 n5 e5
   have s56:=gc2.trans s5
   refine ⟨(show 2≤sizeLine by decide),fun l2 nl2=>?_⟩
   have g2:=Same.new (o:=.lst [V.ref p4,V.ref p5]) nl2
   refine ⟨l1,l2,_,_,rfl,rfl,g2 _ _ (s56 _ _ (s45 _ _ el1)),GU,(show 5≤sizeLine by decide),fun p np=>?_⟩
   have g3:=Same.new (o:=.lst ([V.ref p1,V.ref p2,V.ref p3] ++ [V.ref p4,V.ref p5])) np
   have F7:=(F6.same g2).snoc (c:=p) g3 np GU
   have t6:Same H6 _:=g2.trans g3
   have t5:=s56.trans t6
   have t4:=s45.trans t5
   have t3:=g1.trans t4
   have t2:=s3.trans t3
   have t1:=s2.trans t2
   refine q p [p1,p2,p3,p4,p5] _ _ F7.sm (F7.fr p (by simp)) GU ?_ ⟨ls,hls,rfl⟩ F7
   exact Hi (Ic (t1 _ _ e1) (m1.same t1)) (Hi (Ic (t2 _ _ e2) (m2.same t2)) (Hi (Ic (t3 _ _ e3) (HasL.same t3 m3)) (Hi (Ic (t5 _ _ e4) (Jy _)) (Hi (Ic (t6 _ _ e5) (Jy _)) HH))))
abbrev Io:Stmt:=IF 45
abbrev LQ:List Str:=["_law_messages_here","_law_topics","_law_numbers","_law_first","_law_stored","_law_row","_law_states"]
theorem sc_l_lists_stand:FnScope LQ ["_law_messages_here","_law_topics","_law_numbers"] (GV Io):=⟨rfl,rfl,rfl,by decide +kernel,rfl,by decide +kernel,by decide +kernel⟩
theorem NW{f:Addr}{fd:FuncData}(F:Fun K "_law_lists_stand" "_law_lists_stand" Io f fd)(T:Txt mg)(c_state_of:Callee P w K mg base 5 "state_of" ["messages"] RL)(c_l_plain:Callee P w K mg base 5 "_law_plain" ["_law_messages_here","_law_topics","_law_numbers"] VC):FnOk P w K mg base Jg 6 f fd ["_law_messages_here","_law_topics","_law_numbers"] S5:=by
 refine F.ok sc_l_lists_stand (fun vs H Q E h=>?_) (fun cdv A outer s0 H vs Q E hr h=>?_)
 · obtain⟨lm,lt,ln,ym,ms,rfl,_⟩:=h;rfl
 · obtain⟨lm,lt,ln,ym,ms,rfl,em,mm,et,en,hl,hR,ok,q⟩:=h
   refine ⟨_,(GX (Hs (i:=3) sc_l_lists_stand.nd rfl (Or.inl rfl) (HE c_l_plain (hr.mono (by decide)) (G0 (pv 0) (GW (pv 1) (GW (pv 2) GZ)))))
    (GX (Sa (i:=4) sc_l_lists_stand.nd rfl (Or.inl rfl) (N':=["_law_row"]) (ix:=[none]) (own:=[0]) rfl (LA (osc:=GV Io) (ON:=LQ) rfl rfl (by decide +kernel)) (by decide) (HQ K (pv 3)) (fun _ _ _ _=>(Hn (i:=0) (show (["_law_row"]:List Str).Nodup by decide +kernel) rfl (Or.inl rfl))) Jb (fun _ _ _ _=>Lp) (fun _ _ _ _=>(ID (IP K) (by rfl) T.b_list aAN (G0 (pv 0) GZ))))
    (GX (J5 aBc rfl (HQ K (pv 3)) (Hn (i:=5) sc_l_lists_stand.nd rfl (Or.inl rfl)) (G4 (Hr (Mt K aAA aAP aAQ Jc (pv 5) (HU Hw IE)))))
    (GX (Hs (i:=6) sc_l_lists_stand.nd rfl (Or.inl rfl) (HJ (GW (HE c_state_of (hr.mono (by decide)) (G0 (pv 0) GZ)) (GW (HE c_state_of (hr.mono (by decide)) (G0 (pv 0) GZ)) GZ))))
    (GX (J6 (Jk hr) (JM (KM K) (pv 6) G9 (fun _ _=>rfl)) Hw Hw rfl)
    (G4 (Hh (XV (Nb (XZ hr.units) (HE c_l_plain (hr.mono (by decide)) (G0 (pv 0) (GW (pv 1) (GW (pv 2) GZ)))) (pv 4) (Hy _)) (XM (Nb (aa4 hr.units0) (HE c_state_of (hr.mono (by decide)) (G0 (pv 0) GZ)) (JM (KM K) (pv 6) G9 (fun _ _=>rfl)) (Hy _))))))))))),?_⟩
   refine ⟨_,rfl,_,rfl,_,rfl,lm,lt,ln,ym,ms,rfl,em,mm,et,en,hl,hR,ok,fun p cs ds H1 s1 np ep hds hPl F1=>?_⟩
   have lcs:cs.length=5:=by
    have:=KW hds
    obtain⟨ls,_,rfl⟩:=hPl
    rw[aAf] at this;exact this
   have hcl:=Tg hds (hPl.lists hl)
   dsimp only
   refine aaw (aax ?_)
   refine Ry (fun R hR'=>⟨_,rfl,hR'⟩) ep (by omega) (fun c hc=>let ⟨xs,e,_⟩:=hcl c hc;⟨xs,e⟩) (fun l ks H2 s2 nl el hkl hks hkf=>?_)
   have hdk:=Qq s2 hds (hPl.lists hl) hkl hks
   have hfr:∀c∈cs,H c=none:=fun c hc=>F1.fr c (aAj _ hc)
   have npc:p∉cs:=fun z=>(aBF.mp F1.nd).2.2 p z p (by simp) rfl
   have nlc:l∉cs:=fun z=>by obtain⟨xs,e,_⟩:=hcl l z;rw[nl] at e;cases e
   have nkc:∀k∈ks,k∉cs:=fun k hk z=>by obtain⟨xs,e,_⟩:=hcl k z;rw[hkf k hk] at e;cases e
   have nmc:∀{c u},H c=some u→c∉cs:=fun {c u} e z=>by rw[hfr c z] at e;cases e
   have s12:=s1.trans s2
   have w2:Stp [] H cs H2:=⟨(s12.step []).1,(s12.step []).2,fun c hc=>.inr (hfr c hc)⟩
   have ep2:=s2 _ _ ep
   have hcl2:∀c∈cs,∃xs,H2 c=some (.lst xs)∧xs.length≤50 + 0:=fun c hc=>let ⟨xs,e,h⟩:=hcl c hc;⟨xs,s2 _ _ e,h⟩
   refine ⟨_,rfl,p,rfl,⟨_,SqL.ofL ep2⟩,JR (K:=K) (a:=p) (xs:=cs.map V.ref) (fun i σ H'=>∃o5,σ=[some (.ref lm),some (.ref lt),some (.ref ln),some (.ref p),some (.ref l),o5,none]∧Stp cs H2 cs H'∧∀c∈cs,∃xs,H' c=some (.lst xs)∧xs.length≤50 + i)
    ⟨_,rfl,(Same.refl H2).step _,hcl2⟩ (fun i σ H' _ ⟨_,_,w,_⟩=>SqL.ofL (w.keep ep2 npc)) ?_ ?_⟩
   · rintro i x σ H' hi ⟨o5,rfl,w,hc'⟩
     obtain⟨c,hci,rfl⟩:∃c,cs[i]?=some c∧x=V.ref c:=by
      rw[aAH] at hi
      cases h:cs[i]? with
      | none=>rw[h] at hi;cases hi
      | some n=>rw[h] at hi;exact ⟨n,rfl,(aAi hi).symm⟩
     have hcm:=aBr hci
     have hi5:=(aAn.mp hci).1
     obtain⟨xs,exs,hxl⟩:=hc' c hcm
     refine HN ⟨_,rfl,.inl ⟨rfl,_,SqL.ofL exs⟩,c,xs,_,rfl,rfl,exs,by rw[aAs];omega,?_⟩
     have st:=Stp.put (ps:=cs) (o:=.lst (xs ++ [V.str "x"])) exs (fun _ z=>by cases z) hcm
     refine ⟨_,rfl,w.trans st,fun d hd=>?_⟩
     by_cases z:d=c
     · rw[z];exact ⟨_,GU,by rw[aAk];show _ + 1≤_;omega⟩
     · obtain⟨xs',e',h'⟩:=hc' d hd
       exact ⟨xs',(GY z).trans e',by omega⟩
   rintro σ H3 ⟨o5,rfl,w3,_⟩
   have v3:=w2.trans w3
   have em3:=v3.same _ _ em
   have mm3:=mm.step v3
   refine ⟨_,rfl,lm,ym,ms,rfl,em3,mm3,by omega,hR.rise.diff,fun d6 l6 H4 s4 n6 e6 h6=>?_⟩
   refine ⟨_,rfl,lm,ym,ms,rfl,s4 _ _ em3,mm3.same s4,by omega,hR.rise.diff,fun d7 l7 H5 s5 n7 e7 h7=>?_⟩
   have nd67:d7≠d6:=fun z=>by rw[←z,n7] at e6;cases e6
   refine ⟨(show 2≤sizeLine by decide),fun lst nlst=>?_⟩
   have g6:=Same.new (o:=.lst [V.ref d6,V.ref d7]) nlst
   have elst:=GU (H:=H5) (a:=lst) (o:=.lst [V.ref d6,V.ref d7])
   have e66:=g6 _ _ (s5 _ _ e6)
   have e76:=g6 _ _ e7
   have s36:=(s4.trans s5).trans g6
   generalize Hq H5 lst (.lst [V.ref d6,V.ref d7])=H6 at g6 elst e66 e76 s36 ⊢
   have nlst6:lst≠d6:=fun z=>by rw[z,e66] at elst;cases elst
   have hd6l:(dS (Ku l6)).length < sizeLine:=by
    have:l6.length≤ms.length:=aB7 (h6.1.imp fun h e=>by rw[e] at h;omega) fun m hm=>((h6.2 m).mp hm).1
    rw[U3,aAs]
    unfold Ku
    rw[aAf];omega
   refine ⟨_,rfl,lst,_,0,_,rfl,rfl,SqL.ofL elst,rfl,d6,_,rfl,DPut.k (k:=Sum.inr "x") e66 hd6l,?_⟩
   have n60:H d6=none:=v3.free n6 aAa
   have st6:=Stp.put (ps:=[d6]) (o:=.dK (Ir (dS (Ku l6)) (Sum.inr "x") (V.str "x"))) e66 (fun _ z=>by cases z) (by simp)
   have v36:=v3.trans (s36.step cs)
   have v36':Stp [] H (d6 :: cs) H6:=⟨v36.1,v36.2,fun c hc=>(by
    rcases aAg.mp hc with z | z
    · rw[z];exact .inr n60
    · exact v36.3 c z)⟩
   have v7:=v36'.trans (st6.up fun c hc=>by rw[aAc] at hc;rw[hc];exact aAp)
   have kp:∀{c u},H2 c=some u→c∉cs→Hq H6 d6 (.dK (Ir (dS (Ku l6)) (Sum.inr "x") (V.str "x"))) c=some u:=fun {c u} e hc=>by
    have e3:=w3.keep e hc
    exact st6.keep (s36 _ _ e3) (fun z=>by rw[aAc] at z;rw[z,n6] at e3;cases e3)
   have el7:=kp el nlc
   have tt:Tups H2 (Hq H6 d6 (.dK (Ir (dS (Ku l6)) (Sum.inr "x") (V.str "x")))):=(w3.tup.trans (s36.step []).tup).trans st6.tup
   have hdk7:=Rg tt hdk (hPl.lists hl) (fun k u hk e=>kp e (nkc k hk))
   have elst7:=st6.keep elst (by simp[nlst6])
   have e77:=st6.keep e76 (by simp[nd67])
   generalize Hq H6 d6 (.dK (Ir (dS (Ku l6)) (Sum.inr "x") (V.str "x")))=H7 at v7 el7 hdk7 elst7 e77 ⊢
   refine ⟨_,rfl,_,rfl,_,rfl,lm,lt,ln,ym,ms,rfl,v7.same _ _ em,mm.step v7,v7.same _ _ et,v7.same _ _ en,hl,hR,ok,fun p8 cs8 ds8 H8 s8 np8 ep8 hds8 hPl8 F8=>?_⟩
   obtain rfl:ds8=ds:=hPl8.uniq hPl
   have hsh:=hPl8.shaped ok
   refine ⟨_,rfl,.list ds8,.list ds8,Ic ep8 hds8,Ic (s8 _ _ el7) (HasL.same s8 hdk7),hsh,hsh,?_⟩
   rw[aB5 _ (aBX.mp hsh).1]
   refine ⟨_,rfl,Lb ?_⟩
   have v8:=v7.trans (s8.step _)
   refine ⟨_,rfl,lm,ym,ms,rfl,v8.same _ _ em,mm.step v8,by omega,hR.rise.diff,fun d9 l9 H9 s9 n9 e9 h9=>?_⟩
   refine ⟨_,rfl,lst,_,1,_,rfl,rfl,SqL.ofL (s9 _ _ (s8 _ _ elst7)),rfl,d9,d7,Ku l9,Ku l7,rfl,rfl,e9,s9 _ _ (s8 _ _ e77),?_⟩
   obtain rfl:l9=l7:=h9.uniq h7
   show Q (V.bl (Z6 (Ku l9) (Ku l9))) H9
   rw[T5 hR.rise.diff h9]
   exact q _ (v8.trans (s9.step _)).same
structure C7 where
 CT:Addr
 CH:Addr
 CF:Addr
 CR:Addr
 CS:Addr
 CW:Addr
 CL:Addr
structure PT where
 tp:Addr
 ts:Addr
 td:Addr
 kT:Int
 all:List Msg
 B:HA
 hB:HS
 A:FA
 g:Str→FE
 S:SA
 lS:HL
 fS:Str→HS
 st:List (Str×Msg)
 wp:Addr
 ww:Addr
 wr:Addr
 ws:WS
 rp:Addr
 rr:Addr
 rd:Addr
 rs:RS
 D:HA
 hD:HS
def L1R:List Str:=["r"]
def PT.fps(x:PT):List (List Addr):=[[x.tp,x.ts,x.td],x.B.fp,x.A.fp L1R x.g,x.S.fp x.lS,[x.wp,x.ww,x.wr],[x.rp,x.rr,x.rd],x.D.fp]
def Dj(a b:List Addr):Prop:=∀c∈a,c∉b
structure P7(c:C7)(H:Hp)(x:PT):Prop where
 t:TAt c.CT H x.tp x.kT 0 x.all x.ts x.td
 h:HAt c.CH H x.B x.hB []
 f:FAt c.CF c.CT c.CR c.CH H x.A L1R x.g 9 x.all
 s:SAt c.CS c.CH H x.S x.lS x.fS x.st
 w:WAt c.CW H x.wp x.ws x.ww x.wr
 r:RAt c.CR H x.rp 2 "old" x.rs x.rr x.rd
 l:HAt c.CL H x.D x.hD (WF 3)
 ap:x.fps.Pairwise Dj
theorem P7.same{c:C7}{H H':Hp}{x:PT}(p:P7 c H x)(s:Same H H'):P7 c H' x:=⟨p.t.same s,p.h.same s,p.f.same s,p.s.same s,p.w.same s,p.r.step (s.step []) fun _ _=>aAa,p.l.same s,p.ap⟩
structure G7(x:PT):Prop where
 ln:x.all.length≤6
 rows:Rows x.all
 ok:∀m∈x.all,LE m
 k0:0≤x.kT
 b1:x.hB.heard.length + x.hB.lost.length≤20∧x.hB.held.length≤20
 b2:∀m∈x.hB.held,0 < m.n∧m.n < 20∧LE m
 b5:0 < x.hB.next∧Diff x.hB.held
 b3:Rise x.hB.heard
 b4:∀m∈x.hB.heard,LE m
 f1:∀m∈(x.g "r").h.heard,LE m
 f2:∀m∈(x.g "r").s.rows,LE m
 f3:(x.g "r").h.heard.length≤20∧(x.g "r").h.lost.length≤20∧(x.g "r").s.rows.length≤20
 s1:x.lS.length≤5
 s3:x.st.length≤20
 s2:∀e∈x.st,PyData.strOk e.1=true∧LE e.2
 w1:∀m∈x.ws.way,LE m
 w2:∀m∈x.ws.rows,LE m
 w3:x.ws.way.length≤20∧x.ws.rows.length≤20
 r1:∀m∈x.rs.rows,LE m
 r2:x.rs.rows.length≤20∧x.rs.out.length≤20
 l1:x.hD.heard.length≤20
 l2:∀m∈x.hD.heard,LE m
 l3:0 < x.hD.next
def IsM(s:HS)(M:Int):Prop:=(s.held=[]∧M=0)∨(∃m∈s.held,m.n=M)∧∀m∈s.held,m.n≤M
def iL(ns:List Int):PyData:=.list (ns.map PyData.int)
def mL(ms:List Msg):PyData:=.list (ms.map mD)
def L7(x:PT)(ds:List PyData):Prop:=∃(ls:List Msg) (w4:Str) (ls4 ms4:List Msg) (M:Int) (rs5:List (Str×Int)),Lasts x.all ls∧Lasts x.all ls4∧sF x.kT 0 x.all ls4 0 0 none=sD w4 ms4∧IsM x.hB M∧rs5.Perm (JD x.fS x.lS [("s",9)])∧rs5.Pairwise (fun x y=>x.1.cps.toList < y.1.cps.toList)∧
 ds=[mL (Im x.kT x.all),mL ls,mL (ofT none ((Im x.kT x.all).filter fun m=>decide (m.n > 0))),mL ms4,mL x.hB.heard,iL (W.sortI (x.hB.held.map (·.n))),iL (VZ x.hB M),iL x.hB.lost,.list [.str "r"],.list [.str "r"],mL (x.g "r").h.heard,iL (x.g "r").h.lost,mL (x.g "r").s.rows,.list (x.st.map VJ),.list (rs5.map prD),mL x.ws.way,mL x.ws.rows,mL x.rs.rows,iL x.rs.out]
def Ph(c:C7):Sp:=fun vs H Q _=>∃x,vs=[.ref (PT.tp x),.ref x.B.p,.ref x.A.p,.ref x.S.p,.ref x.wp,.ref x.rp]∧P7 c H x∧G7 x∧∀p cs ds H',Same H H'→H' p=some (.lst (cs.map V.ref))→HasL H' (cs.map V.ref) ds→L7 x ds→Frh H H' (cs ++ [p])→Q (.ref p) H'
structure TxtA(K:W.Frag)(mg:Str→Option Value)(c:C7):Prop where
 R_Teller:TellerC K mg c.CT
 R_Hearer:HearK K mg c.CH
 R_Fan:FanC K mg c.CF
 R_Road:RoadC K mg c.CR
 R_Sources:SourcesC K mg c.CS
 R_Window:WindowC K mg c.CW
 R_Relay:RelayC K mg c.CL
section
variable{c:C7}(h:TxtA K mg c)
include h
theorem TxtA.cl_Teller:Cls K c.CT:=h.R_Teller.cl_Teller
theorem TxtA.cl_Hearer:Cls K c.CH:=h.R_Hearer.cl_Hearer
theorem TxtA.cl_Fan:Cls K c.CF:=h.R_Fan.cl_Fan
theorem TxtA.cl_Road:Cls K c.CR:=h.R_Road.cl_Road
theorem TxtA.cl_Sources:Cls K c.CS:=h.R_Sources.cl_Sources
theorem TxtA.cl_Window:Cls K c.CW:=h.R_Window.cl_Window
theorem TxtA.cl_Relay:Cls K c.CL:=h.R_Relay.cl_Relay
end
theorem acc{H H1 H2:Hp}{cs:List Addr}{ds dd:List PyData}{c:Addr}{ys:List V}(F:Frh H H1 cs)(D:HasL H1 (cs.map V.ref) ds)(s:Same H1 H2)(n:H1 c=none)(e:H2 c=some (.lst ys))(m:HasL H2 ys dd):Frh H H2 (cs ++ [c])∧HasL H2 ((cs ++ [c]).map V.ref) (ds ++ [.list dd]):=
 ⟨F.snoc s n e,by rw[aAy];exact HasL.append (HasL.same s D) (Hi (Ic e m) HH)⟩
theorem TD{room:Int}{w r:Addr}{a:Int}{f:Str}(h:f = "put"∨f = "done"∨f = "again"∨f = "waiting"∨f = "came"):(nF room w r a).lookup f=none:=by
 rcases h with rfl | rfl | rfl | rfl | rfl <;> exact VU (by decide +kernel) (by decide +kernel) (by decide +kernel) (by decide +kernel)
theorem VR{sz:Int}{way:Str}{r d:Addr}{b:Bool}{f:Str}(h:f = "put"∨f = "waiting"∨f = "left_out"∨f = "is_cut"):(rF sz way r d b).lookup f=none:=by
 rcases h with rfl | rfl | rfl | rfl <;> exact Tm (by decide +kernel) (by decide +kernel) (by decide +kernel) (by decide +kernel) (by decide +kernel)
theorem acO{a:FA}:(Up a).lookup ("names" : Str)=none:=Kb (.inr (.inr (.inr (.inl rfl))))
theorem acM{a:FA}:(Up a).lookup ("slowest" : Str)=none:=Kb (.inr (.inr (.inr (.inr (.inr (.inr (.inr (.inr (.inr (.inr (.inr (.inl rfl))))))))))))
theorem acP{a:FA}:(Up a).lookup ("heard" : Str)=none:=Kb (.inr (.inr (.inr (.inr (.inr (.inr (.inr (.inl rfl))))))))
theorem acN{a:FA}:(Up a).lookup ("lost" : Str)=none:=Kb (.inr (.inr (.inr (.inr (.inr (.inr (.inr (.inr (.inl rfl)))))))))
theorem acL{a:FA}:(Up a).lookup ("waiting" : Str)=none:=Kb (.inr (.inr (.inr (.inr (.inr (.inr (.inr (.inr (.inr (.inl rfl))))))))))
theorem rL1:("r" : Str)∈L1R:=by unfold L1R;simp
theorem Wd:L1R.Pairwise VY:=aB6 _ _
theorem Qg{H:Hp}:∀l:List Str,HasL H (l.map V.str) (l.map PyData.str)
 | []=>HH
 | t :: l=>Hi (Kw t) (Qg l)
abbrev KG:Stmt:=IF 41
abbrev W4:List Str:=["_law_teller","_law_hearer","_law_fan","_law_sources","_law_window","_law_road","_law_rows"]
theorem sc_l_lists:FnScope W4 ["_law_teller","_law_hearer","_law_fan","_law_sources","_law_window","_law_road"] (GV KG):=⟨rfl,rfl,rfl,by decide +kernel,rfl,by decide +kernel,by decide +kernel⟩
theorem UW{f XN XR:Addr}{fd:FuncData}{c:C7}(F:Fun K "_law_lists" "_law_lists" KG f fd)(TC:TxtA K mg c)(m_Teller_kept:CalleeM P w K mg base 1 c.CT "kept" ["self"] (Xl c.CT))(m_last:CalleeM P w K mg base 5 c.CT "last" ["self"] (RO c.CT))(mx_Teller_behind:CalleeMX P w K mg base 3 c.CT "behind" ["self","number","topics"] (Mg K c.CT XN))(mx_since:CalleeMX P w K mg base 6 c.CT "since" ["self","mark","topics"] (S2 K c.CT XN))
 (m_Hearer_heard:CalleeM P w K mg base 1 c.CH "heard" ["self"] (MZ c.CH))(m_early:CalleeM P w K mg base 1 c.CH "early" ["self"] (RW c.CH))(m_missing:CalleeM P w K mg base 2 c.CH "missing" ["self"] (Rc c.CH))(m_Hearer_lost:CalleeM P w K mg base 1 c.CH "lost" ["self"] (UC c.CH))
 (m_names:CalleeM P w K mg base 1 c.CF "names" ["self"] (M0 c.CF c.CT c.CR c.CH))(m_slowest:CalleeM P w K mg base 4 c.CF "slowest" ["self"] (RU c.CF c.CT c.CR c.CH))(mx_Fan_heard:CalleeMX P w K mg base 3 c.CF "heard" ["self","name"] (ND c.CF c.CT c.CR c.CH XR))(mx_Fan_lost:CalleeMX P w K mg base 3 c.CF "lost" ["self","name"] (Pm c.CF c.CT c.CR c.CH XR))(mx_Fan_waiting:CalleeMX P w K mg base 3 c.CF "waiting" ["self","name"] (Pk c.CF c.CT c.CR c.CH XR))
 (m_Sources_heard:CalleeM P w K mg base 1 c.CS "heard" ["self"] (Pf c.CS c.CH))(m_lacks:CalleeM P w K mg base 3 c.CS "lacks" ["self","marks"] (Pe c.CS c.CH))(m_again:CalleeM P w K mg base 1 c.CW "again" ["self"] (VH c.CW))(m_Window_waiting:CalleeM P w K mg base 1 c.CW "waiting" ["self"] (Pc c.CW))(m_Road_waiting:CalleeM P w K mg base 1 c.CR "waiting" ["self"] (Uz c.CR))(m_left_out:CalleeM P w K mg base 1 c.CR "left_out" ["self"] (Xk c.CR)) :
 FnOk P w K mg base Jg 7 f fd ["_law_teller","_law_hearer","_law_fan","_law_sources","_law_window","_law_road"] (Ph c):=by
 refine F.ok sc_l_lists (fun vs H Q E h=>?_) (fun cdv A0 outer s0 H vs Q E hr h=>?_)
 · obtain⟨x,rfl,_⟩:=h;rfl
 · obtain⟨x,rfl,X,G,q⟩:=h
   refine ⟨_,(GX (Hs (i:=6) sc_l_lists.nd rfl (Or.inl rfl) (HJ (GW (Hl m_Teller_kept TC.cl_Teller (hr.mono (by decide)) (pv 0)) (GW (Hl m_last TC.cl_Teller (hr.mono (by decide)) (pv 0)) (GW (JM (Jd K) (Hz mx_Teller_behind TC.cl_Teller (hr.mono (by decide)) Ia (pv 0) (G0 G9 (GW NP GZ))) G9 (fun _ _=>rfl)) (GW (JM (Jd K) (Hz mx_since TC.cl_Teller (hr.mono (by decide)) Ia (pv 0) (G0 (Iw (GW G9 (GW G9 GZ))) (GW NP GZ))) G9 (fun _ _=>rfl)) GZ))))))
    (GX (Hs (i:=6) sc_l_lists.nd rfl (Or.inl rfl) (Hx MK (pv 6) (HJ (GW (Hl m_Hearer_heard TC.cl_Hearer (hr.mono (by decide)) (pv 1)) (GW (Hl m_early TC.cl_Hearer (hr.mono (by decide)) (pv 1)) (GW (Hl m_missing TC.cl_Hearer (hr.mono (by decide)) (pv 1)) (GW (Hl m_Hearer_lost TC.cl_Hearer (hr.mono (by decide)) (pv 1)) (GW (Hl m_names TC.cl_Fan (hr.mono (by decide)) (pv 2)) (GW (Hl m_slowest TC.cl_Fan (hr.mono (by decide)) (pv 2)) GZ)))))))))
    (GX (Hs (i:=6) sc_l_lists.nd rfl (Or.inl rfl) (Hx MK (pv 6) (HJ (GW (Hz mx_Fan_heard TC.cl_Fan (hr.mono (by decide)) Ia (pv 2) (G0 Hw GZ)) (GW (Hz mx_Fan_lost TC.cl_Fan (hr.mono (by decide)) Ia (pv 2) (G0 Hw GZ)) (GW (Hz mx_Fan_waiting TC.cl_Fan (hr.mono (by decide)) Ia (pv 2) (G0 Hw GZ)) (GW (Hl m_Sources_heard TC.cl_Sources (hr.mono (by decide)) (pv 3)) (GW (JS m_lacks TC.cl_Sources (hr.mono (by decide)) (pv 3) (G0 (ZC (XI Hw G9 Zw) rfl rfl (List.cons_ne_nil _ _) (Nat.le_of_ble_eq_true rfl)) GZ)) GZ))))))))
    (G4 (Hh (Hx MK (pv 6) (HJ (GW (Hl m_again TC.cl_Window (hr.mono (by decide)) (pv 4)) (GW (Hl m_Window_waiting TC.cl_Window (hr.mono (by decide)) (pv 4)) (GW (Hl m_Road_waiting TC.cl_Road (hr.mono (by decide)) (pv 5)) (GW (Hl m_left_out TC.cl_Road (hr.mono (by decide)) (pv 5)) GZ))))))))))),?_⟩
   have F0:=Frh.nil (H:=H)
   have D0:HasL H (([]:List Addr).map V.ref) []:=HH
   have X0:=X.same F0.sm
   obtain⟨e0,b0⟩:=X0.t.ob
   refine ⟨_,rfl,x.tp,e0,_,rfl,b0,OM (.inr (.inr (.inl rfl))),x.tp,x.kT,0,x.all,x.ts,x.td,rfl,X0.t,fun q1 y1 n1 m1=>?_⟩
   have g1:=Same.new (o:=.lst (y1)) n1
   have ⟨F1,D1⟩:=acc F0 D0 g1 n1 GU m1
   clear g1
   generalize Hq H q1 (.lst (y1))=K1 at F1 D1 ⊢
   have X1:=X.same F1.sm
   obtain⟨e1,b1⟩:=X1.t.ob
   refine ⟨_,rfl,x.tp,e1,_,rfl,b1,OM (.inr (.inr (.inr (.inr (.inl rfl))))),x.tp,x.kT,0,x.all,x.ts,x.td,rfl,X1.t,by have:=G.ln;omega,G.rows.rise,fun q2 y2 ls K2 s2 n2 f2 m2 hls=>?_⟩
   have ⟨F2,D2⟩:=acc F1 D1 s2 n2 f2 m2
   have X2:=X.same F2.sm
   obtain⟨e2,b2⟩:=X2.t.ob
   refine ⟨_,rfl,x.tp,e2,_,rfl,b2,OM (.inr (.inr (.inr (.inr (.inr (.inr (.inl rfl))))))),x.tp,0,.non,none,x.kT,0,x.all,x.ts,x.td,rfl,X2.t,by have:=G.ln;omega,.inl ⟨rfl,rfl⟩,.inl ⟨by decide,by omega,fun qq q3 y3 K3 s3 nqq n3 f3' f3 m3=>?_⟩⟩
   have ⟨F3,D3⟩:=acc F2 D2 s3 n3 f3 m3
   refine ⟨qq,_,0,_,rfl,rfl,SqT.ofT f3',rfl,?_⟩
   have X3:=X.same F3.sm
   obtain⟨e3,b3⟩:=X3.t.ob
   refine ⟨_,rfl,x.tp,e3,_,rfl,b3,OM (.inr (.inr (.inr (.inr (.inr (.inr (.inr (.inl rfl)))))))),(show 2≤sizeLine by decide),fun mk nmk=>?_⟩
   have gmk:=Same.new (o:=.tup [V.int 0,V.int 0]) nmk
   have emk:=GU (H:=K3) (a:=mk) (o:=.tup [V.int 0,V.int 0])
   have F3a:=F3.same gmk
   have D3a:=HasL.same gmk D3
   generalize Hq K3 mk (.tup [V.int 0,V.int 0])=K3a at gmk emk F3a D3a ⊢
   have nbad:¬NK 0 x.all 0 0:=by unfold NK;omega
   refine ⟨x.tp,mk,0,0,.non,none,x.kT,0,x.all,x.ts,x.td,rfl,emk,(X.same F3a.sm).t,by have:=G.ln;omega,G.rows.rise,.inl ⟨rfl,rfl⟩,.inr ⟨nbad,fun qq4 q4 y4 ls4 w4 ms4 K4 s4 hls4 n4 f4' f4 m4 hsF=>?_⟩⟩
   have ⟨F4,D4⟩:=acc F3a D3a s4 n4 f4 m4
   refine ⟨qq4,_,1,_,rfl,rfl,SqT.ofT f4',rfl,?_⟩
   refine ⟨(show 4≤sizeLine by decide),fun r1 nr1=>?_⟩
   have gr1:=Same.new (o:=.lst [V.ref q1,V.ref q2,V.ref q3,V.ref q4]) nr1
   have er:=GU (H:=K4) (a:=r1) (o:=.lst [V.ref q1,V.ref q2,V.ref q3,V.ref q4])
   replace F4:=F4.same gr1
   replace D4:=HasL.same gr1 D4
   generalize Hq K4 r1 (.lst [V.ref q1,V.ref q2,V.ref q3,V.ref q4])=K4b at er F4 D4 gr1 ⊢
   clear gr1 D3a F3a emk gmk f4' f3'
   refine ⟨_,rfl,?_⟩
   have X4:=X.same F4.sm
   obtain⟨e4,b4⟩:=X4.h.ob
   refine ⟨_,rfl,x.B.p,e4,_,rfl,b4,Lh X4.h (.inr (.inr (.inr (.inr (.inr (.inl rfl)))))),x.B,x.hB,[],rfl,X4.h,fun q5 y5 n5 m5=>?_⟩
   have g5:=Same.new (o:=.lst (y5)) n5
   have ⟨F5,D5⟩:=acc F4 D4 g5 n5 GU m5
   replace er:=g5 _ _ er
   clear g5
   generalize Hq K4b q5 (.lst (y5))=K5 at F5 D5 er ⊢
   have X5:=X.same F5.sm
   obtain⟨e5,b5⟩:=X5.h.ob
   refine ⟨_,rfl,x.B.p,e5,_,rfl,b5,Lh X5.h (.inr (.inr (.inr (.inr (.inr (.inr (.inl rfl))))))),x.B,x.hB,[],rfl,X5.h,by have:=G.b1;omega,fun q6 n6=>?_⟩
   have g6:=Same.new (o:=.lst ((W.sortI (x.hB.held.map (·.n))).map V.int)) n6
   have ⟨F6,D6⟩:=acc F5 D5 g6 n6 GU (Jy _)
   replace er:=g6 _ _ er
   clear g6
   generalize Hq K5 q6 (.lst ((W.sortI (x.hB.held.map (·.n))).map V.int))=K6 at F6 D6 er ⊢
   have X6:=X.same F6.sm
   obtain⟨e6,b6⟩:=X6.h.ob
   refine ⟨_,rfl,x.B.p,e6,_,rfl,b6,Lh X6.h (.inr (.inr (.inr (.inr (.inr (.inr (.inr (.inl rfl)))))))),x.B,x.hB,[],rfl,X6.h,by have:=G.b1;omega,fun m hm=>by have:=G.b2 m hm;omega,by have:=G.b1;omega,fun M q7 K7 hM s7 n7 f7=>?_⟩
   have ⟨F7,D7⟩:=acc F6 D6 s7 n7 f7 (Jy _)
   replace er:=s7 _ _ er
   have X7:=X.same F7.sm
   obtain⟨e7,b7⟩:=X7.h.ob
   refine ⟨_,rfl,x.B.p,e7,_,rfl,b7,Lh X7.h (.inr (.inr (.inr (.inr (.inr (.inr (.inr (.inr (.inl rfl))))))))),x.B,x.hB,[],rfl,X7.h,fun q8 n8=>?_⟩
   have g8:=Same.new (o:=.lst (x.hB.lost.map V.int)) n8
   have ⟨F8,D8⟩:=acc F7 D7 g8 n8 GU (Jy _)
   replace er:=g8 _ _ er
   clear g8
   generalize Hq K7 q8 (.lst (x.hB.lost.map V.int))=K8 at F8 D8 er ⊢
   have X8:=X.same F8.sm
   obtain⟨e8,b8⟩:=X8.f.ob
   refine ⟨_,rfl,x.A.p,e8,_,rfl,b8,acO,x.A,L1R,x.g,9,x.all,rfl,X8.f,by decide,fun q9 ts9 n9 hts9=>?_⟩
   have g9:=Same.new (o:=.lst (ts9.map V.str)) n9
   have ⟨F9,D9⟩:=acc F8 D8 g9 n9 GU (Qg ts9)
   replace er:=g9 _ _ er
   clear g9
   generalize Hq K8 q9 (.lst (ts9.map V.str))=K9 at F9 D9 er ⊢
   obtain rfl:ts9=L1R:=hts9.eq (aDr _) Wd
   have X9:=X.same F9.sm
   obtain⟨e9,b9⟩:=X9.f.ob
   refine ⟨_,rfl,x.A.p,e9,_,rfl,b9,acM,x.A,L1R,x.g,9,x.all,rfl,X9.f,by decide,fun q10 ts10 M10 K10 s10 n10 hts10 hM10 f10=>?_⟩
   have ⟨F10,D10⟩:=acc F9 D9 s10 n10 f10 (Qg _)
   replace er:=s10 _ _ er
   obtain rfl:ts10=L1R:=hts10.eq (aDr _) Wd
   have hsl:(L1R.filter fun n=>decide (LV x.all (x.g n)=M10))=L1R:=by
    unfold L1R at hM10 ⊢
    rcases hM10 with ⟨z,_⟩ | ⟨z,_⟩
    · simp at z
    · have z':M10=LV x.all (x.g "r"):=by simpa using z
      simp[z']
   rw[hsl] at D10
   refine ⟨(show 6≤sizeLine by decide),fun t10 nt10=>?_⟩
   have gt10:=Same.new (o:=.lst [V.ref q5,V.ref q6,V.ref q7,V.ref q8,V.ref q9,V.ref q10]) nt10
   replace F10:=F10.same gt10
   replace D10:=HasL.same gt10 D10
   replace er:=gt10 _ _ er
   have et10:=GU (H:=K10) (a:=t10) (o:=.lst [V.ref q5,V.ref q6,V.ref q7,V.ref q8,V.ref q9,V.ref q10])
   generalize Hq K10 t10 (.lst [V.ref q5,V.ref q6,V.ref q7,V.ref q8,V.ref q9,V.ref q10])=L10 at F10 D10 er et10 ⊢
   refine ⟨r1,t10,_,_,rfl,rfl,er,et10,(show 10≤sizeLine by decide),fun r3 nr3=>?_⟩
   have gr3:=Same.new (o:=.lst ([V.ref q1,V.ref q2,V.ref q3,V.ref q4] ++ [V.ref q5,V.ref q6,V.ref q7,V.ref q8,V.ref q9,V.ref q10])) nr3
   replace F10:=F10.same gr3
   replace D10:=HasL.same gr3 D10
   replace er:=GU (H:=L10) (a:=r3) (o:=.lst ([V.ref q1,V.ref q2,V.ref q3,V.ref q4] ++ [V.ref q5,V.ref q6,V.ref q7,V.ref q8,V.ref q9,V.ref q10]))
   generalize Hq L10 r3 (.lst ([V.ref q1,V.ref q2,V.ref q3,V.ref q4] ++ [V.ref q5,V.ref q6,V.ref q7,V.ref q8,V.ref q9,V.ref q10]))=K10b at F10 D10 er ⊢
   clear gr3 et10
   refine ⟨_,rfl,?_⟩
   have X10:=X.same F10.sm
   obtain⟨e10,b10⟩:=X10.f.ob
   refine ⟨_,rfl,x.A.p,e10,_,rfl,b10,acP,x.A,L1R,x.g,9,x.all,"r",rfl,X10.f,.inl ⟨rL1,fun q11 y11 n11 m11=>?_⟩⟩
   have g11:=Same.new (o:=.lst (y11)) n11
   have ⟨F11,D11⟩:=acc F10 D10 g11 n11 GU m11
   replace er:=g11 _ _ er
   clear g11
   generalize Hq K10b q11 (.lst (y11))=K11 at F11 D11 er ⊢
   have X11:=X.same F11.sm
   obtain⟨e11,b11⟩:=X11.f.ob
   refine ⟨_,rfl,x.A.p,e11,_,rfl,b11,acN,x.A,L1R,x.g,9,x.all,"r",rfl,X11.f,.inl ⟨rL1,fun q12 n12=>?_⟩⟩
   have g12:=Same.new (o:=.lst ((x.g "r").h.lost.map V.int)) n12
   have ⟨F12,D12⟩:=acc F11 D11 g12 n12 GU (Jy _)
   replace er:=g12 _ _ er
   clear g12
   generalize Hq K11 q12 (.lst ((x.g "r").h.lost.map V.int))=K12 at F12 D12 er ⊢
   have X12:=X.same F12.sm
   obtain⟨e12,b12⟩:=X12.f.ob
   refine ⟨_,rfl,x.A.p,e12,_,rfl,b12,acL,x.A,L1R,x.g,9,x.all,"r",rfl,X12.f,.inl ⟨rL1,fun q13 y13 n13 m13=>?_⟩⟩
   have g13:=Same.new (o:=.lst (y13)) n13
   have ⟨F13,D13⟩:=acc F12 D12 g13 n13 GU m13
   replace er:=g13 _ _ er
   clear g13
   generalize Hq K12 q13 (.lst (y13))=K13 at F13 D13 er ⊢
   have X13:=X.same F13.sm
   obtain⟨e13,b13⟩:=X13.s.ob
   refine ⟨_,rfl,x.S.p,e13,_,rfl,b13,P6 (.inr (.inl rfl)),x.S,x.lS,x.fS,x.st,rfl,X13.s,fun q14 y14 n14 m14=>?_⟩
   have g14:=Same.new (o:=.lst (y14)) n14
   have ⟨F14,D14⟩:=acc F13 D13 g14 n14 GU m14
   replace er:=g14 _ _ er
   clear g14
   generalize Hq K13 q14 (.lst (y14))=K14 at F14 D14 er ⊢
   have X14:=X.same F14.sm
   obtain⟨e14,b14⟩:=X14.s.ob
   refine ⟨_,rfl,x.S.p,e14,_,rfl,b14,P6 (.inr (.inr (.inr rfl))),?_⟩
   intro md nmd
   refine ⟨GU,[(Sum.inr "s",.int 9)],rfl,(show 1≤15 by decide),?_⟩
   have emd:N6 [] [(Sum.inr "s",V.int 9)]=Xa [("s",9)]:=rfl
   rw[emd]
   have gmd:Same K14 (Hq (Hq K14 md (.dK [])) md (.dK (Xa [("s",9)]))):=fun a o e=>by
    have z:a≠md:=fun z=>by rw[z,nmd] at e;cases e
    rw[GY z,GY z];exact e
   have emd2:=GU (H:=Hq K14 md (.dK [])) (a:=md) (o:=.dK (Xa [("s",9)]))
   generalize Hq (Hq K14 md (.dK [])) md (.dK (Xa [("s",9)]))=K14a at emd2 gmd ⊢
   replace F14:=F14.same gmd
   replace D14:=HasL.same gmd D14
   replace er:=gmd _ _ er
   refine ⟨x.S,x.lS,x.fS,x.st,md,[("s",9)],rfl,(X.same F14.sm).s,by have:=G.s1;omega,emd2,by simp,by decide,fun q15 y15 rs5 K15 s15 n15 f15 m15 hp5 hs5=>?_⟩
   have ⟨F15,D15⟩:=acc F14 D14 s15 n15 f15 m15
   replace er:=s15 _ _ er
   refine ⟨(show 5≤sizeLine by decide),fun t15 nt15=>?_⟩
   have gt15:=Same.new (o:=.lst [V.ref q11,V.ref q12,V.ref q13,V.ref q14,V.ref q15]) nt15
   replace F15:=F15.same gt15
   replace D15:=HasL.same gt15 D15
   replace er:=gt15 _ _ er
   have et15:=GU (H:=K15) (a:=t15) (o:=.lst [V.ref q11,V.ref q12,V.ref q13,V.ref q14,V.ref q15])
   generalize Hq K15 t15 (.lst [V.ref q11,V.ref q12,V.ref q13,V.ref q14,V.ref q15])=L15 at F15 D15 er et15 ⊢
   refine ⟨r3,t15,_,_,rfl,rfl,er,et15,(show 15≤sizeLine by decide),fun r4 nr4=>?_⟩
   have gr4:=Same.new (o:=.lst (([V.ref q1,V.ref q2,V.ref q3,V.ref q4] ++ [V.ref q5,V.ref q6,V.ref q7,V.ref q8,V.ref q9,V.ref q10]) ++ [V.ref q11,V.ref q12,V.ref q13,V.ref q14,V.ref q15])) nr4
   replace F15:=F15.same gr4
   replace D15:=HasL.same gr4 D15
   replace er:=GU (H:=L15) (a:=r4) (o:=.lst (([V.ref q1,V.ref q2,V.ref q3,V.ref q4] ++ [V.ref q5,V.ref q6,V.ref q7,V.ref q8,V.ref q9,V.ref q10]) ++ [V.ref q11,V.ref q12,V.ref q13,V.ref q14,V.ref q15]))
   generalize Hq L15 r4 (.lst (([V.ref q1,V.ref q2,V.ref q3,V.ref q4] ++ [V.ref q5,V.ref q6,V.ref q7,V.ref q8,V.ref q9,V.ref q10]) ++ [V.ref q11,V.ref q12,V.ref q13,V.ref q14,V.ref q15]))=K15b at F15 D15 er ⊢
   clear gr4 et15
   refine ⟨_,rfl,?_⟩
   have X15:=X.same F15.sm
   obtain⟨e15,b15⟩:=X15.w.ob
   refine ⟨_,rfl,x.wp,e15,_,rfl,b15,TD (.inr (.inr (.inl rfl))),x.wp,x.ws,x.ww,x.wr,rfl,X15.w,fun q16 y16 n16 m16=>?_⟩
   have g16:=Same.new (o:=.lst (y16)) n16
   have ⟨F16,D16⟩:=acc F15 D15 g16 n16 GU m16
   replace er:=g16 _ _ er
   clear g16
   generalize Hq K15b q16 (.lst (y16))=K16 at F16 D16 er ⊢
   have X16:=X.same F16.sm
   obtain⟨e16,b16⟩:=X16.w.ob
   refine ⟨_,rfl,x.wp,e16,_,rfl,b16,TD (.inr (.inr (.inr (.inl rfl)))),x.wp,x.ws,x.ww,x.wr,rfl,X16.w,fun q17 y17 n17 m17=>?_⟩
   have g17:=Same.new (o:=.lst (y17)) n17
   have ⟨F17,D17⟩:=acc F16 D16 g17 n17 GU m17
   replace er:=g17 _ _ er
   clear g17
   generalize Hq K16 q17 (.lst (y17))=K17 at F17 D17 er ⊢
   have X17:=X.same F17.sm
   obtain⟨e17,b17⟩:=X17.r.ob
   refine ⟨_,rfl,x.rp,e17,_,rfl,b17,VR (.inr (.inl rfl)),x.rp,2,"old",x.rs,x.rr,x.rd,rfl,X17.r,fun q18 y18 n18 m18=>?_⟩
   have g18:=Same.new (o:=.lst (y18)) n18
   have ⟨F18,D18⟩:=acc F17 D17 g18 n18 GU m18
   replace er:=g18 _ _ er
   clear g18
   generalize Hq K17 q18 (.lst (y18))=K18 at F18 D18 er ⊢
   have X18:=X.same F18.sm
   obtain⟨e18,b18⟩:=X18.r.ob
   refine ⟨_,rfl,x.rp,e18,_,rfl,b18,VR (.inr (.inr (.inl rfl))),x.rp,2,"old",x.rs,x.rr,x.rd,rfl,X18.r,fun q19 n19=>?_⟩
   have g19:=Same.new (o:=.lst (x.rs.out.map V.int)) n19
   have ⟨F19,D19⟩:=acc F18 D18 g19 n19 GU (Jy _)
   replace er:=g19 _ _ er
   clear g19
   generalize Hq K18 q19 (.lst (x.rs.out.map V.int))=K19 at F19 D19 er ⊢
   refine ⟨(show 4≤sizeLine by decide),fun t19 nt19=>?_⟩
   have gt19:=Same.new (o:=.lst [V.ref q16,V.ref q17,V.ref q18,V.ref q19]) nt19
   replace F19:=F19.same gt19
   replace D19:=HasL.same gt19 D19
   replace er:=gt19 _ _ er
   have et19:=GU (H:=K19) (a:=t19) (o:=.lst [V.ref q16,V.ref q17,V.ref q18,V.ref q19])
   generalize Hq K19 t19 (.lst [V.ref q16,V.ref q17,V.ref q18,V.ref q19])=L19 at F19 D19 er et19 ⊢
   refine ⟨r4,t19,_,_,rfl,rfl,er,et19,(show 19≤sizeLine by decide),fun p np=>?_⟩
   have gp:=Same.new (o:=.lst ((([V.ref q1,V.ref q2,V.ref q3,V.ref q4] ++ [V.ref q5,V.ref q6,V.ref q7,V.ref q8,V.ref q9,V.ref q10]) ++ [V.ref q11,V.ref q12,V.ref q13,V.ref q14,V.ref q15]) ++ [V.ref q16,V.ref q17,V.ref q18,V.ref q19])) np
   have Fp:=F19.snoc gp np GU
   exact q p [q1,q2,q3,q4,q5,q6,q7,q8,q9,q10,q11,q12,q13,q14,q15,q16,q17,q18,q19] _ _ Fp.sm GU (HasL.same gp D19) ⟨ls,w4,ls4,ms4,M,rs5,hls,hls4,hsF,hM,hp5,hs5,by simp only[List.nil_append,List.cons_append,mL,iL,L1R,aAr,aBV]⟩ Fp
theorem IsM.uniq{s:HS}{M N:Int}(h:IsM s M)(h':IsM s N):M=N:=by
 rcases h with ⟨e,rfl⟩ | ⟨⟨m,hm,rfl⟩,hx⟩ <;> rcases h' with ⟨e',rfl⟩ | ⟨⟨n,hn,rfl⟩,hy⟩
 · rfl
 · rw[e] at hn;exact absurd hn aAa
 · rw[e'] at hm;exact absurd hm aAa
 · have:=hx n hn;have:=hy m hm;omega
theorem Sn:∀{a b:List Msg},a.map mD=b.map mD→a=b
 | [],[],_=>rfl
 | [],_ :: _,h=>by cases h
 | _ :: _,[],h=>by cases h
 | ⟨n,t,u⟩ :: a,⟨n',t',u'⟩ :: b,h=>by
   simp only[aAr,List.cons.injEq,mD] at h
   obtain⟨h1,h2⟩:=h
   injection h1 with h1
   injection h1 with h3 h1
   injection h1 with h4 h1
   injection h1 with h5 h1
   injection h3 with h3
   injection h4 with h4
   injection h5 with h5
   rw[h3,h4,h5,Sn h2]
theorem MM{f:Str→HS}{l:HL}{v:Int}{rs:List (Str×Int)}(h:rs.Perm (JD f l [("s",v)])):rs=JD f l [("s",v)]:=by
 have:JD f l [("s",v)]=[]∨∃r,JD f l [("s",v)]=[r]:=by
  unfold JD
  by_cases z:Ma f l "s" < v
  · exact .inr ⟨("s",Ma f l "s"),by simp[z]⟩
  · exact .inl (by simp[z])
 rcases this with e | ⟨r,e⟩
 · rw[e] at h ⊢;exact h.eq_nil
 · rw[e] at h ⊢;exact List.perm_singleton.mp h
theorem L7.uniq{x:PT}{ds ds':List PyData}(h:L7 x ds)(h':L7 x ds'):ds=ds':=by
 obtain⟨ls,w4,ls4,ms4,M,rs5,h1,h2,h3,h4,h5,h6,rfl⟩:=h
 obtain⟨ls',w4',ls4',ms4',M',rs5',h1',h2',h3',h4',h5',h6',rfl⟩:=h'
 obtain rfl:=h1.uniq h1'
 obtain rfl:=h2.uniq h2'
 obtain rfl:=h4.uniq h4'
 rw[h3] at h3'
 unfold sD at h3'
 injection h3' with h3'
 injection h3' with _ h3'
 injection h3' with h3' _
 injection h3' with h3'
 rw[Sn h3',MM h5,MM h5']
theorem L7.len{x:PT}{ds:List PyData}(h:L7 x ds):ds.length=19:=by
 obtain⟨ls,w4,ls4,ms4,M,rs5,h1,h2,h3,h4,h5,h6,rfl⟩:=h
 rfl
theorem WI(ns:List Int):PyData.canLay0 (iL ns)=true∧PyData.depth (iL ns)≤20:=by
 have:∀ns:List Int,PyData.canLayAll0 (ns.map PyData.int)=true∧PyData.depthAll (ns.map PyData.int)≤5:=fun ns=>by
  induction ns with
  | nil=>simp[PyData.canLayAll0,PyData.depthAll]
  | cons n ns ih=>
    obtain⟨h1,h2⟩:=ih
    refine ⟨by simp[PyData.canLayAll0,PyData.canLay0,h1],?_⟩
    simp only[aAr,PyData.depthAll,PyData.depth]
    omega
 obtain⟨h1,h2⟩:=this ns
 exact ⟨by simp only[iL,PyData.canLay0];exact h1,by simp only[iL,PyData.depth];omega⟩
theorem Om:∀ns:List Int,Ib (ns.map PyData.int)=true
 | []=>rfl
 | n :: ns=>by simp[Ib,JP,Om ns]
theorem rw_dep9{rs:List (Str×Msg)}(h:∀e∈rs,PyData.strOk e.1=true∧LE e.2):PyData.canLay0 (.list (rs.map VJ))=true∧PyData.depth (.list (rs.map VJ))≤20:=by
 have:PyData.canLayAll0 (rs.map VJ)=true∧PyData.depthAll (rs.map VJ)≤9:=by
  induction rs with
  | nil=>simp[PyData.canLayAll0,PyData.depthAll]
  | cons n ns ih=>
    obtain⟨h1,h2⟩:=ih fun e he=>h e (aAq _ he)
    obtain⟨g1,g2,g3⟩:=h n aAp
    refine ⟨by simp[PyData.canLayAll0,PyData.canLay0,h1,VJ,g1,g2,g3],?_⟩
    simp only[aAr,PyData.depthAll,PyData.depth,VJ]
    omega
 obtain⟨h1,h2⟩:=this
 exact ⟨by simp only[PyData.canLay0];exact h1,by simp only[PyData.depth];omega⟩
def Pl9(d:PyData):Prop:=(∃dd,d=.list dd∧dd.length≤50∧Ib dd=true)∧PyData.canLay0 d=true∧PyData.depth d≤20
theorem Mv{ms:List Msg}(h:ms.length≤50)(ok:∀m∈ms,LE m):Pl9 (mL ms):=⟨⟨_,rfl,by rw[aAf];exact h,KS _⟩,N5 ok⟩
theorem To{ns:List Int}(h:ns.length≤50):Pl9 (iL ns):=⟨⟨_,rfl,by rw[aAf];exact h,Om _⟩,WI ns⟩
theorem L7.all{x:PT}(G:G7 x){ds:List PyData}(h:L7 x ds):∀d∈ds,Pl9 d:=by
 obtain⟨ls,w4,ls4,ms4,M,rs5,h1,h2,h3,h4,h5,h6,rfl⟩:=h
 have hll:∀{ls},Lasts x.all ls→ls.length≤x.all.length:=fun {ls} h1=>aB7 (h1.1.imp fun h e=>by rw[e] at h;omega) fun m hm=>((h1.2 m).mp hm).1
 have hk:=Ly x.kT x.all
 have hln:=G.ln
 have g4:ms4.length≤50∧∀m∈ms4,LE m:=by
  unfold sF at h3
  have nb:¬NK 0 x.all 0 0:=by unfold NK;omega
  rw[aAz nb,aAz (by omega:¬(0:Int) < 0)] at h3
  have key:∀{w w':Str} {a b:List Msg},sD w a=sD w' b→a=b:=fun {w w' a b} h=>by
   unfold sD at h
   injection h with h
   injection h with _ h
   injection h with h _
   injection h with h
   exact Sn h
  split at h3
  · rw[←key h3]
    have:=aAX (fun m:Msg=>decide (m.n > 0)) (Im x.kT x.all)
    exact ⟨by show (List.filter _ _).length≤_;omega,fun m hm=>G.ok m (Lx m (aBp.mp hm).1)⟩
  · rw[←key h3]
    have:=aAX (fun m:Msg=>decide (m.n > 0)) ls4
    have:=hll h2
    exact ⟨by show (List.filter _ _).length≤_;omega,fun m hm=>G.ok m ((h2.2 m).mp (aBp.mp hm).1).1⟩
 have gM:(VZ x.hB M).length≤50:=by
  unfold VZ
  have hf:=aAX (fun n=>!Qf x.hB.held n) (rgs x.hB.next (M - x.hB.next).toNat)
  rw[Zm] at hf
  have:=G.b5
  rcases h4 with ⟨_,rfl⟩ | ⟨⟨m,hm,rfl⟩,_⟩
  · omega
  · have:=G.b2 m hm;omega
 have gs:(W.sortI (x.hB.held.map (·.n))).length≤50:=by
  have:=(W.sortI_perm (x.hB.held.map (·.n))).length_eq
  rw[aAf] at this
  have:=G.b1;omega
 have gL:Pl9 (.list [.str "r"]):=⟨⟨_,rfl,by decide,by decide +kernel⟩,by decide +kernel,by decide +kernel⟩
 have gF:((Im x.kT x.all).filter fun m=>decide (m.n > 0)).length≤50:=by
  have:=aAX (fun m:Msg=>decide (m.n > 0)) (Im x.kT x.all)
  omega
 have g5:Pl9 (.list (rs5.map prD)):=by
  rw[MM h5]
  have:JD x.fS x.lS [("s",9)]=[]∨∃n,JD x.fS x.lS [("s",9)]=[(("s" : Str),n)]:=by
   unfold JD
   by_cases z:Ma x.fS x.lS "s" < 9
   · exact .inr ⟨Ma x.fS x.lS "s",by simp[z]⟩
   · exact .inl (by simp[z])
  rcases this with e | ⟨n,e⟩
  · rw[e];exact ⟨⟨_,rfl,by decide,by decide +kernel⟩,by decide +kernel,by decide +kernel⟩
  · rw[e];exact ⟨⟨_,rfl,by simp,rfl⟩,by simp[PyData.canLay0,PyData.canLayAll0,prD];decide +kernel,by simp[PyData.depth,PyData.depthAll,prD]⟩
 have hb1:=G.b1
 obtain⟨f3,f4,f5⟩:=G.f3
 obtain⟨w3,w4⟩:=G.w3
 obtain⟨r2,r3⟩:=G.r2
 have s3:=G.s3
 intro d hd
 simp only[aAg,aAa,aBa] at hd
 rcases hd with rfl | rfl | rfl | rfl | rfl | rfl | rfl | rfl | rfl | rfl | rfl | rfl | rfl | rfl | rfl | rfl | rfl | rfl | rfl
 · exact Mv (by omega) fun m hm=>G.ok m (Lx m hm)
 · exact Mv (by have:=hll h1;omega) fun m hm=>G.ok m ((h1.2 m).mp hm).1
 · exact Mv gF fun m hm=>G.ok m (Lx m (aBp.mp hm).1)
 · exact Mv g4.1 g4.2
 · exact Mv (by omega) G.b4
 · exact To gs
 · exact To gM
 · exact To (by omega)
 · exact gL
 · exact gL
 · exact Mv (by omega) G.f1
 · exact To (by omega)
 · exact Mv (by omega) G.f2
 · exact ⟨⟨_,rfl,by rw[aAf];omega,Lv _⟩,rw_dep9 G.s2⟩
 · exact g5
 · exact Mv (by omega) G.w1
 · exact Mv (by omega) G.w2
 · exact Mv (by omega) G.r1
 · exact To (by omega)
theorem L7.lists{x:PT}(G:G7 x){ds:List PyData}(h:L7 x ds):∀d∈ds,∃dd,d=.list dd∧dd.length≤50∧Ib dd=true:=fun d hd=>(h.all G d hd).1
theorem L7.shaped{x:PT}(G:G7 x){ds:List PyData}(h:L7 x ds):SeqAt.shaped (.list ds)=true:=O2 fun d hd=>(h.all G d hd).2
def ZK(x:PT):List PyData:=[.int (x.all.length:Int),.int ((x.all.length:Int) - ((Im x.kT x.all).length:Int) + 1),.tuple [.int 0,.int (x.all.length:Int)],.int x.hB.next,.int (LV x.all (x.g "r")),.int x.ws.arr]
def Y8(x:PT):List PyData:=[mL (Im 3 x.hD.heard),.tuple [mL (Y3 3 0 x.hD),.int (x.hD.next - 1 - 0 - ((Y3 3 0 x.hD).length:Int))]]
def S7(x:PT)(H:Hp)(p:Addr):Prop:=∃(l1 l2 d3 d4:Addr) (ds:List PyData) (ls:List Msg),H p=some (.tup [.ref l1,.ref l2,.ref d3,.ref d4,.int x.hD.next,.bl x.rs.cut])∧L7 x ds∧Has H (.ref l1) (.list (ds ++ Y8 x))∧Has H (.ref l2) (.list (ZK x))∧Lasts x.hB.heard ls∧H d3=some (.dK (dS (Ku ls)))∧H d4=some (.dK (VX x.lS x.fS))
theorem S7.same{x:PT}{H H':Hp}{p:Addr}(h:S7 x H p)(s:Same H H'):S7 x H' p:=by
 obtain⟨l1,l2,d3,d4,ds,ls,h1,h2,h3,h4,h5,h6,h7⟩:=h
 exact ⟨l1,l2,d3,d4,ds,ls,s _ _ h1,h2,Has.same s h3,Has.same s h4,h5,s _ _ h6,s _ _ h7⟩
def vs7(x:PT):List V:=[.ref x.tp,.ref x.B.p,.ref x.A.p,.ref x.S.p,.ref x.wp,.ref x.rp,.ref x.D.p]
def Pd(c:C7):Sp:=fun vs H Q _=>∃x pt,vs=[.ref pt]∧H pt=some (.tup (vs7 x))∧P7 c H x∧G7 x∧∀p H',Same H H'→H p=none→S7 x H' p→Q (.ref p) H'
abbrev KE:Stmt:=IF 42
abbrev W2:List Str:=["_law_parts","_law_teller","_law_hearer","_law_fan","_law_sources","_law_window","_law_road","_law_relay","_law_found","_law_numbers"]
theorem sc_l_state:FnScope W2 ["_law_parts"] (GV KE):=⟨rfl,rfl,rfl,by decide +kernel,rfl,by decide +kernel,by decide +kernel⟩
theorem UU{f XN XR:Addr}{fd:FuncData}{c:C7}(F:Fun K "_law_state" "_law_state" KE f fd)(TC:TxtA K mg c)(c_l_lists:Callee P w K mg base 7 "_law_lists" ["_law_teller","_law_hearer","_law_fan","_law_sources","_law_window","_law_road"] (Ph c))(m_told:CalleeM P w K mg base 1 c.CT "told" ["self"] (UA c.CT))(m_oldest:CalleeM P w K mg base 1 c.CT "oldest" ["self"] (Pg c.CT))(m_mark:CalleeM P w K mg base 1 c.CT "mark" ["self"] (Xj c.CT))
 (m_Hearer_expects:CalleeM P w K mg base 1 c.CH "expects" ["self"] (Ky c.CH))(mx_lag:CalleeMX P w K mg base 3 c.CF "lag" ["self","name"] (O1 c.CF c.CT c.CR c.CH XR))(m_came:CalleeM P w K mg base 1 c.CW "came" ["self"] (Xq c.CW))(m_state:CalleeM P w K mg base 6 c.CH "state" ["self"] (S0 c.CH))(m_marks:CalleeM P w K mg base 2 c.CS "marks" ["self"] (MY c.CS c.CH))(m_Relay_expects:CalleeM P w K mg base 1 c.CL "expects" ["self"] (Ky c.CL))(m_is_cut:CalleeM P w K mg base 1 c.CR "is_cut" ["self"] (VE c.CR))(m_Relay_kept:CalleeM P w K mg base 2 c.CL "kept" ["self"] (Pi c.CL))(mx_Relay_behind:CalleeMX P w K mg base 3 c.CL "behind" ["self","number","topics"] (L3 K c.CL XN)) :
 FnOk P w K mg base Jg 8 f fd ["_law_parts"] (Pd c):=by
 refine F.ok sc_l_state (fun vs H Q E h=>?_) (fun cdv A0 outer s0 H vs Q E hr h=>?_)
 · obtain⟨x,pt,rfl,_⟩:=h;rfl
 · obtain⟨x,pt,rfl,ept,X,G,q⟩:=h
   refine ⟨_,(GX (UO (pv 0) (V0 K rfl (HG (Hn (i:=1) sc_l_state.nd rfl (Or.inl rfl)) (HG (Hn (i:=2) sc_l_state.nd rfl (Or.inl rfl)) (HG (Hn (i:=3) sc_l_state.nd rfl (Or.inl rfl)) (HG (Hn (i:=4) sc_l_state.nd rfl (Or.inl rfl)) (HG (Hn (i:=5) sc_l_state.nd rfl (Or.inl rfl)) (HG (Hn (i:=6) sc_l_state.nd rfl (Or.inl rfl)) (HG (Hn (i:=7) sc_l_state.nd rfl (Or.inl rfl)) O3)))))))))
    (GX (Hs (i:=8) sc_l_state.nd rfl (Or.inl rfl) (HE c_l_lists (hr.mono (by decide)) (G0 (pv 1) (GW (pv 2) (GW (pv 3) (GW (pv 4) (GW (pv 5) (GW (pv 6) GZ))))))))
    (GX (Hs (i:=8) sc_l_state.nd rfl (Or.inl rfl) (Hx MK (pv 8) (HJ (GW (Hl m_Relay_kept TC.cl_Relay (hr.mono (by decide)) (pv 7)) (GW (Hz mx_Relay_behind TC.cl_Relay (hr.mono (by decide)) Ia (pv 7) (G0 G9 (GW NP GZ))) GZ)))))
    (GX (Hs (i:=9) sc_l_state.nd rfl (Or.inl rfl) (HJ (GW (Hl m_told TC.cl_Teller (hr.mono (by decide)) (pv 1)) (GW (Hl m_oldest TC.cl_Teller (hr.mono (by decide)) (pv 1)) (GW (Hl m_mark TC.cl_Teller (hr.mono (by decide)) (pv 1)) (GW (Hl m_Hearer_expects TC.cl_Hearer (hr.mono (by decide)) (pv 2)) (GW (Hz mx_lag TC.cl_Fan (hr.mono (by decide)) Ia (pv 3) (G0 Hw GZ)) (GW (Hl m_came TC.cl_Window (hr.mono (by decide)) (pv 5)) GZ))))))))
    (G4 (Hh (Iw (GW (pv 8) (GW (pv 9) (GW (Hl m_state TC.cl_Hearer (hr.mono (by decide)) (pv 2)) (GW (Hl m_marks TC.cl_Sources (hr.mono (by decide)) (pv 4)) (GW (Hl m_Relay_expects TC.cl_Relay (hr.mono (by decide)) (pv 7)) (GW (Hl m_is_cut TC.cl_Road (hr.mono (by decide)) (pv 6)) GZ))))))))))))),?_⟩
   refine ⟨_,rfl,pt,vs7 x,rfl,SqT.ofT ept,rfl,_,_,rfl,_,_,rfl,_,_,rfl,_,_,rfl,_,_,rfl,_,_,rfl,_,_,rfl,rfl,?_⟩
   refine ⟨_,rfl,_,rfl,_,rfl,_,rfl,_,rfl,_,rfl,x,rfl,X,G,fun p1 cs ds H1 s1 ep hds hL F1=>?_⟩
   have X1:=X.same s1
   obtain⟨e1,b1⟩:=X1.l.ob
   refine ⟨_,rfl,_,rfl,x.D.p,e1,_,rfl,b1,Ni X1.l (.inl rfl),x.D,x.hD,3,rfl,X1.l,by decide,fun q1 y1 H2 s2 n2 f2 m2=>?_⟩
   have X2:=X1.same s2
   obtain⟨e2,b2⟩:=X2.l.ob
   refine ⟨_,rfl,x.D.p,e2,_,rfl,b2,Ni X2.l (.inr (.inl rfl)),x.D,x.hD,3,0,.non,none,rfl,X2.l,by decide,by have:=G.l1;omega,.inl ⟨rfl,rfl⟩,.inl ⟨by decide,G.l3,fun q2 l2 y2 H3 s3 n3 n3' f3 f3' m3=>?_⟩⟩
   have s23:=s2.trans s3
   have lcs:cs.length=19:=by
    have:=KW hds
    rw[aAf,hL.len] at this;exact this
   refine ⟨(show 2≤sizeLine by decide),fun t1 nt1=>?_⟩
   have g4:=Same.new (o:=.lst [V.ref q1,V.ref q2]) nt1
   have et:=GU (H:=H3) (a:=t1) (o:=.lst [V.ref q1,V.ref q2])
   generalize Hq H3 t1 (.lst [V.ref q1,V.ref q2])=H4 at g4 et ⊢
   refine ⟨p1,t1,_,_,rfl,rfl,(s23.trans g4) _ _ ep,et,by rw[aAs];simp[lcs],fun l1 nl1=>?_⟩
   have g5:=Same.new (o:=.lst (cs.map V.ref ++ [V.ref q1,V.ref q2])) nl1
   have el1:=GU (H:=H4) (a:=l1) (o:=.lst (cs.map V.ref ++ [V.ref q1,V.ref q2]))
   generalize Hq H4 l1 (.lst (cs.map V.ref ++ [V.ref q1,V.ref q2]))=H5 at g5 el1 ⊢
   have s45:=g4.trans g5
   have s35:=s3.trans s45
   have hl1:Has H5 (.ref l1) (.list (ds ++ Y8 x)):=Ic el1 (HasL.append (HasL.same (s2.trans s35) hds) (Hi (Ic (s35 _ _ f2) (m2.same s35)) (Hi (Mn (s45 _ _ f3) (Hi (Ic (s45 _ _ f3') (m3.same s45)) (Hi (IS _) HH))) HH)))
   have v5:=(s1.trans s2).trans s35
   clear et el1 g4 g5 s23 s45 s35 m2 m3 f3 f3' f2 hds ep
   have X5:=X.same v5
   obtain⟨e5,b5⟩:=X5.t.ob
   refine ⟨_,rfl,x.tp,e5,_,rfl,b5,OM (.inr (.inl rfl)),x.tp,x.kT,0,x.all,x.ts,x.td,rfl,X5.t,?_⟩
   refine ⟨_,rfl,x.tp,e5,_,rfl,b5,OM (.inr (.inr (.inr (.inl rfl)))),x.tp,x.kT,0,x.all,x.ts,x.td,rfl,X5.t,?_⟩
   refine ⟨_,rfl,x.tp,e5,_,rfl,b5,OM (.inr (.inr (.inr (.inr (.inr (.inl rfl)))))),x.tp,x.kT,0,x.all,x.ts,x.td,rfl,X5.t,fun mk nmk=>?_⟩
   have g6:=Same.new (o:=.tup [V.int 0,V.int (x.all.length:Int)]) nmk
   have emk:=GU (H:=H5) (a:=mk) (o:=.tup [V.int 0,V.int (x.all.length:Int)])
   generalize Hq H5 mk (.tup [V.int 0,V.int (x.all.length:Int)])=H6 at g6 emk ⊢
   have X6:=X5.same g6
   obtain⟨e6,b6⟩:=X6.h.ob
   refine ⟨_,rfl,x.B.p,e6,_,rfl,b6,Lh X6.h (.inl rfl),x.B,x.hB,[],rfl,X6.h,?_⟩
   obtain⟨e7,b7⟩:=X6.f.ob
   refine ⟨_,rfl,x.A.p,e7,_,rfl,b7,Kb (.inr (.inr (.inr (.inr (.inr (.inr (.inr (.inr (.inr (.inr (.inl rfl))))))))))),x.A,L1R,x.g,9,x.all,"r",rfl,X6.f,.inl ⟨rL1,?_⟩⟩
   obtain⟨e8,b8⟩:=X6.w.ob
   refine ⟨_,rfl,x.wp,e8,_,rfl,b8,TD (.inr (.inr (.inr (.inr rfl)))),x.wp,x.ws,x.ww,x.wr,rfl,X6.w,?_⟩
   refine ⟨(show 6≤sizeLine by decide),fun l2 nl2=>?_⟩
   have g7:=Same.new (o:=.lst [V.int (x.all.length:Int),V.int ((x.all.length:Int) - ((Im x.kT x.all).length:Int) + 1),V.ref mk,V.int x.hB.next,V.int (LV x.all (x.g "r")),V.int x.ws.arr]) nl2
   have el2:=GU (H:=H6) (a:=l2) (o:=.lst [V.int (x.all.length:Int),V.int ((x.all.length:Int) - ((Im x.kT x.all).length:Int) + 1),V.ref mk,V.int x.hB.next,V.int (LV x.all (x.g "r")),V.int x.ws.arr])
   generalize Hq H6 l2 (.lst [V.int (x.all.length:Int),V.int ((x.all.length:Int) - ((Im x.kT x.all).length:Int) + 1),V.ref mk,V.int x.hB.next,V.int (LV x.all (x.g "r")),V.int x.ws.arr])=H7 at g7 el2 ⊢
   have hl2:Has H7 (.ref l2) (.list (ZK x)):=Ic el2 (Hi (IS _) (Hi (IS _) (Hi (Mn (g7 _ _ emk) (Hi (IS _) (Hi (IS _) HH))) (Hi (IS _) (Hi (IS _) (Hi (IS _) HH))))))
   replace hl1:=Has.same (g6.trans g7) hl1
   have X7:=X6.same g7
   obtain⟨e9,b9⟩:=X7.h.ob
   refine ⟨_,rfl,_,rfl,_,rfl,x.B.p,e9,_,rfl,b9,Lh X7.h (.inr (.inr (.inr (.inr (.inr (.inr (.inr (.inr (.inr (.inr rfl)))))))))),x.B,x.hB,[],rfl,X7.h,by have:=G.b1;omega,G.b3.diff,fun d3 ls H8 s8 n8 e8 hls=>?_⟩
   have X8:=X7.same s8
   obtain⟨e10,b10⟩:=X8.s.ob
   refine ⟨_,rfl,x.S.p,e10,_,rfl,b10,P6 (.inr (.inr (.inl rfl))),x.S,x.lS,x.fS,x.st,rfl,X8.s,by have:=G.s1;omega,fun d4 H9 s9 n9 e9=>?_⟩
   have X9:=X8.same s9
   obtain⟨e11,b11⟩:=X9.l.ob
   refine ⟨_,rfl,x.D.p,e11,_,rfl,b11,Ni X9.l (.inr (.inr (.inr (.inl rfl)))),x.D,x.hD,_,rfl,X9.l,?_⟩
   obtain⟨e12,b12⟩:=X9.r.ob
   refine ⟨_,rfl,x.rp,e12,_,rfl,b12,VR (.inr (.inr (.inr rfl))),x.rp,2,"old",x.rs,x.rr,x.rd,rfl,X9.r,?_⟩
   refine ⟨(show 6≤sizeLine by decide),fun p np=>?_⟩
   have g10:=Same.new (o:=.tup [V.ref l1,V.ref l2,V.ref d3,V.ref d4,V.int x.hD.next,V.bl x.rs.cut]) np
   have s79:=s8.trans s9
   have s7p:=s79.trans g10
   have v9:=(v5.trans (g6.trans g7)).trans s79
   exact q p _ (v9.trans g10) ((v9.step []).free np aAa) ⟨l1,l2,d3,d4,ds,ls,GU,hL,Has.same s7p hl1,Has.same s7p hl2,hls,(s9.trans g10) _ _ e8,g10 _ _ e9⟩
structure TxtX(K:W.Frag)(mg:Str→Option Value)(XT XN XR XA XO:Addr):Prop where
 a_TellError:mg "TellError" = some (.ref XT)
 a_NoNumber:mg "NoNumber" = some (.ref XN)
 a_NoRoad:mg "NoRoad" = some (.ref XR)
 a_Taken:mg "Taken" = some (.ref XA)
 a_Other:mg "Other" = some (.ref XO)
 eN:W.exmOne K (.ref XN) (.ref XT)=some true
 eR:W.exmOne K (.ref XR) (.ref XT)=some true
 eK:W.exmOne K (.ref XA) (.ref XT)=some true
 eO:W.exmOne K (.ref XO) (.ref XT)=some true
def Y4:Msg:=⟨9,"a","other"⟩
theorem Yn:LE Y4:=⟨by decide +kernel,by decide +kernel⟩
structure R7(x:PT):Prop where
 ch:Ox x.hB Y4
 cs:Ox (x.fS "s") Y4
 sl:("s" : Str)∈x.lS.map (·.1)
 s4:∀m,m∈(x.fS "s").heard∨m∈(x.fS "s").held→LE m
 s5:Diff (x.fS "s").held∧(x.fS "s").heard.length + (x.fS "s").held.length + (x.fS "s").lost.length < 1000
 wn:(99:Int)∉x.ws.way.map (·.n)
theorem S7.eq{x:PT}{H:Hp}{p q:Addr}(G:G7 x)(nd:(x.lS.map (·.1)).Nodup)(h:S7 x H p)(h':S7 x H q):∃xs ys,H p=some (.tup xs)∧H q=some (.tup ys)∧xs.length=ys.length∧∀(i:Nat) u v,xs[i]?=some u→ys[i]?=some v→EqW H u v:=by
 obtain⟨l1,l2,d3,d4,ds,ls,h1,h2,h3,h4,h5,h6,h7⟩:=h
 obtain⟨l1',l2',d3',d4',ds',ls',h1',h2',h3',h4',h5',h6',h7'⟩:=h'
 obtain rfl:=h2.uniq h2'
 obtain rfl:=h5.uniq h5'
 refine ⟨_,_,h1,h1',rfl,fun i u v hu hv=>?_⟩
 have sh1:SeqAt.shaped (.list (ds ++ Y8 x))=true:=by
  refine O2 fun d hd=>?_
  rcases aAx.mp hd with z | z
  · exact (h2.all G d z).2
  · unfold Y8 at z
    simp only[aAg,aAa,aBa] at z
    rcases z with rfl | rfl
    · exact N5 fun m hm=>G.l2 m (Lx m hm)
    · obtain⟨g1,g2⟩:=N5 (ms:=Y3 3 0 x.hD) fun m hm=>G.l2 m (Lx m (aBp.mp hm).1)
      have hd:PyData.depth (mL (Y3 3 0 x.hD))≤10:=by
       have:=Np (Y3 3 0 x.hD)
       unfold mL;simp only[PyData.depth];omega
      exact ⟨by simp only[PyData.canLay0,PyData.canLayAll0,Bool.and_true];exact g1,by simp only[PyData.depth,PyData.depthAll];omega⟩
 have sh2:SeqAt.shaped (.list (ZK x))=true:=by
  refine O2 fun d hd=>?_
  unfold ZK at hd
  simp only[aAg,aAa,aBa] at hd
  rcases hd with rfl | rfl | rfl | rfl | rfl | rfl <;> exact ⟨by simp[PyData.canLay0,PyData.canLayAll0],by simp[PyData.depth,PyData.depthAll]⟩
 rcases i with _ | _ | _ | _ | _ | _ | i
 · cases aAi hu;cases aAi hv;exact .data h3 h3' sh1
 · cases aAi hu;cases aAi hv;exact .data h4 h4' sh2
 · cases aAi hu;cases aAi hv;exact .tab h6 h6' (T5 G.b3.diff h5)
 · cases aAi hu;cases aAi hv
   have e:VX x.lS x.fS=Rv (x.lS.map fun e=>(e.1,(x.fS e.1).next - 1)):=by unfold VX Rv;rw[aA3];rfl
   rw[e] at h7 h7'
   exact .num h7 h7' (by rw[aA3];exact nd)
 · cases aAi hu;cases aAi hv;exact .data (IS _) (IS _) (by rfl)
 · cases aAi hu;cases aAi hv;exact .data (T2 _) (T2 _) (by rfl)
 · cases hu
def Xf(c:C7):Sp:=fun vs H Q _=>∃(x:PT) (pt:Addr) (i:Int),vs=[.int i,.ref pt]∧0≤i∧i < 7∧H pt=some (.tup (vs7 x))∧P7 c H x∧G7 x∧R7 x∧∀H',Same H H'→Q (.bl true) H'
abbrev JW:Stmt:=IF 43
abbrev Uj:List Str:=["_law_which","_law_parts","_law_teller","_law_hearer","_law_fan","_law_sources","_law_window","_law_road","_law_relay","_law_before"]
theorem sc_l_refuses:FnScope Uj ["_law_which","_law_parts"] (GV JW):=⟨rfl,rfl,rfl,by decide +kernel,rfl,by decide +kernel,by decide +kernel⟩
theorem Sg{f XT XN XR XA XO:Addr}{fd:FuncData}{c:C7}(F:Fun K "_law_refuses" "_law_refuses" JW f fd)(TC:TxtA K mg c)(TX:TxtX K mg XT XN XR XA XO)(c_l_state:Callee P w K mg base 8 "_law_state" ["_law_parts"] (Pd c))(mx_Teller_behind:CalleeMX P w K mg base 3 c.CT "behind" ["self","number","topics"] (Mg K c.CT XN))(mx_Hearer_take:CalleeMX P w K mg base 4 c.CH "take" ["self","message"] (Md c.CH XO))(mx_lay:CalleeMX P w K mg base 3 c.CF "lay" ["self","name","size","way"] (O0 c.CF c.CT c.CR c.CH XA))(mx_close:CalleeMX P w K mg base 2 c.CF "close" ["self","name"] (NE c.CF c.CT c.CR c.CH XR))(mx_Relay_behind:CalleeMX P w K mg base 3 c.CL "behind" ["self","number","topics"] (L3 K c.CL XN))(mx_done:CalleeMX P w K mg base 3 c.CW "done" ["self","number"] (VG c.CW XN))(mx_Sources_take:CalleeMX P w K mg base 5 c.CS "take" ["self","source","message"] (MX c.CS c.CH XO)) :
 FnOkS P w K mg base Jg 9 f fd ["_law_which","_law_parts"] (Xf c):=by
 refine F.okS sc_l_refuses (fun vs H Q E h=>?_) (fun cdv A0 outer s0 H vs Q E hr h=>?_)
 · obtain⟨x,pt,i,rfl,_⟩:=h;rfl
 · obtain⟨x,pt,i,rfl,i0,i7,ept,X,G,R,q⟩:=h
   refine ⟨_,(GX (UO (pv 1) (V0 K rfl (HG (Hn (i:=2) sc_l_refuses.nd rfl (Or.inl rfl)) (HG (Hn (i:=3) sc_l_refuses.nd rfl (Or.inl rfl)) (HG (Hn (i:=4) sc_l_refuses.nd rfl (Or.inl rfl)) (HG (Hn (i:=5) sc_l_refuses.nd rfl (Or.inl rfl)) (HG (Hn (i:=6) sc_l_refuses.nd rfl (Or.inl rfl)) (HG (Hn (i:=7) sc_l_refuses.nd rfl (Or.inl rfl)) (HG (Hn (i:=8) sc_l_refuses.nd rfl (Or.inl rfl)) O3)))))))))
    (GX (Hs (i:=9) sc_l_refuses.nd rfl (Or.inl rfl) (HE c_l_state (hr.mono (by decide)) (G0 (pv 1) GZ)))
    (GX (Zv K (fun E σ0 _ _ hp=>(G4 (IA (Hu L6 (pv 0) G9 (Hy _)) (G4 (Hr (KY mx_Teller_behind TC.cl_Teller (hr.mono (by decide)) hp (pv 2) (G0 G9 (GW NP GZ))))) (G4 (IA (Hu L6 (pv 0) G9 (Hy _)) (G4 (Hr (KY mx_Hearer_take TC.cl_Hearer (hr.mono (by decide)) hp (pv 3) (G0 (Iw (GW G9 (GW Hw (GW Hw GZ)))) GZ)))) (G4 (IA (Hu L6 (pv 0) G9 (Hy _)) (G4 (Hr (KY mx_lay TC.cl_Fan (hr.mono (by decide)) hp (pv 4) (G0 Hw (GW G9 (GW Hw GZ)))))) (G4 (IA (Hu L6 (pv 0) G9 (Hy _)) (G4 (Hr (KY mx_close TC.cl_Fan (hr.mono (by decide)) hp (pv 4) (G0 Hw GZ)))) (G4 (IA (Hu L6 (pv 0) G9 (Hy _)) (G4 (Hr (KY mx_Relay_behind TC.cl_Relay (hr.mono (by decide)) hp (pv 8) (G0 (aaq Xb G9) (GW NP GZ))))) (G4 (IA (Hu L6 (pv 0) G9 (Hy _)) (G4 (Hr (KY mx_done TC.cl_Window (hr.mono (by decide)) hp (pv 6) (G0 G9 GZ)))) (G4 (Hr (KY mx_Sources_take TC.cl_Sources (hr.mono (by decide)) hp (pv 5) (G0 Hw (GW (Iw (GW G9 (GW Hw (GW Hw GZ)))) GZ)))))))))))))))))) TX.a_TellError (fun _=>(G4 (Hh (Nb (ZG (hr.h _)) (HE c_l_state ((hr.h _).mono (by decide)) (G0 (pv 1) GZ)) (pv 9) (Hy _))))) rfl rfl)
    (G4 (Hh Lr))))),?_⟩
   refine ⟨_,rfl,pt,vs7 x,rfl,SqT.ofT ept,rfl,_,_,rfl,_,_,rfl,_,_,rfl,_,_,rfl,_,_,rfl,_,_,rfl,_,_,rfl,rfl,?_⟩
   refine ⟨_,rfl,x,pt,rfl,ept,X,G,fun p1 H1 s1 np1 S1=>?_⟩
   have X1:=X.same s1
   refine ⟨fun cls _ H'=>(cls=.ref XN∨cls=.ref XR∨cls=.ref XA∨cls=.ref XO)∧Same H1 H',?_,?_⟩
   · obtain⟨eT,bT⟩:=X1.t.ob
     obtain⟨eH,bH⟩:=X1.h.ob
     obtain⟨eF,bF⟩:=X1.f.ob
     obtain⟨eS,bS⟩:=X1.s.ob
     obtain⟨eW,bW⟩:=X1.w.ob
     obtain⟨eL,bL⟩:=X1.l.ob
     have hln:=G.ln
     have hb1:=G.b1
     have hw3:=G.w3
     have hl1:=G.l1
     have hs1:=G.s1
     have hs3:=G.s3
     have hs5:=R.s5
     have hi:i=0∨i=1∨i=2∨i=3∨i=4∨i=5∨i=6:=by omega
     rcases hi with rfl | rfl | rfl | rfl | rfl | rfl | rfl
     · refine ⟨_,rfl,rfl,_,rfl,Lb ?_⟩
       exact ⟨rfl,_,rfl,x.tp,eT,_,rfl,bT,OM (.inr (.inr (.inr (.inr (.inr (.inr (.inl rfl))))))),x.tp,99,.non,none,x.kT,0,x.all,x.ts,x.td,rfl,X1.t,by omega,.inl ⟨rfl,rfl⟩,.inr ⟨by omega,.inl rfl,Same.refl _⟩⟩
     · refine ⟨_,rfl,rfl,_,rfl,Jj ?_⟩
       refine ⟨_,rfl,rfl,_,rfl,Lb ?_⟩
       refine ⟨rfl,_,rfl,x.B.p,eH,_,rfl,bH,Lh X1.h (.inr (.inl rfl)),(show 3≤sizeLine by decide),fun t nt=>?_⟩
       have st:=Same.new (o:=mT Y4) nt
       exact ⟨x.B,x.hB,[],t,Y4,rfl,X1.h.same st,GU,Yn,fun m hm=>hm.elim (G.b4 m) fun z=>(G.b2 m z).2.2,G.b5.2,by omega,.inr ⟨R.ch,fun H' s'=>⟨.inr (.inr (.inr rfl)),st.trans s'⟩⟩⟩
     · refine ⟨_,rfl,rfl,_,rfl,Jj ?_⟩
       refine ⟨_,rfl,rfl,_,rfl,Jj ?_⟩
       refine ⟨_,rfl,rfl,_,rfl,Lb ?_⟩
       exact ⟨rfl,_,rfl,x.A.p,eF,_,rfl,bF,Kb (.inr (.inr (.inr (.inr (.inr (.inr (.inr (.inr (.inr (.inr (.inr (.inr (.inl rfl))))))))))))),x.A,L1R,x.g,9,x.all,"r",1,"old",rfl,X1.f,.inr ⟨rL1,.inr (.inr (.inl rfl)),Same.refl _⟩⟩
     · refine ⟨_,rfl,rfl,_,rfl,Jj ?_⟩
       refine ⟨_,rfl,rfl,_,rfl,Jj ?_⟩
       refine ⟨_,rfl,rfl,_,rfl,Jj ?_⟩
       refine ⟨_,rfl,rfl,_,rfl,Lb ?_⟩
       exact ⟨rfl,_,rfl,x.A.p,eF,_,rfl,bF,Kb (.inr (.inr (.inr (.inr (.inr (.inr (.inr (.inr (.inr (.inr (.inr (.inr (.inr rfl))))))))))))),x.A,L1R,x.g,9,x.all,"q",rfl,X1.f,.inr ⟨by unfold L1R;rw[aAc];decide +kernel,.inr (.inl rfl),Same.refl _⟩⟩
     · refine ⟨_,rfl,rfl,_,rfl,Jj ?_⟩
       refine ⟨_,rfl,rfl,_,rfl,Jj ?_⟩
       refine ⟨_,rfl,rfl,_,rfl,Jj ?_⟩
       refine ⟨_,rfl,rfl,_,rfl,Jj ?_⟩
       refine ⟨_,rfl,rfl,_,rfl,Lb ?_⟩
       exact ⟨rfl,_,rfl,x.D.p,eL,_,rfl,bL,Ni X1.l (.inr (.inl rfl)),_,rfl,x.D,x.hD,3,-1,.non,none,rfl,X1.l,by decide,by omega,.inl ⟨rfl,rfl⟩,.inr ⟨by omega,.inl rfl,Same.refl _⟩⟩
     · refine ⟨_,rfl,rfl,_,rfl,Jj ?_⟩
       refine ⟨_,rfl,rfl,_,rfl,Jj ?_⟩
       refine ⟨_,rfl,rfl,_,rfl,Jj ?_⟩
       refine ⟨_,rfl,rfl,_,rfl,Jj ?_⟩
       refine ⟨_,rfl,rfl,_,rfl,Jj ?_⟩
       refine ⟨_,rfl,rfl,_,rfl,Lb ?_⟩
       exact ⟨rfl,_,rfl,x.wp,eW,_,rfl,bW,TD (.inr (.inl rfl)),x.wp,99,x.ws,x.ww,x.wr,rfl,X1.w,by omega,.inr ⟨R.wn,fun H' s'=>⟨.inl rfl,s'⟩⟩⟩
     · refine ⟨_,rfl,rfl,_,rfl,Jj ?_⟩
       refine ⟨_,rfl,rfl,_,rfl,Jj ?_⟩
       refine ⟨_,rfl,rfl,_,rfl,Jj ?_⟩
       refine ⟨_,rfl,rfl,_,rfl,Jj ?_⟩
       refine ⟨_,rfl,rfl,_,rfl,Jj ?_⟩
       refine ⟨_,rfl,rfl,_,rfl,Jj ?_⟩
       refine ⟨rfl,_,rfl,x.S.p,eS,_,rfl,bS,P6 (.inl rfl),(show 3≤sizeLine by decide),fun t nt=>?_⟩
       have st:=Same.new (o:=mT Y4) nt
       exact ⟨x.S,x.lS,x.fS,x.st,"s",t,Y4,rfl,X1.s.same st,GU,fun z=>absurd R.sl z,Yn,R.s4,hs5.1,hs5.2,by omega,by omega,.inr ⟨R.cs,fun H' s'=>⟨.inr (.inr (.inr rfl)),st.trans s'⟩⟩⟩
   · rintro cls a H2 ⟨hc,s2⟩ _
     refine ⟨?_,?_⟩
     · rcases hc with rfl | rfl | rfl | rfl
       · exact TX.eN
       · exact TX.eR
       · exact TX.eK
       · exact TX.eO
     have s12:=s1.trans s2
     refine ⟨_,rfl,x,pt,rfl,s12 _ _ ept,X.same s12,G,fun p2 H3 s3 np2 S3=>?_⟩
     refine ⟨_,rfl,?_⟩
     have S1':=S1.same (s2.trans s3)
     obtain⟨xs,ys,h1,h2,h3,h4⟩:=S7.eq G X.s.dis.nd S3 S1'
     exact ⟨p2,p1,xs,ys,rfl,rfl,h1,h2,h3,h4,q _ (s12.trans s3)⟩
theorem P7.step{c:C7}{H H':Hp}{x:PT}{ps ps':List Addr}(p:P7 c H x)(st:Stp ps H ps' H')(hd:∀f∈x.fps,∀a∈f,a∉ps):P7 c H' x:=
 ⟨p.t.stp st (hd _ (by simp[PT.fps])),p.h.step st (hd _ (by simp[PT.fps])),p.f.step st (hd _ (by simp[PT.fps])),p.s.step st (hd _ (by simp[PT.fps])),p.w.step st (hd _ (by simp[PT.fps])),p.r.step st (hd _ (by simp[PT.fps])),p.l.step st (hd _ (by simp[PT.fps])),p.ap⟩
def VF(c:C7):Sp:=fun vs H Q _=>∃(x:PT) (pt lm lb:Addr) (ym yb:List V),vs=[.ref pt,.ref lm,.ref lb]∧H pt=some (.tup (vs7 x))∧P7 c H x∧G7 x∧R7 x∧H lm=some (.lst ym)∧ym.length≤50∧H lb=some (.lst yb)∧Ms H yb x.hB.heard∧lb≠lm∧(∀f∈x.fps,lm∉f∧lb∉f)∧(∀m∈x.hB.heard,Q2 x.hB [m]∧Ji x.hB [m]=x.hB)∧∀H',Q (.bl true) H'
abbrev J3:Stmt:=IF 46
abbrev Nv:List Str:=["_law_parts","_law_messages_here","_law_before","_law_teller","_law_hearer","_law_fan","_law_sources","_law_window","_law_road","_law_relay","_law_told","_law_kept","_law_row"]
theorem sc_l_ends:FnScope Nv ["_law_parts","_law_messages_here","_law_before"] (GV J3):=⟨rfl,rfl,rfl,by decide +kernel,rfl,by decide +kernel,by decide +kernel⟩
theorem Ws{f XO:Addr}{fd:FuncData}{c:C7}(F:Fun K "_law_ends" "_law_ends" J3 f fd)(T:Txt mg)(TC:TxtA K mg c)(c_l_lists:Callee P w K mg base 7 "_law_lists" ["_law_teller","_law_hearer","_law_fan","_law_sources","_law_window","_law_road"] (Ph c))(c_l_state:Callee P w K mg base 8 "_law_state" ["_law_parts"] (Pd c))(c_l_refuses:CalleeS P w K mg base 9 "_law_refuses" ["_law_which","_law_parts"] (Xf c))(mx_Hearer_take:CalleeMX P w K mg base 4 c.CH "take" ["self","message"] (Md c.CH XO))(m_Hearer_heard:CalleeM P w K mg base 1 c.CH "heard" ["self"] (MZ c.CH)) :
 FnOkS P w K mg base Jg 10 f fd ["_law_parts","_law_messages_here","_law_before"] (VF c):=by
 refine F.okS sc_l_ends (fun vs H Q E h=>?_) (fun cdv A0 outer s0 H vs Q E hr h=>?_)
 · obtain⟨x,pt,lm,lb,ym,yb,rfl,_⟩:=h;rfl
 · obtain⟨x,pt,lm,lb,ym,yb,rfl,ept,X,G,R,elm,hlm,elb,mlb,nlb,nfp,hag,q⟩:=h
   refine ⟨_,(GX (UO (pv 0) (V0 K rfl (HG (Hn (i:=3) sc_l_ends.nd rfl (Or.inl rfl)) (HG (Hn (i:=4) sc_l_ends.nd rfl (Or.inr rfl)) (HG (Hn (i:=5) sc_l_ends.nd rfl (Or.inl rfl)) (HG (Hn (i:=6) sc_l_ends.nd rfl (Or.inl rfl)) (HG (Hn (i:=7) sc_l_ends.nd rfl (Or.inl rfl)) (HG (Hn (i:=8) sc_l_ends.nd rfl (Or.inl rfl)) (HG (Hn (i:=9) sc_l_ends.nd rfl (Or.inl rfl)) O3)))))))))
    (GX (Hs (i:=10) sc_l_ends.nd rfl (Or.inl rfl) (HE c_l_lists (hr.mono (by decide)) (G0 (pv 3) (GW (pv 4) (GW (pv 5) (GW (pv 6) (GW (pv 7) (GW (pv 8) GZ))))))))
    (GX (Sa (i:=11) sc_l_ends.nd rfl (Or.inl rfl) (N':=["_law_row"]) (ix:=[none]) (own:=[0]) rfl (LA (osc:=GV J3) (ON:=Nv) rfl rfl (by decide +kernel)) (by decide) (HQ K (pv 10)) (fun _ _ _ _=>(Hn (i:=0) (show (["_law_row"]:List Str).Nodup by decide +kernel) rfl (Or.inl rfl))) Jb (fun _ _ _ _=>Lp) (fun _ _ _ _=>(ID (IP K) (by rfl) T.b_list aAN (G0 (pv 0) GZ))))
    (GX (J5 aBc rfl (HQ K (pv 10)) (Hn (i:=12) sc_l_ends.nd rfl (Or.inl rfl)) (GX (Hr (Mt K aAA aAP aAQ Jc (pv 12) (HU Hw IE)))
    (G4 (Hr (TY K aAA PySem.F.slot_list_reverse PySem.F.type_list_reverse P9 (pv 12))))))
    (GX (Hr (Mt K aAA aAP aAQ Jc (pv 1) (HU Hw IE)))
    (GX (Hr (TY K aAA PySem.F.slot_list_reverse PySem.F.type_list_reverse P9 (pv 1)))
    (GX (IA (PW.pt (PJ (Hu (NR hr.units) (HE c_l_lists (hr.mono (by decide)) (G0 (pv 3) (GW (pv 4) (GW (pv 5) (GW (pv 6) (GW (pv 7) (GW (pv 8) GZ))))))) (pv 11) (Hy _)) (NM (Hu (ZF hr) (HE c_l_state (hr.mono (by decide)) (G0 (pv 0) GZ)) (HE c_l_state (hr.mono (by decide)) (G0 (pv 0) GZ)) (Hy _))))) (G4 (Hh Lr)) HP)
    (GX (IA (Hu (aau K hr.units0) (Km (N':=["_law_which","_law_parts"]) (ix:=[none,some 0]) (own:=[0]) rfl (LA (osc:=GV J3) (ON:=Nv) rfl rfl (by decide +kernel)) (by decide) (Mj (by rfl) T.b_range (HU G9 IE)) (fun _ _ _ _=>(Hn (i:=0) (show (["_law_which","_law_parts"]:List Str).Nodup by decide +kernel) rfl (Or.inl rfl))) Jb (fun _ _ _ _=>(KR (XE (UN (YY c_l_refuses (hr.mono (by decide)) (G0 (pv 0) (GW (pv 1) GZ))))))) (fun _ _ _ _=>(pv 0))) (HJ GZ) (Hy _)) (G4 (Hh Lr)) HP)
    (G4 (Hh (XV (Nb (aav K hr.units0) (Km (N':=["_law_message","_law_hearer"]) (ix:=[none,some 4]) (own:=[0]) rfl (LA (osc:=GV J3) (ON:=Nv) rfl rfl (by decide +kernel)) (by decide) (HQ K (pv 2)) (fun _ _ _ _=>(Hn (i:=0) (show (["_law_message","_law_hearer"]:List Str).Nodup by decide +kernel) rfl (Or.inl rfl))) Jb (fun _ _ _ _=>(KR (Hu (aau K hr.units0) (Hz mx_Hearer_take TC.cl_Hearer (hr.mono (by decide)) Ia (pv 1) (G0 (pv 0) GZ)) (HJ GZ) (Hy _)))) (fun _ _ _ _=>(pv 0))) (HJ GZ) (Hy _)) (XM (Nb (XZ hr.units) (Hl m_Hearer_heard TC.cl_Hearer (hr.mono (by decide)) (pv 4)) (pv 2) (Hy _)))))))))))))),?_⟩
   refine ⟨_,rfl,pt,vs7 x,rfl,SqT.ofT ept,rfl,_,_,rfl,_,_,rfl,_,_,rfl,_,_,rfl,_,_,rfl,_,_,rfl,_,_,rfl,rfl,?_⟩
   refine ⟨_,rfl,_,rfl,_,rfl,_,rfl,_,rfl,_,rfl,x,rfl,X,G,fun p cs ds H1 s1 ep hds hL F1=>?_⟩
   have lcs:cs.length=19:=by
    have:=KW hds
    rw[aAf,hL.len] at this;exact this
   have hcl:=Tg hds (hL.lists G)
   dsimp only
   refine aaw (aax ?_)
   refine Ry (fun R hR'=>⟨_,rfl,hR'⟩) ep (by omega) (fun c hc=>let ⟨xs,e,_⟩:=hcl c hc;⟨xs,e⟩) (fun l ks H2 s2 nl el hkl hks hkf=>?_)
   have hdk:=Qq s2 hds (hL.lists G) hkl hks
   have hfr:∀c∈cs,H c=none:=fun c hc=>F1.fr c (aAj _ hc)
   have npc:p∉cs:=fun z=>(aBF.mp F1.nd).2.2 p z p (by simp) rfl
   have nlc:l∉cs:=fun z=>by obtain⟨xs,e,_⟩:=hcl l z;rw[nl] at e;cases e
   have nkc:∀k∈ks,k∉cs:=fun k hk z=>by obtain⟨xs,e,_⟩:=hcl k z;rw[hkf k hk] at e;cases e
   have s12:=s1.trans s2
   have w2:Stp [] H cs H2:=⟨(s12.step []).1,(s12.step []).2,fun c hc=>.inr (hfr c hc)⟩
   have ep2:=s2 _ _ ep
   have hcl2:∀c∈cs,∃xs,H2 c=some (.lst xs)∧xs.length≤50 + 0:=fun c hc=>let ⟨xs,e,h⟩:=hcl c hc;⟨xs,s2 _ _ e,h⟩
   refine ⟨_,rfl,p,rfl,⟨_,SqL.ofL ep2⟩,JR (K:=K) (a:=p) (xs:=cs.map V.ref) (fun i σ H'=>∃o12,σ=[some (.ref pt),some (.ref lm),some (.ref lb),some (.ref x.tp),some (.ref x.B.p),some (.ref x.A.p),some (.ref x.S.p),some (.ref x.wp),some (.ref x.rp),some (.ref x.D.p),some (.ref p),some (.ref l),o12]∧Stp cs H2 cs H'∧∀c∈cs,∃xs,H' c=some (.lst xs)∧xs.length≤50 + i)
    ⟨_,rfl,(Same.refl H2).step _,hcl2⟩ (fun i σ H' _ ⟨_,_,w,_⟩=>SqL.ofL (w.keep ep2 npc)) ?_ ?_⟩
   · rintro i y σ H' hi ⟨o5,rfl,w,hc'⟩
     obtain⟨c,hci,rfl⟩:∃c,cs[i]?=some c∧y=V.ref c:=by
      rw[aAH] at hi
      cases h:cs[i]? with
      | none=>rw[h] at hi;cases hi
      | some n=>rw[h] at hi;exact ⟨n,rfl,(aAi hi).symm⟩
     have hcm:=aBr hci
     have hi5:=(aAn.mp hci).1
     obtain⟨xs,exs,hxl⟩:=hc' c hcm
     refine HN ⟨_,rfl,.inl ⟨rfl,_,SqL.ofL exs⟩,c,xs,_,rfl,rfl,exs,by rw[aAs];omega,?_⟩
     have st:=Stp.put (ps:=cs) (o:=.lst (xs ++ [V.str "x"])) exs (fun _ z=>by cases z) hcm
     have eu:=GU (H:=H') (a:=c) (o:=.lst (xs ++ [V.str "x"]))
     have eo:∀d,d≠c→Hq H' c (.lst (xs ++ [V.str "x"])) d=H' d:=fun d hd=>GY hd
     generalize Hq H' c (.lst (xs ++ [V.str "x"]))=H'' at st eu eo ⊢
     refine ⟨_,rfl,.inl ⟨rfl,_,SqL.ofL eu⟩,c,_,rfl,rfl,eu,?_⟩
     have st2:=Stp.put (ps:=cs) (o:=.lst (xs ++ [V.str "x"]).reverse) eu (fun _ z=>by cases z) hcm
     refine ⟨_,rfl,(w.trans st).trans st2,fun d hd=>?_⟩
     by_cases z:d=c
     · rw[z];exact ⟨_,GU,by rw[List.length_reverse,aAk];show _ + 1≤_;omega⟩
     · obtain⟨xs',e',h'⟩:=hc' d hd
       exact ⟨xs',(GY z).trans ((eo d z).trans e'),by omega⟩
   rintro σ H3 ⟨o5,rfl,w3,_⟩
   have v3:=w2.trans w3
   have elm3:=v3.same _ _ elm
   refine ⟨_,rfl,.inl ⟨rfl,_,SqL.ofL elm3⟩,lm,ym,_,rfl,rfl,elm3,by rw[aAs];omega,?_⟩
   have st:=Stp.put (ps:=[lm]) (o:=.lst (ym ++ [V.str "x"])) elm3 (fun _ z=>by cases z) (by simp)
   have eu:=GU (H:=H3) (a:=lm) (o:=.lst (ym ++ [V.str "x"]))
   generalize Hq H3 lm (.lst (ym ++ [V.str "x"]))=H3' at st eu ⊢
   refine ⟨_,rfl,.inl ⟨rfl,_,SqL.ofL eu⟩,lm,_,rfl,rfl,eu,?_⟩
   have st2:=st.trans (Stp.put (ps:=[lm]) (o:=.lst (ym ++ [V.str "x"]).reverse) eu (fun _ z=>by cases z) (by simp))
   generalize Hq H3' lm (.lst (ym ++ [V.str "x"]).reverse)=H4 at st2 ⊢
   have X4:=(X.same v3.same).step st2 (fun f hf a ha z=>by rw[aAc] at z;rw[z] at ha;exact (nfp f hf).1 ha)
   have ept4:=st2.tup _ _ (v3.same _ _ ept)
   have elb4:=st2.keep (v3.same _ _ elb) (by simp[nlb])
   have mlb4:=(mlb.step v3).step st2
   have nlm:∀{c u},H2 c=some u→c∉cs→H c=none→H4 c=some u:=fun {c u} e hc hn=>st2.keep (w3.keep e hc) (fun z=>by rw[aAc] at z;rw[z,elm] at hn;cases hn)
   have el4:H4 l=some (.lst (ks.map V.ref)):=nlm el nlc ((s1.step []).free nl aAa)
   have hdk4:=Rg (w3.tup.trans st2.tup) hdk (hL.lists G) (fun k u hk e=>nlm e (nkc k hk) ((s1.step []).free (hkf k hk) aAa))
   clear st st2 eu w2 w3 v3 hds hdk hks hkf hcl hcl2 ep ep2 el F1 s1 s2 s12
   refine ⟨_,rfl,_,rfl,_,rfl,_,rfl,_,rfl,_,rfl,x,rfl,X4,G,fun p5 cs5 ds5 H5 s5 ep5 hds5 hL5 F5=>?_⟩
   obtain rfl:ds5=ds:=hL5.uniq hL
   have hsh:=hL5.shaped G
   refine ⟨_,rfl,.list ds5,.list ds5,Ic ep5 hds5,Ic (s5 _ _ el4) (HasL.same s5 hdk4),hsh,hsh,?_⟩
   rw[aB5 _ (aBX.mp hsh).1]
   refine ⟨_,rfl,Jj ?_⟩
   refine ⟨_,rfl,x,pt,rfl,s5 _ _ ept4,X4.same s5,G,fun p6 H6 s6 np6 S6=>?_⟩
   have s46:=s5.trans s6
   refine ⟨_,rfl,x,pt,rfl,s46 _ _ ept4,X4.same s46,G,fun p7 H7 s7 np7 S7'=>?_⟩
   have s47:=s46.trans s7
   obtain⟨xs,ys,g1,g2,g3,g4⟩:=S7.eq G X.s.dis.nd (S6.same s7) S7'
   refine ⟨p6,p7,xs,ys,rfl,rfl,g1,g2,g3,g4,_,rfl,Jj ?_⟩
   have X7:=X4.same s47
   have ept7:=s47 _ _ ept4
   have elb7:=s47 _ _ elb4
   have mlb7:=mlb4.same s47
   clear s46 S6 S7' g1 g2 g3 g4 X4 ept4 elb4 mlb4 s5 s6 s7 hds5 ep5 F5 el4 hdk4
   refine ⟨7,rfl,by decide,by decide,7,fun i ys H'=>ys=[]∧Same H7 H',(by decide),⟨rfl,Same.refl _⟩,?_,?_⟩
   · rintro i ys H' hi ⟨rfl,s'⟩
     refine ⟨hi,?_⟩
     rintro y H3 ⟨rfl,rfl⟩
     exact HN ⟨_,rfl,_,rfl,x,pt,_,rfl,by omega,by omega,s' _ _ ept7,X7.same s',G,R,fun H4 s4=>⟨_,rfl,Jj ⟨rfl,s'.trans s4⟩⟩⟩
   rintro ys H8 ⟨rfl,s8⟩
   refine ⟨aAh _,fun D nD=>⟨aAJ _,fun D2 nD2=>?_⟩⟩
   have s9:=Same.new (o:=.lst []) nD2
   refine ⟨D,D2,[],rfl,rfl,SqL.ofL (s9 _ _ GU),SqL.ofL GU,_,rfl,Jj ?_⟩
   replace s9:=s8.trans ((Same.new (o:=.lst []) nD).trans s9)
   generalize Hq (Hq H8 D (.lst [])) D2 (.lst [])=H9 at s9 ⊢
   have h9:=X7.h.same s9
   have elb9:=s9 _ _ elb7
   have mlb9:=mlb7.same s9
   have hb1:=G.b1
   have nlf:lb∉x.B.fp:=(nfp _ (by simp[PT.fps])).2
   have hyl:=mlb.len
   refine ⟨_,rfl,lb,rfl,⟨_,SqL.ofL elb9⟩,x.hB.heard.length,fun i ys H'=>ys=[]∧HAt c.CH H' x.B x.hB []∧H' lb=some (.lst yb)∧Ms H' yb x.hB.heard,Zf (by omega),⟨rfl,h9,elb9,mlb9⟩,?_,?_⟩
   · rintro i ys H' hi ⟨rfl,h',el',ml'⟩
     obtain⟨k,ek,hk⟩:=ml'.get hi
     have hm:=aAO hi
     refine ⟨⟨_,_,SqL.ofL el',ek⟩,?_⟩
     rintro y H3 ⟨rfl,hy⟩
     have hy':=hy _ (SqL.ofL el')
     rw[ek] at hy'
     obtain rfl:=aAi hy'
     obtain⟨e,b⟩:=h'.ob
     refine HN ⟨_,rfl,x.B.p,e,_,rfl,b,Lh h' (.inr (.inl rfl)),_,rfl,x.B,x.hB,[],k,_,rfl,h',hk,G.b4 _ hm,fun m hm=>hm.elim (G.b4 m) fun z=>(G.b2 m z).2.2,G.b5.2,by omega,.inl ⟨(hag _ hm).1,fun l ys found H4 h4 hf st nl nl' e4 m4=>?_⟩⟩
     rw[(hag _ hm).2] at h4 hf
     have hf0:found=[]:=by
      have:=aA2 List.length hf
      rw[aAk] at this
      exact aBE.mp (by omega)
     subst hf0
     have hys:ys=[]:=aBE.mp m4.len
     subst hys
     refine ⟨aAJ _,fun D3 nD3=>?_⟩
     have s4:=Same.new (o:=.lst []) nD3
     exact ⟨l,D3,[],rfl,rfl,SqL.ofL (s4 _ _ e4),SqL.ofL GU,_,rfl,Jj ⟨rfl,h4.same s4,s4 _ _ (st.keep el' nlf),(ml'.step st).same s4⟩⟩
   rintro ys H10 ⟨rfl,h10,el10,ml10⟩
   refine ⟨⟨_,SqL.ofL el10,by rw[hyl];exact aAh _⟩,fun D nD=>⟨aAJ _,fun D2 nD2=>?_⟩⟩
   have s11:=Same.new (o:=.lst []) nD2
   refine ⟨D,D2,[],rfl,rfl,SqL.ofL (s11 _ _ GU),SqL.ofL GU,_,rfl,Lb ?_⟩
   replace s11:=(Same.new (o:=.lst []) nD).trans s11
   generalize Hq (Hq H10 D (.lst [])) D2 (.lst [])=H11 at s11 ⊢
   have h11:=h10.same s11
   obtain⟨e,b⟩:=h11.ob
   refine ⟨_,rfl,x.B.p,e,_,rfl,b,Lh h11 (.inr (.inr (.inr (.inr (.inr (.inl rfl)))))),x.B,x.hB,[],rfl,h11,fun l ys nl ml=>?_⟩
   have s12:=Same.new (o:=.lst ys) nl
   have hsh:SeqAt.shaped (mL x.hB.heard)=true:=by
    obtain⟨g1,g2⟩:=N5 G.b4
    show (PyData.canLay0 (mL x.hB.heard) && decide (PyData.depth (mL x.hB.heard)≤64))=true
    rw[aAR]
    exact ⟨g1,aAD (by unfold mL;omega)⟩
   refine ⟨_,rfl,mL x.hB.heard,mL x.hB.heard,Ic GU ml,Ic (s12 _ _ (s11 _ _ el10)) ((ml10.same s11).same s12),hsh,hsh,?_⟩
   rw[aB5 _ (aBX.mp hsh).1]
   exact q _
structure Ap(H:Hp)(fs:List (List Addr)):Prop where
 ap:∀(i j:Nat) f g,fs[i]?=some f→fs[j]?=some g→i≠j→∀c∈f,c∉g
 lv:∀(i:Nat) f,fs[i]?=some f→∀c∈f,∃o,H c=some o
section
variable{H H':Hp}{fs:List (List Addr)}{f f':List Addr}
theorem Ap.same(h:Ap H fs)(s:Same H H'):Ap H' fs:=⟨h.ap,fun i f hi c hc=>let ⟨o,e⟩:=h.lv i f hi c hc;⟨o,s _ _ e⟩⟩
theorem Ap.one(l:∀c∈f,∃o,H c=some o):Ap H [f]:=by
 refine ⟨fun i j g g' hi hj n=>?_,fun i g hi=>?_⟩
 · rcases i with _ | i <;> rcases j with _ | j
   · exact absurd rfl n
   · simp at hj
   · simp at hi
   · simp at hi
 · rcases i with _ | i
   · cases aAi hi;exact l
   · simp at hi
theorem Ap.add(h:Ap H fs)(st:Stp [] H f H')(l:∀c∈f,∃o,H' c=some o):Ap H' (fs ++ [f]):=by
 have key:∀{i:Nat} {g},(fs ++ [f])[i]?=some g→(i < fs.length∧fs[i]?=some g)∨(i=fs.length∧g=f):=fun {i g} hi=>by
  by_cases z:i < fs.length
  · rw[aCl z] at hi;exact .inl ⟨z,hi⟩
  · have hl:=(aAn.mp hi).1
    rw[aAk] at hl
    have e:i=fs.length:=by simp at hl;omega
    rw[e,aCj (aAh _),Nat.sub_self] at hi
    exact .inr ⟨e,(aAi hi).symm⟩
 have fr:∀c∈f,H c=none:=fun c hc=>(st.new c hc).resolve_left aAa
 refine ⟨fun i j g g' hi hj n c hc hc'=>?_,fun i g hi c hc=>?_⟩
 · rcases key hi with ⟨h1,h2⟩ | ⟨h1,rfl⟩ <;> rcases key hj with ⟨h3,h4⟩ | ⟨h3,rfl⟩
   · exact h.ap i j g g' h2 h4 n c hc hc'
   · obtain⟨o,e⟩:=h.lv i g h2 c hc;rw[fr c hc'] at e;cases e
   · obtain⟨o,e⟩:=h.lv j g' h4 c hc';rw[fr c hc] at e;cases e
   · omega
 · rcases key hi with ⟨h1,h2⟩ | ⟨h1,rfl⟩
   · obtain⟨o,e⟩:=h.lv i g h2 c hc;exact ⟨o,st.same _ _ e⟩
   · exact l c hc
theorem Ap.set(h:Ap H fs)(k:Nat)(hk:fs[k]?=some f)(st:Stp f H f' H')(l:∀c∈f',∃o,H' c=some o):Ap H' (fs.set k f'):=by
 have key:∀{i:Nat} {g},(fs.set k f')[i]?=some g→(i=k∧g=f')∨(i≠k∧fs[i]?=some g):=fun {i g} hi=>by
  by_cases z:k=i
  · subst z
    rw[aCD (aAn.mp hk).1] at hi
    exact .inl ⟨rfl,(aAi hi).symm⟩
  · rw[aCi z] at hi
    exact .inr ⟨fun e=>z e.symm,hi⟩
 have out:∀{i:Nat} {g},i≠k→fs[i]?=some g→∀c∈g,c∉f':=fun {i g} n hi c hc=>by
  obtain⟨o,e⟩:=h.lv i g hi c hc
  exact st.out e (h.ap i k g f hi hk n c hc)
 refine ⟨fun i j g g' hi hj n c hc hc'=>?_,fun i g hi c hc=>?_⟩
 · rcases key hi with ⟨h1,rfl⟩ | ⟨h1,h2⟩ <;> rcases key hj with ⟨h3,rfl⟩ | ⟨h3,h4⟩
   · omega
   · exact out h3 h4 c hc' hc
   · exact out h1 h2 c hc hc'
   · exact h.ap i j g g' h2 h4 n c hc hc'
 · rcases key hi with ⟨h1,rfl⟩ | ⟨h1,h2⟩
   · exact l c hc
   · obtain⟨o,e⟩:=h.lv i g h2 c hc
     exact ⟨o,st.keep e (h.ap i k g f h2 hk h1 c hc)⟩
end
theorem Tn{C p r d:Addr}{H:Hp}{sz:Int}{way:Str}{s:RS}(h:RAt C H p sz way s r d):∀c∈[p,r,d],∃o,H c=some o:=fun c hc=>by
 cases e:H c with
 | none=>exact absurd hc (h.free e)
 | some o=>exact ⟨o,rfl⟩
theorem SL{C p w r:Addr}{H:Hp}{s:WS}(h:WAt C H p s w r):∀c∈[p,w,r],∃o,H c=some o:=fun c hc=>by
 cases e:H c with
 | none=>exact absurd hc (h.free e)
 | some o=>exact ⟨o,rfl⟩
structure B9 where
 lm:Addr
 lb:Addr
 ym:List V
 yb:List V
 M:List Msg
 pt:Addr
structure PB(c:C7)(b:B9)(H:Hp)(x:PT)(aF:List Msg):Prop where
 t:TAt c.CT H x.tp x.kT 0 x.all x.ts x.td
 h:HAt c.CH H x.B x.hB []
 f:FAt c.CF c.CT c.CR c.CH H x.A L1R x.g 9 aF
 s:SAt c.CS c.CH H x.S x.lS x.fS x.st
 w:WAt c.CW H x.wp x.ws x.ww x.wr
 r:RAt c.CR H x.rp 2 "old" x.rs x.rr x.rd
 l:HAt c.CL H x.D x.hD (WF 3)
 ap:Ap H ([b.lm,b.lb] :: x.fps)
 em:H b.lm=some (.lst b.ym)
 mm:Ms H b.ym b.M
 eb:H b.lb=some (.lst b.yb)
 mb:Ms H b.yb b.M
 pt:H b.pt=some (.tup (vs7 x))
section
variable{c:C7}{b:B9}{H H':Hp}{x:PT}{aF:List Msg}
theorem PB.same(p:PB c b H x aF)(s:Same H H'):PB c b H' x aF:=⟨p.t.same s,p.h.same s,p.f.same s,p.s.same s,p.w.same s,p.r.step (s.step []) (fun _ _=>aAa),p.l.same s,p.ap.same s,s _ _ p.em,p.mm.same s,s _ _ p.eb,p.mb.same s,s _ _ p.pt⟩
theorem PB.d(p:PB c b H x aF)(i j:Nat){f g:List Addr}(hi:([b.lm,b.lb] :: x.fps)[i]?=some f)(hj:([b.lm,b.lb] :: x.fps)[j]?=some g)(n:i≠j):∀c∈f,c∉g:=p.ap.ap i j f g hi hj n
theorem PB.tT{al:List Msg}(p:PB c b H x aF)(n:TAt c.CT H' x.tp x.kT 0 al x.ts x.td)(bu:But [x.tp,x.ts,x.td] H H'):PB c b H' { x with all:=al } aF:=by
 have st:Stp [x.tp,x.ts,x.td] H [x.tp,x.ts,x.td] H':=⟨bu,p.t.tups bu,fun _ z=>.inl z⟩
 exact ⟨n,p.h.step st (p.d 2 1 rfl rfl (by decide)),p.f.step st (p.d 3 1 rfl rfl (by decide)),p.s.step st (p.d 4 1 rfl rfl (by decide)),p.w.step st (p.d 5 1 rfl rfl (by decide)),p.r.step st (p.d 6 1 rfl rfl (by decide)),p.l.step st (p.d 7 1 rfl rfl (by decide)),p.ap.set 1 rfl st n.live,st.keep p.em (p.d 0 1 rfl rfl (by decide) _ (by simp)),p.mm.step st,st.keep p.eb (p.d 0 1 rfl rfl (by decide) _ (by simp)),p.mb.step st,st.tup _ _ p.pt⟩
theorem PB.tH{hB':HS}(p:PB c b H x aF)(n:HAt c.CH H' x.B hB' [])(st:Stp x.B.fp H x.B.fp H'):PB c b H' { x with hB:=hB' } aF:=
 ⟨p.t.stp st (p.d 1 2 rfl rfl (by decide)),n,p.f.step st (p.d 3 2 rfl rfl (by decide)),p.s.step st (p.d 4 2 rfl rfl (by decide)),p.w.step st (p.d 5 2 rfl rfl (by decide)),p.r.step st (p.d 6 2 rfl rfl (by decide)),p.l.step st (p.d 7 2 rfl rfl (by decide)),p.ap.set 2 rfl st n.live,st.keep p.em (p.d 0 2 rfl rfl (by decide) _ (by simp)),p.mm.step st,st.keep p.eb (p.d 0 2 rfl rfl (by decide) _ (by simp)),p.mb.step st,st.tup _ _ p.pt⟩
theorem PB.tF{g':Str→FE}{al:List Msg}(p:PB c b H x aF)(n:FAt c.CF c.CT c.CR c.CH H' x.A L1R g' 9 al)(st:Stp (x.A.fp L1R x.g) H (x.A.fp L1R g') H'):PB c b H' { x with g:=g' } al:=
 ⟨p.t.stp st (p.d 1 3 rfl rfl (by decide)),p.h.step st (p.d 2 3 rfl rfl (by decide)),n,p.s.step st (p.d 4 3 rfl rfl (by decide)),p.w.step st (p.d 5 3 rfl rfl (by decide)),p.r.step st (p.d 6 3 rfl rfl (by decide)),p.l.step st (p.d 7 3 rfl rfl (by decide)),p.ap.set 3 rfl st n.live,st.keep p.em (p.d 0 3 rfl rfl (by decide) _ (by simp)),p.mm.step st,st.keep p.eb (p.d 0 3 rfl rfl (by decide) _ (by simp)),p.mb.step st,st.tup _ _ p.pt⟩
theorem PB.tS{l':HL}{f':Str→HS}{s':List (Str×Msg)}(p:PB c b H x aF)(n:SAt c.CS c.CH H' x.S l' f' s')(st:Stp (x.S.fp x.lS) H (x.S.fp l') H'):PB c b H' { x with lS:=l',fS:=f',st:=s' } aF:=
 ⟨p.t.stp st (p.d 1 4 rfl rfl (by decide)),p.h.step st (p.d 2 4 rfl rfl (by decide)),p.f.step st (p.d 3 4 rfl rfl (by decide)),n,p.w.step st (p.d 5 4 rfl rfl (by decide)),p.r.step st (p.d 6 4 rfl rfl (by decide)),p.l.step st (p.d 7 4 rfl rfl (by decide)),p.ap.set 4 rfl st n.live,st.keep p.em (p.d 0 4 rfl rfl (by decide) _ (by simp)),p.mm.step st,st.keep p.eb (p.d 0 4 rfl rfl (by decide) _ (by simp)),p.mb.step st,st.tup _ _ p.pt⟩
theorem PB.tW{ws':WS}{w' r':Addr}(p:PB c b H x aF)(n:WAt c.CW H' x.wp ws' w' r')(st:Stp [x.wp,x.ww,x.wr] H [x.wp,w',r'] H'):PB c b H' { x with ws:=ws',ww:=w',wr:=r' } aF:=
 ⟨p.t.stp st (p.d 1 5 rfl rfl (by decide)),p.h.step st (p.d 2 5 rfl rfl (by decide)),p.f.step st (p.d 3 5 rfl rfl (by decide)),p.s.step st (p.d 4 5 rfl rfl (by decide)),n,p.r.step st (p.d 6 5 rfl rfl (by decide)),p.l.step st (p.d 7 5 rfl rfl (by decide)),p.ap.set 5 rfl st (SL n),st.keep p.em (p.d 0 5 rfl rfl (by decide) _ (by simp)),p.mm.step st,st.keep p.eb (p.d 0 5 rfl rfl (by decide) _ (by simp)),p.mb.step st,st.tup _ _ p.pt⟩
theorem PB.tR{rs':RS}{r':Addr}(p:PB c b H x aF)(n:RAt c.CR H' x.rp 2 "old" rs' r' x.rd)(st:Stp [x.rp,x.rr,x.rd] H [x.rp,r',x.rd] H'):PB c b H' { x with rs:=rs',rr:=r' } aF:=
 ⟨p.t.stp st (p.d 1 6 rfl rfl (by decide)),p.h.step st (p.d 2 6 rfl rfl (by decide)),p.f.step st (p.d 3 6 rfl rfl (by decide)),p.s.step st (p.d 4 6 rfl rfl (by decide)),p.w.step st (p.d 5 6 rfl rfl (by decide)),n,p.l.step st (p.d 7 6 rfl rfl (by decide)),p.ap.set 6 rfl st (Tn n),st.keep p.em (p.d 0 6 rfl rfl (by decide) _ (by simp)),p.mm.step st,st.keep p.eb (p.d 0 6 rfl rfl (by decide) _ (by simp)),p.mb.step st,st.tup _ _ p.pt⟩
theorem PB.tL{hD':HS}(p:PB c b H x aF)(n:HAt c.CL H' x.D hD' (WF 3))(st:Stp x.D.fp H x.D.fp H'):PB c b H' { x with hD:=hD' } aF:=
 ⟨p.t.stp st (p.d 1 7 rfl rfl (by decide)),p.h.step st (p.d 2 7 rfl rfl (by decide)),p.f.step st (p.d 3 7 rfl rfl (by decide)),p.s.step st (p.d 4 7 rfl rfl (by decide)),p.w.step st (p.d 5 7 rfl rfl (by decide)),p.r.step st (p.d 6 7 rfl rfl (by decide)),n,p.ap.set 7 rfl st n.live,st.keep p.em (p.d 0 7 rfl rfl (by decide) _ (by simp)),p.mm.step st,st.keep p.eb (p.d 0 7 rfl rfl (by decide) _ (by simp)),p.mb.step st,st.tup _ _ p.pt⟩
theorem PB.p7(p:PB c b H x x.all):P7 c H x:=⟨p.t,p.h,p.f,p.s,p.w,p.r,p.l,by
 have:([b.lm,b.lb] :: x.fps).Pairwise Dj:=aAZ.mpr fun i j hi hj hij=>p.ap.ap i j _ _ (aAd hi) (aAd hj) (aAB hij)
 exact (aBj.mp this).2⟩
theorem PB.nf(p:PB c b H x aF):∀f∈x.fps,b.lm∉f∧b.lb∉f:=fun f hf=>by
 obtain⟨i,hi,rfl⟩:=aAS hf
 have k:∀a∈[b.lm,b.lb],a∉x.fps[i]:=p.ap.ap 0 (i + 1) _ _ rfl (by rw[List.getElem?_cons_succ,aAd hi]) (by omega)
 exact ⟨k _ (by simp),k _ (by simp)⟩
end
theorem Y9{s:HS}{m:Msg}(h:s.held=[])(n:m.n=s.next):Ji s [m]=⟨s.heard ++ [m],[],s.lost⟩:=by
 obtain⟨hd,hl,ls⟩:=s
 subst h
 have e1:[m].foldl Jf ⟨hd,[],ls⟩=⟨hd,[m],ls⟩:=by
  show Jf ⟨hd,[],ls⟩ m=_
  unfold Jf
  rw[aAE (by rw[n];exact aC6 _)]
  rfl
 unfold Ji
 rw[e1,MN (m:=m) (by show Jl [m] (HS.next ⟨hd,[],ls⟩)=some m;unfold Jl;rw[←n];simp)]
 have e2:Je [m] m.n=[]:=by unfold Je;simp
 show JE ⟨hd ++ [m],Je [m] m.n,ls⟩=_
 rw[e2,KU rfl]
theorem Wh{s:HS}{m:Msg}(h:s.held=[])(n:s.next < m.n):Ji s [m]=⟨s.heard,[m],s.lost⟩:=by
 obtain⟨hd,hl,ls⟩:=s
 subst h
 have e1:[m].foldl Jf ⟨hd,[],ls⟩=⟨hd,[m],ls⟩:=by
  show Jf ⟨hd,[],ls⟩ m=_
  unfold Jf
  rw[aAE (Int.le_of_lt n)]
  rfl
 unfold Ji
 rw[e1,KU]
 rw[findN_none]
 intro x hx
 rw[aAc] at hx
 rw[hx]
 have e:HS.next ⟨hd,[m],ls⟩=HS.next ⟨hd,[],ls⟩:=rfl
 rw[e]
 omega
theorem Uw{s:HS}{m:Msg}(n:m.n < s.next)(h:Jl s.held s.next=none):Ji s [m]=s:=by
 unfold Ji
 have e1:[m].foldl Jf s=s:=by
  show Jf s m=_
  unfold Jf
  rw[aAz (by omega)]
 rw[e1,KU h]
theorem Tf{sz:Int}{way:Str}{s:RS}{m:Msg}{i:Nat}{M:List Msg}(h:s.rows.length + s.out.length=i)(hM:∀y∈s.rows,y∈M)(hm:m∈M):(JC sz way s m).rows.length + (JC sz way s m).out.length=i + 1∧∀y∈(JC sz way s m).rows,y∈M:=by
 have h1:=(Wn sz way s m).length_eq
 simp only[aAk,aAf,aAL,aDj] at h1
 refine ⟨by omega,fun y hy=>?_⟩
 rcases aAx.mp ((Xt sz way s m).subset hy) with z | z
 · exact hM y z
 · rw[aAc] at z;rw[z];exact hm
theorem abf{s:WS}{m:Msg}{i:Nat}{M:List Msg}(h:s.way.length + s.rows.length=i)(h1:∀y∈s.way,y∈M)(h2:∀y∈s.rows,y∈M)(hm:m∈M):(goS { s with rows:=s.rows ++ [m] }).way.length + (goS { s with rows:=s.rows ++ [m] }).rows.length=i + 1∧(∀y∈(goS { s with rows:=s.rows ++ [m] }).way,y∈M)∧∀y∈(goS { s with rows:=s.rows ++ [m] }).rows,y∈M:=by
 unfold goS
 generalize (JQ { s with rows:=s.rows ++ [m] }).toNat=k
 have hr:∀y∈s.rows ++ [m],y∈M:=fun y hy=>(aAx.mp hy).elim (h2 y) fun z=>by rw[aAc] at z;rw[z];exact hm
 refine ⟨?_,fun y hy=>?_,fun y hy=>hr y (List.mem_of_mem_drop hy)⟩
 · show (s.way ++ (s.rows ++ [m]).take k).length + ((s.rows ++ [m]).drop k).length=_
   rw[aAk,aAM,aB3,aAk]
   show _ + min k (s.rows.length + 1) + (s.rows.length + 1 - k)=_
   omega
 · rcases aAx.mp hy with z | z
   · exact h1 y z
   · exact hr y (aCO z)
structure D7(x:PT)(M:List Msg)(i:Nat):Prop where
 all:x.all=M.take i
 rl:x.hD=⟨M.take i,[],[]⟩
 r1:x.rs.rows.length + x.rs.out.length=i
 r2:∀m∈x.rs.rows,m∈M
 f1:(x.g "r").s.rows.length + (x.g "r").s.out.length=i
 f2:∀m∈(x.g "r").s.rows,m∈M
 fh:(x.g "r").h=Ot
 w1:x.ws.way.length + x.ws.rows.length=i
 w2:∀m∈x.ws.way,m∈M
 w3:∀m∈x.ws.rows,m∈M
 s1:x.lS=[]∨∃b,x.lS=[(("s" : Str),b)]
 s2:("s" : Str)∉x.lS.map (·.1)→x.fS "s" = Ot
 s3:x.fS "s" = ⟨M.take i,[],[]⟩
 s4:x.st=(M.take i).map fun m=>(("s" : Str),m)
 hb:x.hB=Ot
 k0:0≤x.kT
def Mw:Msg:=⟨9,"a","held"⟩
theorem Sm:LE Mw:=⟨by decide +kernel,by decide +kernel⟩
theorem aa8:Mw≠Y4:=fun h=>by
 have:("held" : Str) = "other":=aA2 Msg.x h
 exact absurd this (by decide +kernel)
section
variable{c:C7}(h:TxtA K mg c)
include h
theorem TxtA.mg_Teller:mg "Teller" = some (.ref c.CT):=h.R_Teller.mg_Teller
theorem TxtA.mg_Hearer:mg "Hearer" = some (.ref c.CH):=h.R_Hearer.mg_Hearer
theorem TxtA.mg_Fan:mg "Fan" = some (.ref c.CF):=h.R_Fan.mg_Fan
theorem TxtA.mg_Road:mg "Road" = some (.ref c.CR):=h.R_Road.mg_Road
theorem TxtA.mg_Sources:mg "Sources" = some (.ref c.CS):=h.R_Sources.mg_Sources
theorem TxtA.mg_Window:mg "Window" = some (.ref c.CW):=h.R_Window.mg_Window
theorem TxtA.mg_Relay:mg "Relay" = some (.ref c.CL):=h.R_Relay.mg_Relay
end
theorem aat{H:Hp}{a b:Addr}{xs ys:List V}{ds:List PyData}{Q:VK}(ha:H a=some (.lst xs))(hx:HasL H xs ds)(hb:H b=some (.lst ys))(hy:HasL H ys ds)(hs:SeqAt.shaped (.list ds)=true)(q:Q (.bl false) H):Zp (.ref a) (.ref b) H Q:=by
 refine ⟨_,_,Ic ha hx,Ic hb hy,hs,hs,?_⟩
 rw[aB5 _ (aBX.mp hs).1]
 exact q
theorem Uy{ps qs:List Addr}{l:Addr}{H H':Hp}(s:Stp ps H (l :: qs) H'):Stp ps H qs H':=s.weak (fun _ z=>z) fun c hc=>.inl (aAq _ hc)
end
end K90
namespace K90
open PySem L2
def VD(K:W.Frag):Sp:=fun vs H Q _=>∃(a:Addr) (ns:List Int),vs=[.ref a]∧SqL K H a (ns.map V.int)∧ns.length≤63∧∀H',Q (.bl true) H'
abbrev M7:Stmt:=IF 47
abbrev acl:List Str:=["_law_script","_law_messages_here","_law_before","_law_topics","_law_numbers","_law_teller","_law_hearer","_law_fan","_law_sources","_law_window","_law_road","_law_relay","_law_parts","_law_number","_law_topic","_law_text"]
theorem sc_law:FnScope acl ["_law_script"] (GV M7):=⟨rfl,rfl,rfl,by decide +kernel,rfl,by decide +kernel,by decide +kernel⟩
section
variable{P:Program}{w:World}{K:W.Frag}{mg:Str→Option Value}{base:Heap}
theorem aa6{f XA XO:Addr}{fd:FuncData}{c:C7}(F:Fun K "law" "law" M7 f fd)(T:Txt mg)(TC:TxtA K mg c)(c_l_drawn:Callee P w K mg base 2 "_law_drawn" ["_law_script","_law_k","_law_many"] (RX K))
 (c_l_messages:Callee P w K mg base 3 "_law_messages" ["_law_script","_law_at"] (Xi K))(c_l_lists_stand:Callee P w K mg base 6 "_law_lists_stand" ["_law_messages_here","_law_topics","_law_numbers"] S5)(c_l_ends:CalleeS P w K mg base 10 "_law_ends" ["_law_parts","_law_messages_here","_law_before"] (VF c))
 (i_Teller:CalleeI P w K mg base 1 c.CT ["self","keep"] (OY c.CT))(i_Hearer:CalleeI P w K mg base 1 c.CH ["self"] (Me c.CH))(i_Fan:CalleeI P w K mg base 3 c.CF ["self","keep"] (RV c.CF c.CT c.CR c.CH))(i_Sources:CalleeI P w K mg base 1 c.CS ["self"] (RM c.CS c.CH))(i_Window:CalleeI P w K mg base 1 c.CW ["self","room"] (RQ c.CW))(i_Road:CalleeI P w K mg base 1 c.CR ["self","size","way"] (OZ c.CR))(i_Relay:CalleeI P w K mg base 2 c.CL ["self","keep"] (Pj c.CL))
 (mx_lay:CalleeMX P w K mg base 3 c.CF "lay" ["self","name","size","way"] (O0 c.CF c.CT c.CR c.CH XA))(m_Teller_tell:CalleeM P w K mg base 1 c.CT "tell" ["self","topic","text"] (UB c.CT))(m_Fan_tell:CalleeM P w K mg base 5 c.CF "tell" ["self","topic","text"] (RT c.CF c.CT c.CR c.CH))(m_Road_put:CalleeM P w K mg base 4 c.CR "put" ["self","message"] (Xh c.CR))(m_Window_put:CalleeM P w K mg base 3 c.CW "put" ["self","message"] (VB c.CW))(mx_Relay_take:CalleeMX P w K mg base 4 c.CL "take" ["self","message"] (Md c.CL XO))(mx_Sources_take:CalleeMX P w K mg base 5 c.CS "take" ["self","source","message"] (MX c.CS c.CH XO))(mx_Hearer_take_all:CalleeMX P w K mg base 3 c.CH "take_all" ["self","messages"] (ME c.CH XO))(mx_Hearer_take:CalleeMX P w K mg base 4 c.CH "take" ["self","message"] (Md c.CH XO)) :
 FnOkS P w K mg base Jg 11 f fd ["_law_script"] (VD K):=by
 refine F.okS sc_law (fun vs H Q E h=>?_) (fun cdv A0 outer s0 H vs Q E hr h=>?_)
 · obtain⟨a,ns,rfl,_⟩:=h;rfl
 · obtain ⟨a, ns,rfl,hS,hlen,q⟩:=h
   refine ⟨_,(GX (Hs (i:=1) sc_law.nd rfl (Or.inl rfl) (HE c_l_messages (hr.mono (by decide)) (G0 (pv 0) (GW G9 GZ))))
    (GX (Hs (i:=2) sc_law.nd rfl (Or.inl rfl) (ID (IP K) (by rfl) T.b_list aAN (G0 (pv 1) GZ)))
    (GX (Hs (i:=3) sc_law.nd rfl (Or.inl rfl) (HJ (GW Hw GZ)))
    (GX (Hs (i:=4) sc_law.nd rfl (Or.inl rfl) (HJ (GW G9 (GW G9 (GW G9 GZ)))))
    (GX (IA (XE (UN (HE c_l_lists_stand (hr.mono (by decide)) (G0 (pv 1) (GW (pv 3) (GW (pv 4) GZ)))))) (G4 (Hh Lr)) HP)
    (GX (IA (PW.pt (PJ (Hu (NR hr.units) (pv 1) (pv 2) (Hy _)) (PJ (Hu (NR hr.units) (pv 3) (HJ (GW Hw GZ)) (Hy _)) (NM (Hu (NR hr.units) (pv 4) (HJ (GW G9 (GW G9 (GW G9 GZ)))) (Hy _)))))) (G4 (Hh Lr)) HP)
    (GX (Hs (i:=5) sc_law.nd rfl (Or.inl rfl) (LL i_Teller (hr.mono (by decide)) TC.mg_Teller (G0 (HE c_l_drawn (hr.mono (by decide)) (G0 (pv 0) (GW G9 (GW G9 GZ)))) GZ)))
    (GX (Hs (i:=6) sc_law.nd rfl (Or.inl rfl) (Nr i_Hearer (hr.mono (by decide)) TC.mg_Hearer))
    (GX (Hs (i:=7) sc_law.nd rfl (Or.inl rfl) (LL i_Fan (hr.mono (by decide)) TC.mg_Fan (G0 G9 GZ)))
    (GX (Hs (i:=8) sc_law.nd rfl (Or.inl rfl) (Nr i_Sources (hr.mono (by decide)) TC.mg_Sources))
    (GX (Hs (i:=9) sc_law.nd rfl (Or.inl rfl) (LL i_Window (hr.mono (by decide)) TC.mg_Window (G0 G9 GZ)))
    (GX (Hs (i:=10) sc_law.nd rfl (Or.inl rfl) (LL i_Road (hr.mono (by decide)) TC.mg_Road (G0 G9 (GW Hw GZ))))
    (GX (Hs (i:=11) sc_law.nd rfl (Or.inl rfl) (LL i_Relay (hr.mono (by decide)) TC.mg_Relay (G0 G9 GZ)))
    (GX (Hs (i:=12) sc_law.nd rfl (Or.inl rfl) (Iw (GW (pv 5) (GW (pv 6) (GW (pv 7) (GW (pv 8) (GW (pv 9) (GW (pv 10) (GW (pv 11) GZ)))))))))
    (GX (Hr (Hz mx_lay TC.cl_Fan (hr.mono (by decide)) Ia (pv 7) (G0 Hw (GW G9 (GW Hw GZ)))))
    (GX (J5 aBc rfl (HQ K (pv 1)) (V0 K rfl (HG (Hn (i:=13) sc_law.nd rfl (Or.inl rfl)) (HG (Hn (i:=14) sc_law.nd rfl (Or.inl rfl)) (HG (Hn (i:=15) sc_law.nd rfl (Or.inl rfl)) O3)))) (GX (Hr (JS m_Teller_tell TC.cl_Teller (hr.mono (by decide)) (pv 5) (G0 (pv 14) (GW (pv 15) GZ))))
    (GX (Hr (JS m_Fan_tell TC.cl_Fan (hr.mono (by decide)) (pv 7) (G0 (pv 14) (GW (pv 15) GZ))))
    (GX (Hr (JS m_Road_put TC.cl_Road (hr.mono (by decide)) (pv 10) (G0 (Iw (GW (pv 13) (GW (pv 14) (GW (pv 15) GZ)))) GZ)))
    (GX (Hr (JS m_Window_put TC.cl_Window (hr.mono (by decide)) (pv 9) (G0 (Iw (GW (pv 13) (GW (pv 14) (GW (pv 15) GZ)))) GZ)))
    (GX (Hr (Hz mx_Relay_take TC.cl_Relay (hr.mono (by decide)) Ia (pv 11) (G0 (Iw (GW (pv 13) (GW (pv 14) (GW (pv 15) GZ)))) GZ)))
    (G4 (Hr (Hz mx_Sources_take TC.cl_Sources (hr.mono (by decide)) Ia (pv 8) (G0 Hw (GW (Iw (GW (pv 13) (GW (pv 14) (GW (pv 15) GZ)))) GZ)))))))))))
    (GX (Hr (Hz mx_Hearer_take_all TC.cl_Hearer (hr.mono (by decide)) Ia (pv 6) (G0 (pv 1) GZ)))
    (GX (IA (Hu (NR hr.units) (pv 1) (pv 2) (Hy _)) (G4 (Hh Lr)) HP)
    (GX (Hr (Hz mx_Hearer_take TC.cl_Hearer (hr.mono (by decide)) Ia (pv 6) (G0 (Iw (GW G9 (GW Hw (GW Hw GZ)))) GZ)))
    (GX (Hr (Hz mx_Sources_take TC.cl_Sources (hr.mono (by decide)) Ia (pv 8) (G0 Hw (GW (Iw (GW G9 (GW Hw (GW Hw GZ)))) GZ))))
    (G4 (Hh (YY c_l_ends (hr.mono (by decide)) (G0 (pv 12) (GW (pv 1) (GW (pv 2) GZ)))))))))))))))))))))))))),?_⟩
   refine ⟨_,rfl,a,ns,rfl,hS,hlen,fun lm ym M H1 s1 nlm elm mm hM6 hR ok=>?_⟩
   refine ⟨_,rfl,lm,ym,rfl,.inl (SqL.ofL elm),fun lb nlb=>?_⟩
   have g2:=Same.new (o:=.lst ym) nlb
   have elb:=GU (H:=H1) (a:=lb) (o:=.lst ym)
   have nlbm:lb≠lm:=fun z=>by rw[z,elm] at nlb;cases nlb
   generalize Hq H1 lb (.lst ym)=H2 at g2 elb ⊢
   refine ⟨(show 1≤sizeLine by decide),fun lt nlt=>?_⟩
   have g3:=Same.new (o:=.lst [V.str "a"]) nlt
   have elt:=GU (H:=H2) (a:=lt) (o:=.lst [V.str "a"])
   generalize Hq H2 lt (.lst [V.str "a"])=H3 at g3 elt ⊢
   refine ⟨(show 3≤sizeLine by decide),fun ln nln=>?_⟩
   have g4:=Same.new (o:=.lst [V.int 1,V.int 3,V.int 7]) nln
   have eln:=GU (H:=H3) (a:=ln) (o:=.lst [V.int 1,V.int 3,V.int 7])
   generalize Hq H3 ln (.lst [V.int 1,V.int 3,V.int 7])=H4 at g4 eln ⊢
   have s24:=g3.trans g4
   have s14:=g2.trans s24
   refine ⟨_,rfl,_,rfl,_,rfl,lm,lt,ln,ym,M,rfl,s14 _ _ elm,mm.same s14,g4 _ _ elt,eln,hM6,hR,ok,fun H5 s5=>⟨_,rfl,Jj ?_⟩⟩
   have s15:=s14.trans s5
   have s25:=s24.trans s5
   have elm5:=s15 _ _ elm
   have mm5:=mm.same s15
   have elb5:=s25 _ _ elb
   have elt5:=s5 _ _ (g4 _ _ elt)
   have eln5:=s5 _ _ eln
   have s05:=s1.trans s15
   clear s15 s25 s14 s24 g2 g3 g4 s5 s1 elm mm elb elt eln
   refine ⟨_,rfl,_,rfl,aas elm5 mm5 elb5 mm5 ok ⟨_,rfl,Jj ?_⟩⟩
   refine ⟨_,rfl,(show 1≤sizeLine by decide),fun k1 nk1=>?_⟩
   have g6:=Same.new (o:=.lst [V.str "a"]) nk1
   refine aat (ds:=[.str "a"]) (g6 _ _ elt5) (Hi (Kw _) HH) GU (Hi (Kw _) HH) (by decide +kernel) ⟨_,rfl,Jj ?_⟩
   refine ⟨_,rfl,(show 3≤sizeLine by decide),fun k2 nk2=>?_⟩
   have g7:=Same.new (o:=.lst [V.int 1,V.int 3,V.int 7]) nk2
   refine aat (ds:=[.int 1,.int 3,.int 7]) (g7 _ _ (g6 _ _ eln5)) (Jy [1,3,7]) GU (Jy [1,3,7]) (by decide +kernel) ⟨_,rfl,Jj ?_⟩
   replace g7:=g6.trans g7
   generalize Hq (Hq H5 k1 (.lst [V.str "a"])) k2 (.lst [V.int 1,V.int 3,V.int 7])=H6 at g7 ⊢
   have s06:=s05.trans g7
   refine ⟨_,rfl,a,ns,20,6,rfl,s06.seq hS,hlen,by decide,by decide,fun H7 s7=>?_⟩
   have hk0:=No ns 20 (m:=6) (by decide)
   generalize Qo ns 20 6=kT at hk0 ⊢
   replace s7:=g7.trans s7
   replace elm5:=s7 _ _ elm5
   replace elb5:=s7 _ _ elb5
   replace mm5:=mm5.same s7
   have a0:Ap H7 [[lm,lb]]:=Ap.one fun b hb=>by
    simp only[aAg,aAa,aBa] at hb
    rcases hb with rfl | rfl
    · exact ⟨_,elm5⟩
    · exact ⟨_,elb5⟩
   clear s06 s05 s7 g7 g6
   intro tp dx1 np1 nd1 nx1
   have o1:=Stp.obj (o:=.own tp) (o':=.ins c.CT dx1 []) np1 nd1
   refine ⟨tp,dx1,_,rfl,GU,fun ts td H8 nts ntd TA kp=>⟨rfl,?_⟩⟩
   have mk1:Stp [] H7 [tp,ts,td] H8:=by
    have sm:Same H7 H8:=fun b o e=>kp b o (o1.same _ _ e) fun z=>by rw[z,np1] at e;cases e
    refine ⟨(sm.step []).1,(sm.step []).2,fun b hb=>.inr ?_⟩
    simp only[aAg,aAa,aBa] at hb
    rcases hb with rfl | rfl | rfl
    · exact np1
    · exact o1.free nts aAa
    · exact o1.free ntd aAa
   have a1:=a0.add mk1 TA.live
   intro p2 dx2 np2 nd2 nx2
   have o2:=Stp.obj (o:=.own p2) (o':=.ins c.CH dx2 []) np2 nd2
   refine ⟨p2,dx2,rfl,GU,fun B H9 ep2 hB st2=>⟨rfl,?_⟩⟩
   subst ep2
   have mk2:Stp [] H8 B.fp H9:=o2.trans st2
   have a2:=a1.add mk2 hB.live
   intro p3 dx3 np3 nd3 nx3
   have o3:=Stp.obj (o:=.own p3) (o':=.ins c.CF dx3 []) np3 nd3
   refine ⟨p3,dx3,_,rfl,GU,fun A H10 ep3 hF st3=>⟨rfl,?_⟩⟩
   subst ep3
   have mk3:Stp [] H9 A.own H10:=o3.trans st3
   obtain⟨g0,hg0⟩:∃g0:Str→FE,g0=fun _=>⟨0,0,0,0,"",⟨[],[],false⟩,⟨0,0,0,0,0⟩,Ot⟩:=⟨_,rfl⟩
   clear hg0
   have a3:=a2.add mk3 fun b hb=>(hF g0).live b (aAj _ hb)
   intro p4 dx4 np4 nd4 nx4
   have o4:=Stp.obj (o:=.own p4) (o':=.ins c.CS dx4 []) np4 nd4
   refine ⟨p4,dx4,rfl,GU,fun S H11 ep4 hS4 st4=>⟨rfl,?_⟩⟩
   subst ep4
   have mk4:Stp [] H10 S.own H11:=o4.trans st4
   have a4:=a3.add mk4 fun b hb=>(hS4 fun _=>Ot).live b (aAj _ hb)
   intro p5 dx5 np5 nd5 nx5
   have o5:=Stp.obj (o:=.own p5) (o':=.ins c.CW dx5 []) np5 nd5
   refine ⟨p5,dx5,_,rfl,GU,fun ww wr H12 hW st5=>⟨rfl,?_⟩⟩
   have mk5:Stp [] H11 [p5,ww,wr] H12:=o5.trans st5
   have a5:=a4.add mk5 (SL hW)
   intro p6 dx6 np6 nd6 nx6
   have o6:=Stp.obj (o:=.own p6) (o':=.ins c.CR dx6 []) np6 nd6
   refine ⟨p6,dx6,_,_,rfl,GU,fun rr rd H13 hRd st6=>⟨rfl,?_⟩⟩
   have mk6:Stp [] H12 [p6,rr,rd] H13:=o6.trans st6
   have a6:=a5.add mk6 (Tn hRd)
   intro p7 dx7 np7 nd7 nx7
   have o7:=Stp.obj (o:=.own p7) (o':=.ins c.CL dx7 []) np7 nd7
   refine ⟨p7,dx7,_,rfl,GU,fun D H14 ep7 hD st7=>⟨rfl,?_⟩⟩
   subst ep7
   have mk7:Stp [] H13 D.fp H14:=o7.trans st7
   have a7:=a6.add mk7 hD.live
   refine ⟨_,rfl,_,rfl,_,rfl,_,rfl,_,rfl,_,rfl,_,rfl,(show 7≤sizeLine by decide),fun pt npt=>?_⟩
   have g8:=Same.new (o:=.tup [V.ref tp,V.ref B.p,V.ref A.p,V.ref S.p,V.ref p5,V.ref p6,V.ref D.p]) npt
   have ept:=GU (H:=H14) (a:=pt) (o:=.tup [V.ref tp,V.ref B.p,V.ref A.p,V.ref S.p,V.ref p5,V.ref p6,V.ref D.p])
   generalize Hq H14 pt (.tup [V.ref tp,V.ref B.p,V.ref A.p,V.ref S.p,V.ref p5,V.ref p6,V.ref D.p])=H15 at g8 ept ⊢
   have v6:=mk7.same.trans g8
   have v5:=mk6.same.trans v6
   have v4:=mk5.same.trans v5
   have v3:=mk4.same.trans v4
   have v2:=mk3.same.trans v3
   have v1:=mk2.same.trans v2
   have v0:=mk1.same.trans v1
   have a8:=a7.same g8
   have hF15:=(hF g0).same v3
   obtain⟨dF,bF⟩:=hF15.ob
   refine ⟨_,rfl,A.p,dF,_,rfl,bF,Kb (.inr (.inr (.inr (.inr (.inr (.inr (.inr (.inr (.inr (.inr (.inr (.inr (.inl rfl))))))))))))),A,[],g0,9,[],"r",2,"cut",rfl,hF15,.inl ⟨aAa,by decide,fun e H16 hF16 esz eway es eh st16=>?_⟩⟩
   have st16':Stp A.own H15 (A.fp L1R (Lj g0 "r" e)) H16:=st16
   have hF17:FAt c.CF c.CT c.CR c.CH H16 A L1R (Lj g0 "r" e) 9 []:=hF16
   have eg:Lj g0 "r" e "r" = e:=HV
   have lym:=mm5.len
   obtain⟨x0,hx0⟩:∃x0:PT,x0=⟨tp,ts,td,kT,[],B,Ot,A,Lj g0 "r" e,S,[],fun _=>Ot,[],p5,ww,wr,⟨2,[],[],0⟩,p6,rr,rd,⟨[],[],false⟩,D,Ot⟩:=⟨_,rfl⟩
   have X0:PB c ⟨lm,lb,ym,ym,M,pt⟩ H16 x0 x0.all:=by
    subst hx0
    exact ⟨(TA.same v1).stp st16' (a8.ap 1 3 _ _ rfl rfl (by decide)),(hB.same v2).step st16' (a8.ap 2 3 _ _ rfl rfl (by decide)),hF17,((hS4 _).same v4).step st16' (a8.ap 4 3 _ _ rfl rfl (by decide)),(hW.same v5).step st16' (a8.ap 5 3 _ _ rfl rfl (by decide)),(hRd.step (v6.step []) fun _ _=>aAa).step st16' (a8.ap 6 3 _ _ rfl rfl (by decide)),(hD.same g8).step st16' (a8.ap 7 3 _ _ rfl rfl (by decide)),a8.set 3 rfl st16' hF17.live,
     st16'.keep (v0 _ _ elm5) (a8.ap 0 3 _ _ rfl rfl (by decide) _ (by simp)),(mm5.same v0).step st16',st16'.keep (v0 _ _ elb5) (a8.ap 0 3 _ _ rfl rfl (by decide) _ (by simp)),(mm5.same v0).step st16',st16'.tup _ _ ept⟩
   have D0:D7 x0 M 0:=by
    have f1:(Lj g0 "r" e "r").s.rows.length + (Lj g0 "r" e "r").s.out.length=0:=by rw[eg,es];rfl
    have f2:∀m∈(Lj g0 "r" e "r").s.rows,m∈M:=fun m hm=>by rw[eg,es] at hm;exact absurd hm aAa
    have f3:(Lj g0 "r" e "r").h=Ot:=by rw[eg];exact eh
    subst hx0
    exact ⟨rfl,rfl,rfl,fun m hm=>absurd hm aAa,f1,f2,f3,rfl,fun m hm=>absurd hm aAa,fun m hm=>absurd hm aAa,.inl rfl,fun _=>rfl,rfl,rfl,rfl,hk0⟩
   have hMn:∀m∈M,1≤m.n∧m.n≤6:=fun m hm=>by
    obtain⟨j,hj,rfl⟩:=aAS hm
    have:=hR j hj
    omega
   have hsub:∀i,∀m∈M.take i,m∈M:=fun i m hm=>aCO hm
   have hnx:∀i,i≤M.length→HS.next ⟨M.take i,[],[]⟩=(i:Int) + 1:=fun i hi=>by
    show ((M.take i).length:Int) + (0:Nat) + 1=_
    rw[aAM];omega
   have hun:∀x∈M,∀y∈M,x.n=y.n→x=y:=fun x hx y hy h=>by
    obtain⟨j,hj,rfl⟩:=aAS hx
    obtain⟨k,hk,rfl⟩:=aAS hy
    have h1:=hR j hj
    have h2:=hR k hk
    have:j=k:=by omega
    subst this;rfl
   have elx:some (V.ref x0.tp)=some (V.ref tp)∧x0.B.p=B.p∧x0.A.p=A.p∧x0.S.p=S.p∧x0.wp=p5∧x0.rp=p6∧x0.D.p=D.p:=by subst hx0;exact ⟨rfl,rfl,rfl,rfl,rfl,rfl,rfl⟩
   obtain⟨q1,q2,q3,q4,q5,q6,q7⟩:=elx
   clear hx0 a0 a1 a2 a3 a4 a5 a6 a7 a8 mk1 mk2 mk3 mk4 mk5 mk6 mk7 o1 o2 o3 o4 o5 o6 o7 st2 st3 st4 st5 st6 st7 v0 v1 v2 v3 v4 v5 v6 g8 ept hF hF15 hF16 hF17 st16 st16' TA hB hS4 hW hRd hD eg es eh esz eway kp mm5 elm5 elb5
   refine ⟨_,rfl,lm,rfl,⟨_,SqL.ofL X0.em⟩,JR (K:=K) (a:=lm) (xs:=ym) (fun i σ H'=>∃(o13 o14 o15:Option V) (x:PT),σ=[some (.ref a),some (.ref lm),some (.ref lb),some (.ref lt),some (.ref ln),some (.ref x.tp),some (.ref x.B.p),some (.ref x.A.p),some (.ref x.S.p),some (.ref x.wp),some (.ref x.rp),some (.ref x.D.p),some (.ref pt),o13,o14,o15]∧PB c ⟨lm,lb,ym,ym,M,pt⟩ H' x x.all∧D7 x M i)
    ⟨none,none,none,x0,by rw[q1,q2,q3,q4,q5,q6,q7];rfl,X0,D0⟩ (fun i σ H' _ ⟨_,_,_,x,_,X,_⟩=>SqL.ofL X.em) ?_ ?_⟩
   · rintro i y σ H' hi ⟨o13,o14,o15,x,rfl,X,d⟩
     have hin:i < M.length:=by
      have:=(aAn.mp hi).1
      omega
     obtain⟨k,ek,hk⟩:=X.mm.get hin
     rw[hi] at ek
     obtain rfl:=aAi ek
     have hmn:=hR i hin
     have hmM:=aAO hin
     have eT:M.take (i + 1)=M.take i ++ [M[i]]:=by rw[aAF,aAd hin];rfl
     generalize M[i]=m at hk hmn hmM eT
     have okm:=ok m hmM
     have hal:x.all.length=i:=by rw[d.all,aAM];omega
     have em:(⟨(x.all.length:Int) + 1,m.t,m.x⟩:Msg)=m:=by rw[hal,←hmn]
     refine ⟨k,_,rfl,SqT.ofT hk,rfl,_,_,rfl,_,_,rfl,_,_,rfl,rfl,?_⟩
     have hle:i≤M.length:=aCC hin
     have hil:(M.take i).length=i:=by rw[aAM];omega
     have hnm:m.n=HS.next ⟨M.take i,[],[]⟩:=by rw[hnx i hle];exact hmn
     have eTk:Ji ⟨M.take i,[],[]⟩ [m]=⟨M.take (i + 1),[],[]⟩:=by rw[Y9 rfl hnm,eT]
     have fit:Q2 ⟨M.take i,[],[]⟩ [m]:=⟨fun y hy z hz h=>by
      rw[aAc] at hy
      rw[hy] at h ⊢
      exact hz.elim (fun z'=>hun z (hsub i z z') m hmM h) fun z'=>absurd z' aAa,fun y hy z hz _=>by
      rw[aAc] at hy hz;rw[hy,hz]⟩
     obtain⟨eT',bT⟩:=X.t.ob
     refine ⟨_,rfl,x.tp,eT',_,rfl,bT,OM (.inl rfl),_,rfl,_,rfl,x.tp,m.t,m.x,x.kT,0,x.all,x.ts,x.td,rfl,X.t,by omega,d.k0,fun H1 n1 bu1=>?_⟩
     rw[em] at n1
     have X1:=X.tT n1 bu1
     obtain⟨eF,bF⟩:=X1.f.ob
     have hf1:=d.f1
     refine ⟨_,rfl,x.A.p,eF,_,rfl,bF,Kb (.inr (.inr (.inr (.inr (.inl rfl))))),_,rfl,_,rfl,x.A,L1R,x.g,9,x.all,m.t,m.x,rfl,X1.f,by omega,by decide,by decide,fun n hn=>?_,fun g' H2 n2 fp2 st2=>?_⟩
     · unfold L1R at hn
       rw[aAc] at hn
       rw[hn];omega
     rw[em] at n2 fp2
     have X2:=X1.tF n2 st2
     have F2:=fp2 "r" rL1
     obtain⟨eR,bR⟩:=X2.r.ob
     refine ⟨_,rfl,x.rp,eR,_,rfl,bR,VR (.inl rfl),_,rfl,_,rfl,_,rfl,(show 3≤sizeLine by decide),fun k3 nk3=>?_⟩
     have s3:=Same.new (o:=mT m) nk3
     have X3:=X2.same s3
     have hr1:=d.r1
     refine ⟨x.rp,k3,m,2,"old",x.rs,x.rr,x.rd,rfl,X3.r,GU,by omega,by omega,fun r' H4 n4 st4=>?_⟩
     have X4:=X3.tR n4 st4
     obtain⟨eW,bW⟩:=X4.w.ob
     refine ⟨_,rfl,x.wp,eW,_,rfl,bW,TD (.inl rfl),_,rfl,_,rfl,_,rfl,(show 3≤sizeLine by decide),fun k5 nk5=>?_⟩
     have s5:=Same.new (o:=mT m) nk5
     have X5:=X4.same s5
     have hw1:=d.w1
     refine ⟨x.wp,k5,m,x.ws,x.ww,x.wr,rfl,X5.w,GU,by omega,fun l6 y6 w' r6 H6 n6 st6 _ _ _ _=>?_⟩
     have X6:=X5.tW n6 st6
     obtain⟨eL,bL⟩:=X6.l.ob
     refine ⟨_,rfl,x.D.p,eL,_,rfl,bL,Ni X6.l (.inr (.inr (.inr (.inr (.inl rfl))))),_,rfl,_,rfl,_,rfl,(show 3≤sizeLine by decide),fun k7 nk7=>?_⟩
     have s7:=Same.new (o:=mT m) nk7
     have X7:=X6.same s7
     have hd7:x.hD=⟨M.take i,[],[]⟩:=d.rl
     refine ⟨x.D,x.hD,WF 3,k7,m,rfl,X7.l,GU,okm,fun z hz=>?_,by rw[hd7];exact aBk,by rw[hd7];show (M.take i).length + 0 + 0 < 1000;omega,.inl ⟨by rw[hd7];exact fit,fun l8 y8 fo8 H8 n8 _ st8 _ _ _ _=>?_⟩⟩
     · rw[hd7] at hz
       exact hz.elim (fun z'=>ok z (hsub i z z')) fun z'=>absurd z' aAa
     rw[hd7,eTk] at n8
     have X8:=X7.tL n8 (Uy st8)
     obtain⟨eS,bS⟩:=X8.s.ob
     refine ⟨_,rfl,x.S.p,eS,_,rfl,bS,P6 (.inl rfl),_,rfl,_,rfl,_,rfl,(show 3≤sizeLine by decide),fun k9 nk9=>?_⟩
     have s9:=Same.new (o:=mT m) nk9
     have X9:=X8.same s9
     have hd9:x.fS "s" = ⟨M.take i,[],[]⟩:=d.s3
     have hst:x.st.length=i:=by rw[d.s4,aAf];exact hil
     have hll:x.lS.length≤1:=by
      rcases d.s1 with e | ⟨b,e⟩ <;> rw[e] <;> simp
     refine ⟨x.S,x.lS,x.fS,x.st,"s",k9,m,rfl,X9.s,GU,d.s2,okm,fun z hz=>?_,by rw[hd9];exact aBk,by rw[hd9];show (M.take i).length + 0 + 0 < 1000;omega,by omega,by omega,.inl ⟨by rw[hd9];exact fit,by rw[hd9,eTk];show (M.take (i + 1)).length < 1000;rw[aAM];omega,fun l' fo10 H10 n10 hf st10 hl=>?_⟩⟩
     · rw[hd9] at hz
       exact hz.elim (fun z'=>ok z (hsub i z z')) fun z'=>absurd z' aAa
     rw[hd9,eTk] at n10 hf
     have hfo:fo10=[m]:=by
      have h:M.take (i + 1)=M.take i ++ fo10:=hf
      rw[eT] at h
      exact (List.append_cancel_left h).symm
     subst hfo
     have X10:=X9.tS n10 st10
     have hl':∃b,l'=[(("s" : Str),b)]:=by
      rcases d.s1 with e | ⟨b,e⟩
      · rcases hl with ⟨h1,_⟩ | ⟨_,b,h2⟩
        · rw[e] at h1;exact absurd h1 aAa
        · exact ⟨b,by rw[h2,e];rfl⟩
      · rcases hl with ⟨_,h2⟩ | ⟨h1,_⟩
        · exact ⟨b,by rw[h2,e]⟩
        · rw[e] at h1;exact absurd (aAc.mpr rfl) h1
     have G1:=Tf (sz:=2) (way:="old") d.r1 d.r2 hmM
     have G2:=Tf (sz:=(x.g "r").sz) (way:=(x.g "r").way) d.f1 d.f2 hmM
     rw[←F2.s] at G2
     have G3:=abf d.w1 d.w2 d.w3 hmM
     have e1:x.all ++ [m]=M.take (i + 1):=by rw[d.all,eT]
     have e2:x.st ++ [m].map (fun m=>(("s" : Str),m))=(M.take (i + 1)).map fun m=>(("s" : Str),m):=by rw[d.s4,eT,aAy]
     have e3:LY x.fS "s" ⟨M.take (i + 1),[],[]⟩ "s" = ⟨M.take (i + 1),[],[]⟩:=NA
     obtain⟨b,hb⟩:=hl'
     exact ⟨_,_,_,{ x with all:=x.all ++ [m],g:=g',rs:=JC 2 "old" x.rs m,rr:=r',ws:=goS { x.ws with rows:=x.ws.rows ++ [m] },ww:=w',wr:=r6,hD:=⟨M.take (i + 1),[],[]⟩,lS:=l',fS:=LY x.fS "s" ⟨M.take (i + 1),[],[]⟩,st:=x.st ++ [m].map fun m=>(("s" : Str),m) },rfl,X10,⟨e1,rfl,G1.1,G1.2,G2.1,G2.2,F2.h.trans d.fh,G3.1,G3.2.1,G3.2.2,.inr ⟨b,hb⟩,fun z=>absurd (show ("s" : Str)∈l'.map (·.1) by rw[hb];exact aAc.mpr rfl) z,e3,e2,d.hb,d.k0⟩⟩
   · rintro σ H' ⟨o13,o14,o15,x,rfl,X,d⟩
     rw[lym] at d
     have hT:M.take M.length=M:=aAW
     have hall:=d.all
     have hrl:=d.rl
     have hs3:=d.s3
     have hs4:=d.s4
     rw[hT] at hall hrl hs3 hs4
     have hhb:=d.hb
     have hnM:HS.next ⟨M,[],[]⟩=(M.length:Int) + 1:=by have:=hnx M.length (aAh _);rw[hT] at this;exact this
     have tk:=Tk.start.take hR (ms:=M) fun m h=>h
     obtain⟨tk1,tk2⟩:=tk.all hR fun m hm=>.inr hm
     have tk3:=tk.lost
     have eTk:Ji Ot M=⟨M,[],[]⟩:=by
      generalize Ji Ot M=s at tk1 tk2 tk3
      obtain⟨s1,s2,s3⟩:=s
      subst tk1 tk2 tk3;rfl
     obtain⟨eH,bH⟩:=X.h.ob
     refine ⟨_,rfl,x.B.p,eH,_,rfl,bH,Lh X.h (.inr (.inr (.inl rfl))),_,rfl,x.B,x.hB,[],lm,ym,M,rfl,X.h,X.em,X.mm,by omega,ok,fun z hz=>?_,by rw[hhb];exact aBk,by rw[hhb];decide,.inl ⟨by rw[hhb];exact Tk.start.fits hR fun m h=>h,fun l1 y1 fo1 H1 n1 _ st1 _ _ _ _=>?_⟩⟩
     · rw[hhb] at hz
       exact hz.elim (fun z'=>absurd z' aAa) fun z'=>absurd z' aAa
     rw[hhb,eTk] at n1
     have X1:=X.tH n1 (Uy st1)
     refine ⟨_,rfl,_,rfl,aas X1.em X1.mm X1.eb X1.mb ok ⟨_,rfl,Jj ?_⟩⟩
     have eHd:Ji ⟨M,[],[]⟩ [Mw]=⟨M,[Mw],[]⟩:=Wh rfl (by rw[hnM];show _ < (9:Int);omega)
     have fit:Q2 ⟨M,[],[]⟩ [Mw]:=⟨fun y hy z hz h=>by
      rw[aAc] at hy
      rw[hy] at h
      refine hz.elim (fun z'=>?_) fun z'=>absurd z' aAa
      have:=hMn z z'
      have h9:z.n=9:=h
      omega,fun y hy z hz _=>by
      rw[aAc] at hy hz;rw[hy,hz]⟩
     have okz:∀z,z∈M∨z∈([]:List Msg)→LE z:=fun z hz=>hz.elim (ok z) fun z'=>absurd z' aAa
     obtain⟨eH1,bH1⟩:=X1.h.ob
     refine ⟨_,rfl,x.B.p,eH1,_,rfl,bH1,Lh X1.h (.inr (.inl rfl)),(show 3≤sizeLine by decide),fun k2 nk2=>?_⟩
     have s2:=Same.new (o:=mT Mw) nk2
     have X2:=X1.same s2
     refine ⟨x.B,⟨M,[],[]⟩,[],k2,Mw,rfl,X2.h,GU,Sm,okz,aBk,by show M.length + 0 + 0 < 1000;omega,.inl ⟨fit,fun l3 y3 fo3 H3 n3 _ st3 _ _ _ _=>?_⟩⟩
     rw[eHd] at n3
     have X3:=X2.tH n3 (Uy st3)
     obtain⟨eS,bS⟩:=X3.s.ob
     have hll:x.lS.length≤1:=by
      rcases d.s1 with e | ⟨b,e⟩ <;> rw[e] <;> simp
     have hst:x.st.length=M.length:=by rw[hs4,aAf]
     refine ⟨_,rfl,x.S.p,eS,_,rfl,bS,P6 (.inl rfl),(show 3≤sizeLine by decide),fun k4 nk4=>?_⟩
     have s4:=Same.new (o:=mT Mw) nk4
     have X4:=X3.same s4
     refine ⟨x.S,x.lS,x.fS,x.st,"s",k4,Mw,rfl,X4.s,GU,d.s2,Sm,by rw[hs3];exact okz,by rw[hs3];exact aBk,by rw[hs3];show M.length + 0 + 0 < 1000;omega,by omega,by omega,.inl ⟨by rw[hs3];exact fit,by rw[hs3,eHd];show M.length < 1000;omega,fun l' fo5 H5 n5 hf st5 hl=>?_⟩⟩
     rw[hs3,eHd] at n5 hf
     have hfo:fo5=[]:=by
      have h:M=M ++ fo5:=hf
      have:=aA2 List.length h
      rw[aAk] at this
      exact aBE.mp (by omega)
     subst hfo
     have X5:=X4.tS n5 st5
     have hl':∃b,l'=[(("s" : Str),b)]:=by
      rcases d.s1 with e | ⟨b,e⟩
      · rcases hl with ⟨h1,_⟩ | ⟨_,b,h2⟩
        · rw[e] at h1;exact absurd h1 aAa
        · exact ⟨b,by rw[h2,e];rfl⟩
      · rcases hl with ⟨_,h2⟩ | ⟨h1,_⟩
        · exact ⟨b,by rw[h2,e]⟩
        · rw[e] at h1;exact absurd (aAc.mpr rfl) h1
     obtain⟨b,hb⟩:=hl'
     have e3:LY x.fS "s" ⟨M,[Mw],[]⟩ "s" = ⟨M,[Mw],[]⟩:=NA
     have dfH:Diff [Mw]:=by unfold Diff;simp
     have cl:Ox ⟨M,[Mw],[]⟩ Y4:=⟨Mw,.inr (aAc.mpr rfl),rfl,aa8⟩
     have okH:∀m,m∈M∨m∈[Mw]→LE m:=fun m hm=>hm.elim (ok m) fun z=>by rw[aAc] at z;rw[z];exact Sm
     have hfh:=d.fh
     have hf1:=d.f1
     have hw1:=d.w1
     have hr1:=d.r1
     have hag:∀m∈M,Q2 ⟨M,[Mw],[]⟩ [m]∧Ji ⟨M,[Mw],[]⟩ [m]=⟨M,[Mw],[]⟩:=fun m hm=>by
      have h1:=hMn m hm
      refine ⟨⟨fun y hy z hz h=>?_,fun y hy z hz _=>by rw[aAc] at hy hz;rw[hy,hz]⟩,Uw ?_ ?_⟩
      · rw[aAc] at hy
        rw[hy] at h ⊢
        refine hz.elim (fun z'=>hun z z' m hm h) fun z'=>?_
        have z'':z∈[Mw]:=z'
        rw[aAc] at z''
        rw[z''] at h
        have:(9:Int)=m.n:=h
        omega
      · obtain⟨j,hj,rfl⟩:=aAS hm
        have h2:=hR j hj
        show _ < HS.next ⟨M,[],[]⟩
        rw[hnM];omega
      · rw[findN_none]
        intro z hz
        have hz':z∈[Mw]:=hz
        rw[aAc] at hz'
        rw[hz']
        show (9:Int)≠HS.next ⟨M,[],[]⟩
        rw[hnM];omega
     have hnx9:(0:Int) < HS.next ⟨M,[Mw],[]⟩:=by show (0:Int) < HS.next ⟨M,[],[]⟩;rw[hnM];omega
     have hnx8:(0:Int) < HS.next ⟨M,[],[]⟩:=by rw[hnM];omega
     obtain⟨x5,hx5⟩:∃x5:PT,x5={ x with hB:=⟨M,[Mw],[]⟩,lS:=l',fS:=LY x.fS "s" ⟨M,[Mw],[]⟩,st:=x.st ++ ([]:List Msg).map fun m=>(("s" : Str),m) }:=⟨_,rfl⟩
     have X6:PB c ⟨lm,lb,ym,ym,M,pt⟩ H5 x5 x5.all:=by subst hx5;exact X5
     have G : G7 x5:=by
      subst hx5
      exact { ln:=by show x.all.length≤6;rw[hall];exact hM6
              rows:=by show Rows x.all;rw[hall];exact hR
              ok:=by show ∀m∈x.all,LE m;rw[hall];exact ok
              k0:=d.k0
              b1:=⟨by show M.length + 0≤20;omega,by show 1≤20;omega⟩
              b2:=fun m hm=>by
               have hm':m∈[Mw]:=hm
               rw[aAc] at hm'
               rw[hm']
               exact ⟨by decide,by decide,Sm⟩
              b5:=⟨hnx9,dfH⟩
              b3:=hR.rise
              b4:=ok
              f1:=fun m hm=>by
               have hm':m∈(x.g "r").h.heard:=hm
               rw[hfh] at hm';exact absurd hm' aAa
              f2:=fun m hm=>ok m (d.f2 m hm)
              f3:=by
               show (x.g "r").h.heard.length≤20∧(x.g "r").h.lost.length≤20∧(x.g "r").s.rows.length≤20
               rw[hfh]
               exact ⟨by decide,by decide,by omega⟩
              s1:=by show l'.length≤5;rw[hb];simp
              s3:=by show (x.st ++ []).length≤20;rw[aBl];omega
              s2:=fun e he=>by
               have he':e∈x.st ++ []:=he
               rw[aBl,hs4] at he'
               obtain⟨m,hm,rfl⟩:=aA6.mp he'
               exact ⟨(by decide +kernel:PyData.strOk "s" = true),ok m hm⟩
              w1:=fun m hm=>ok m (d.w2 m hm)
              w2:=fun m hm=>ok m (d.w3 m hm)
              w3:=⟨by show x.ws.way.length≤20;omega,by show x.ws.rows.length≤20;omega⟩
              r1:=fun m hm=>ok m (d.r2 m hm)
              r2:=⟨by show x.rs.rows.length≤20;omega,by show x.rs.out.length≤20;omega⟩
              l1:=by show x.hD.heard.length≤20;rw[hrl];show M.length≤20;omega
              l2:=by show ∀m∈x.hD.heard,LE m;rw[hrl];exact ok
              l3:=by show 0 < x.hD.next;rw[hrl];exact hnx8 }
     have R : R7 x5:=by
      subst hx5
      exact { ch:=cl
              cs:=by show Ox (LY x.fS "s" ⟨M,[Mw],[]⟩ "s") Y4;rw[e3];exact cl
              sl:=by show ("s" : Str)∈l'.map (·.1);rw[hb];exact aAc.mpr rfl
              s4:=by show ∀m,m∈(LY x.fS "s" ⟨M,[Mw],[]⟩ "s").heard∨m∈(LY x.fS "s" ⟨M,[Mw],[]⟩ "s").held→LE m;rw[e3];exact okH
              s5:=by
               show Diff (LY x.fS "s" ⟨M,[Mw],[]⟩ "s").held∧(LY x.fS "s" ⟨M,[Mw],[]⟩ "s").heard.length + (LY x.fS "s" ⟨M,[Mw],[]⟩ "s").held.length + (LY x.fS "s" ⟨M,[Mw],[]⟩ "s").lost.length < 1000
               rw[e3]
               exact ⟨dfH,by show M.length + 1 + 0 < 1000;omega⟩
              wn:=fun hm=>by
               obtain⟨m,h1,h2⟩:=aA6.mp hm
               have:=hMn m (d.w2 m h1)
               omega }
     have hB5:x5.hB=⟨M,[Mw],[]⟩:=by subst hx5;rfl
     refine ⟨_,rfl,_,rfl,_,rfl,x5,pt,lm,lb,ym,ym,rfl,X6.pt,X6.p7,G,R,X6.em,by omega,X6.eb,by rw[hB5];exact X6.mb,nlbm,X6.nf,by rw[hB5];exact hag,fun H'=>q H'⟩
end
end K90
namespace K90
open PySem L2
theorem all_mk{l:W.OpenLaw}{w:World}{K:W.Frag}{h:Heap}{mg:Str→Option Value}{fa f0 f1 f2 f3 f4 f5 f6 f7 f8 f9 fO gC fY gI fK fe fw fL gQ fV cY eV eD ef eJ gH fz fc gA gS cU dv fB gK fN dz dt fF ff dW gN gv ft gU fX gJ fq cW dg fC fJ dE dq cZ eZ ed dm fu cS dX gR cF dU cR dI gE fQ dL eP dZ dD mB kQ jZ oC qL pf kd ku qd kY mY kH lW iN rX ir qD ac aa af ad ae ag ah XT XN XR XA XO:Addr}(X:K.In h)(G:h.Ns mainGlobals mg)(hfa:mg "law" = some (.ref fa))
 {FS GN GQ FJ Fm GO GL Go Fs Ge Fv Gi GK FF FH Gd FD Fq FL GH uS Es BQ yu we wL uh BE CK Bq B8 yf Ak xu zO vg Bd tG t9 yi B3 vq Av Fg vp xq vW zn uc EF vC yt ua vQ u7 DE Eb zA zr xS xW A2 zH uO uH CM zK y7 En DB Af xA BM uM Cm wK vY BX uX zM Dl xm Fl ER DQ BN wR tq AG Df Fk wY zw Cj DJ B2 Bv xV uK Aa Au Em tU yC wA DP tu Db Ev Ca Dt EQ zk zN xY xT AV vM ya xM xI CA Br AH uJ DT vK Ff CJ uP E7 Bj zv Ar uu vd Eg DF uv vm Ec yv yn BB tE xt uZ A5 zl Bk Dw yo An w6 uI uo wE zZ Fd A3 CI vP zq Ck yH Ea Da zQ EW Fa Bz BY DU xD yM js:Option Addr}{GB Ga GM Gm Fx GP GS GI Gh FP wW Dh CV Ej sL zU A8 vz wz wI vn CG u3 uQ ui Cp zE xP Cu uk za wP DD yT Aw Bo yz wq wB zz Cf vi EC zR EO xL wm Cq yW De tz Ao BD tX x8 sX Bl vy yG B7 Fb wb Ei w9 yP B0 u8 AD zT vt vf yB yc xn yY y9 tY yJ vR DK wV As Ac t0 yx vS Cr xf:Array (Option Value)}{GG Gg Fu GA sv Gv Gy FT Gw Gj sE FO FQ FG FC FW sG FU Ft Fy FM FR sA Gb GC Fn FY Fw sJ Gc FK Gk GF FB su FV GT GJ Gq FX sw GD FN Gu Fz Gs sB Gz Fo GR Gx Gp sx FI GE Gn Gf FZ sI Gr z8 AI sY Fc rV tM wj Ad AJ EX jm Dn Ex yg Ax Cs pX Bt t8 Ek u5 wM lT Cg tN yy BA uR jS wo Cd DV CY yA mX BL Cw El wJ EK mU AW Ae E3 E6 Fj iu yU xj wu xp zc nQ vI uA Ds xi w8 i4 Fe BG BR EE Fh qV tK xc Cb yk Do jv DX yj BT yF Ct qa wv Ch wd wC wa lE Dr t7 AZ yZ xJ jV AE Di Ba vE Bf j5 ze AS vx xh BF ow EJ EZ At Du Bg lU ul EG xG CC wQ pG BC u0 wX wT CD lq yS By EU Dy Dq rG DO uG Bh DS xo pe yL uT vZ Dv Ci rg uY ur Ew xR wO jC Fi zL tf B6 A6 m6 uB zX x9 CQ AO oX BU u4 Ed vj xX lK Ay tJ uq Ai um lf yI xx ud xz vX kc Cy xK yw zP xO qT zD EY xZ AC xH n0 xB Ab zi Ag wZ jq yO AB BH sM u1 pz wS zV Eu sS AY p9 Eh ti uD vD uC qO vO Et yV ED vk jU tw Cz ug Dm E5 qt Ey sN Dc wH sO oY zW BK B4 Bu wk jd Bi DL xa sU BI jA uE vw Cc ye yX mJ uW tO DY B5 vT rO EM yD tP Ee Co qI AU u6 ub tD ve j9 ue DR zG Bw xg kE Cl wN xw zS A9 kD Dx DH vv AQ uj pY vc y0 Bs yQ CU kW Dk yl ES wl AX rN A7 EL uf tQ zY ji uU zF Er zC DN om ET Bx sW BZ ut qm sZ vN wx Aj uL qX BO AK yE vA DC jb vB sP vG uz zm kq B1 EA zx u9 ux iG E8 sQ E1 tV zI qP zu EH xU vJ BP oy EV Ce AR AL Bp nM BW xy xk Dp wt px Dz zb uy Al BJ jj vo wG Dg AF vH i3 zj CZ E2 DG A4 iR DW sT zB tm Ez mi xE Am CP zy u2 nz xb Bm EN zf uw m8 uN vV wD xC AA mx vh Bc BV E9 Dd jg yK Eo xF AT uV ie Ep xN Cv zp Be pZ BS A1 x6 xQ EI ox sV wg sR yd Bb pk wU uF DA yN vL sj AN Ah yR vU wf jK yp Az tZ EB Aq nI wc AM zJ DZ Bn oW xl xr z9 E4 Ef jH Cn vF kF jO oJ cO iS:Value}
 (aO:W.nsIn K mainGlobals "TellError" = some (some (.ref XT)))
 (aC:W.nsIn K mainGlobals "NoNumber" = some (some (.ref XN)))
 (aS:W.nsIn K mainGlobals "NoRoad" = some (some (.ref XR)))
 (bb:W.nsIn K mainGlobals "Taken" = some (some (.ref XA)))
 (bg:W.nsIn K mainGlobals "Other" = some (some (.ref XO)))
 (aW:W.excIn K XN [.type "ValueError",.type "Exception",.type "BaseException",.type "object"] "ValueError.__new__" = true)
 (bv:W.excIn K XR [.type "ValueError",.type "Exception",.type "BaseException",.type "object"] "ValueError.__new__" = true)
 (bZ:W.excIn K XA [.type "ValueError",.type "Exception",.type "BaseException",.type "object"] "ValueError.__new__" = true)
 (bV:W.excIn K XO [.type "ValueError",.type "Exception",.type "BaseException",.type "object"] "ValueError.__new__" = true)
 (cN:W.exmOne K (.ref XN) (.ref XT)=some true)
 (cI:W.exmOne K (.ref XR) (.ref XT)=some true)
 (cK:W.exmOne K (.ref XA) (.ref XT)=some true)
 (cP:W.exmOne K (.ref XO) (.ref XT)=some true)
 (bI:W.nsIn K mainGlobals "Teller" = some (some (.ref ac)))
 (br:W.plainGet K ac Str.empty=true)
 (bP:W.hasDictIn K ac=true)
 (bp:W.plainOver K ac=true)
 (bK:W.findIn K (.ref ac) "__setattr__" = some (some (.builtin "object.__setattr__")))
 (bG:W.makesIn K ac=true)
 (bx:W.keepIn K (.ref ac)=true)
 (aK:W.findIn K (.ref ac) "keep" = some none)
 (aJ:W.findIn K (.ref ac) "turn" = some none)
 (aA:W.findIn K (.ref ac) "total" = some none)
 (aw:W.findIn K (.ref ac) "stored" = some none)
 (av:W.findIn K (.ref ac) "newest" = some none)
 (bE:W.nsIn K mainGlobals "Hearer" = some (some (.ref aa)))
 (bn:W.plainGet K aa Str.empty=true)
 (bM:W.hasDictIn K aa=true)
 (bJ:W.plainOver K aa=true)
 (bw:W.findIn K (.ref aa) "__setattr__" = some (some (.builtin "object.__setattr__")))
 (bo:W.makesIn K aa=true)
 (bC:W.keepIn K (.ref aa)=true)
 (ai:W.findIn K (.ref aa) "next_number" = some none)
 (aD:W.findIn K (.ref aa) "past" = some none)
 (aL:W.findIn K (.ref aa) "held" = some none)
 (ay:W.findIn K (.ref aa) "known" = some none)
 (am:W.findIn K (.ref aa) "given_up" = some none)
 (cv:W.nsIn K mainGlobals "Fan" = some (some (.ref af)))
 (cD:W.plainGet K af Str.empty=true)
 (cA:W.hasDictIn K af=true)
 (cE:W.plainOver K af=true)
 (cz:W.findIn K (.ref af) "__setattr__" = some (some (.builtin "object.__setattr__")))
 (cw:W.makesIn K af=true)
 (cy:W.keepIn K (.ref af)=true)
 (aN:W.findIn K (.ref af) "teller" = some none)
 (aV:W.findIn K (.ref af) "roads" = some none)
 (aE:W.findIn K (.ref af) "hearers" = some none)
 (cu:W.nsIn K mainGlobals "Road" = some (some (.ref ad)))
 (ck:W.plainGet K ad Str.empty=true)
 (cq:W.hasDictIn K ad=true)
 (cp:W.plainOver K ad=true)
 (cr:W.findIn K (.ref ad) "__setattr__" = some (some (.builtin "object.__setattr__")))
 (cn:W.makesIn K ad=true)
 (cm:W.keepIn K (.ref ad)=true)
 (aU:W.findIn K (.ref ad) "size" = some none)
 (bh:W.findIn K (.ref ad) "way" = some none)
 (aY:W.findIn K (.ref ad) "row" = some none)
 (az:W.findIn K (.ref ad) "dropped" = some none)
 (aH:W.findIn K (.ref ad) "broken" = some none)
 (aZ:W.nsIn K mainGlobals "Sources" = some (some (.ref ae)))
 (be:W.plainGet K ae Str.empty=true)
 (bf:W.hasDictIn K ae=true)
 (bd:W.plainOver K ae=true)
 (bi:W.findIn K (.ref ae) "__setattr__" = some (some (.builtin "object.__setattr__")))
 (ba:W.makesIn K ae=true)
 (aX:W.keepIn K (.ref ae)=true)
 (ak:W.findIn K (.ref ae) "hearers" = some none)
 (ar:W.findIn K (.ref ae) "story" = some none)
 (bN:W.nsIn K mainGlobals "Window" = some (some (.ref ag)))
 (bq:W.plainGet K ag Str.empty=true)
 (bO:W.hasDictIn K ag=true)
 (bz:W.plainOver K ag=true)
 (bQ:W.findIn K (.ref ag) "__setattr__" = some (some (.builtin "object.__setattr__")))
 (bA:W.makesIn K ag=true)
 (bj:W.keepIn K (.ref ag)=true)
 (aG:W.findIn K (.ref ag) "room" = some none)
 (au:W.findIn K (.ref ag) "on_way" = some none)
 (aP:W.findIn K (.ref ag) "row" = some none)
 (aq:W.findIn K (.ref ag) "arrived" = some none)
 (bY:W.nsIn K mainGlobals "Relay" = some (some (.ref ah)))
 (bX:W.plainGet K ah Str.empty=true)
 (ci:W.hasDictIn K ah=true)
 (cf:W.plainOver K ah=true)
 (cj:W.findIn K (.ref ah) "__setattr__" = some (some (.builtin "object.__setattr__")))
 (bU:W.makesIn K ah=true)
 (cg:W.keepIn K (.ref ah)=true)
 (aj:W.findIn K (.ref ah) "next_number" = some none)
 (aM:W.findIn K (.ref ah) "past" = some none)
 (aQ:W.findIn K (.ref ah) "held" = some none)
 (aI:W.findIn K (.ref ah) "known" = some none)
 (ao:W.findIn K (.ref ah) "given_up" = some none)
 (aR:W.findIn K (.ref ah) "keep" = some none)
 (a0:W.nsIn K mainGlobals "number_of" = some (some (.ref f0)))
 (l0:K.lookup f0=some ⟨GG,FS,.func (W.fnOf "number_of" "number_of" (G8 JU) (G6 JU) (GV JU) .none Gg Fu GA GN sv Gv),GB⟩)
 (c0:W.codeIn K sv "number_of" = true)
 (k0:W.keepIn K (.ref f0)=true)
 (a1:W.nsIn K mainGlobals "topic_of" = some (some (.ref f1)))
 (l1:K.lookup f1=some ⟨Gy,GQ,.func (W.fnOf "topic_of" "topic_of" (G8 Kc) (G6 Kc) (GV Kc) .none FT Gw Gj FJ sE FO),Ga⟩)
 (c1:W.codeIn K sE "topic_of" = true)
 (k1:W.keepIn K (.ref f1)=true)
 (a2:W.nsIn K mainGlobals "text_of" = some (some (.ref f2)))
 (l2:K.lookup f2=some ⟨FQ,Fm,.func (W.fnOf "text_of" "text_of" (G8 KA) (G6 KA) (GV KA) .none FG FC FW GO sG FU),GM⟩)
 (c2:W.codeIn K sG "text_of" = true)
 (k2:W.keepIn K (.ref f2)=true)
 (a3:W.nsIn K mainGlobals "of_topics" = some (some (.ref f3)))
 (l3:K.lookup f3=some ⟨Ft,GL,.func (W.fnOf "of_topics" "of_topics" (G8 JF) (G6 JF) (GV JF) .none Fy FM FR Go sA Gb),Gm⟩)
 (c3:W.codeIn K sA "of_topics" = true)
 (k3:W.keepIn K (.ref f3)=true)
 (a4:W.nsIn K mainGlobals "with_greater_numbers" = some (some (.ref f4)))
 (l4:K.lookup f4=some ⟨GC,Fs,.func (W.fnOf "with_greater_numbers" "with_greater_numbers" (G8 HD) (G6 HD) (GV HD) .none Fn FY Fw Ge sJ Gc),Fx⟩)
 (c4:W.codeIn K sJ "with_greater_numbers" = true)
 (k4:W.keepIn K (.ref f4)=true)
 (a5:W.nsIn K mainGlobals "last_ones" = some (some (.ref f5)))
 (l5:K.lookup f5=some ⟨FK,Fv,.func (W.fnOf "last_ones" "last_ones" (G8 JV) (G6 JV) (GV JV) .none Gk GF FB Gi su FV),GP⟩)
 (c5:W.codeIn K su "last_ones" = true)
 (k5:W.keepIn K (.ref f5)=true)
 (a6:W.nsIn K mainGlobals "state_of" = some (some (.ref f6)))
 (l6:K.lookup f6=some ⟨GT,GK,.func (W.fnOf "state_of" "state_of" (G8 Ke) (G6 Ke) (GV Ke) .none GJ Gq FX FF sw GD),GS⟩)
 (c6:W.codeIn K sw "state_of" = true)
 (k6:W.keepIn K (.ref f6)=true)
 (a7:W.nsIn K mainGlobals "gaps_in" = some (some (.ref f7)))
 (l7:K.lookup f7=some ⟨FN,FH,.func (W.fnOf "gaps_in" "gaps_in" (G8 KI) (G6 KI) (GV KI) .none Gu Fz Gs Gd sB Gz),GI⟩)
 (c7:W.codeIn K sB "gaps_in" = true)
 (k7:W.keepIn K (.ref f7)=true)
 (a8:W.findIn K (.ref ac) "__init__" = some (some (.ref f8)))
 (i8:W.isFn K (.ref f8)=true)
 (l8:K.lookup f8=some ⟨Fo,FD,.func (W.fnOf "__init__" "Teller.__init__" (G8 Il) (G6 Il) (GV Il) .none GR Gx Gp Fq sx FI),Gh⟩)
 (c8:W.codeIn K sx "Teller.__init__" = true)
 (k8:W.keepIn K (.ref f8)=true)
 (a9:W.findIn K (.ref ac) "tell" = some (some (.ref f9)))
 (i9:W.isFn K (.ref f9)=true)
 (l9:K.lookup f9=some ⟨GE,FL,.func (W.fnOf "tell" "Teller.tell" (G8 Jp) (G6 Jp) (GV Jp) .none Gn Gf FZ GH sI Gr),FP⟩)
 (c9:W.codeIn K sI "Teller.tell" = true)
 (k9:W.keepIn K (.ref f9)=true)
 (iw:W.findIn K (.ref ac) "told" = some (some (.ref fO)))
 (qH:W.isFn K (.ref fO)=true)
 (lV:K.lookup fO=some ⟨z8,uS,.func (W.fnOf "told" "Teller.told" (G8 Jo) (G6 Jo) (GV Jo) .none AI sY Fc Es rV tM),wW⟩)
 (iJ:W.codeIn K rV "Teller.told" = true)
 (dw:W.keepIn K (.ref fO)=true)
 (mR:W.findIn K (.ref ac) "kept" = some (some (.ref gC)))
 (jt:W.isFn K (.ref gC)=true)
 (qg:K.lookup gC=some ⟨wj,BQ,.func (W.fnOf "kept" "Teller.kept" (G8 Js) (G6 Js) (GV Js) .none Ad AJ EX yu jm Dn),Dh⟩)
 (iz:W.codeIn K jm "Teller.kept" = true)
 (dk:W.keepIn K (.ref gC)=true)
 (rH:W.findIn K (.ref ac) "oldest" = some (some (.ref fY)))
 (j8:W.isFn K (.ref fY)=true)
 (oM:K.lookup fY=some ⟨Ex,we,.func (W.fnOf "oldest" "Teller.oldest" (G8 IH) (G6 IH) (GV IH) .none yg Ax Cs wL pX Bt),CV⟩)
 (pK:W.codeIn K pX "Teller.oldest" = true)
 (dQ:W.keepIn K (.ref fY)=true)
 (il:W.findIn K (.ref ac) "last" = some (some (.ref gI)))
 (mC:W.isFn K (.ref gI)=true)
 (iD:K.lookup gI=some ⟨t8,uh,.func (W.fnOf "last" "Teller.last" (G8 Jr) (G6 Jr) (GV Jr) .none Ek u5 wM BE lT Cg),Ej⟩)
 (oV:W.codeIn K lT "Teller.last" = true)
 (dN:W.keepIn K (.ref gI)=true)
 (kl:W.findIn K (.ref ac) "behind" = some (some (.ref fK)))
 (nB:W.isFn K (.ref fK)=true)
 (r9:K.lookup fK=some ⟨tN,CK,.func (W.fnOf "behind" "Teller.behind" (G8 II) (G6 II) (GV II) .none yy BA uR Bq jS wo),sL⟩)
 (oQ:W.codeIn K jS "Teller.behind" = true)
 (dP:W.keepIn K (.ref fK)=true)
 (lB:W.findIn K (.ref ac) "mark" = some (some (.ref fe)))
 (iM:W.isFn K (.ref fe)=true)
 (pO:K.lookup fe=some ⟨Cd,B8,.func (W.fnOf "mark" "Teller.mark" (G8 Jq) (G6 Jq) (GV Jq) .none DV CY yA yf mX BL),zU⟩)
 (mI:W.codeIn K mX "Teller.mark" = true)
 (fm:W.keepIn K (.ref fe)=true)
 (iH:W.findIn K (.ref ac) "since" = some (some (.ref fw)))
 (rh:W.isFn K (.ref fw)=true)
 (mt:K.lookup fw=some ⟨Cw,Ak,.func (W.fnOf "since" "Teller.since" (G8 IV) (G6 IV) (GV IV) .none El wJ EK xu mU AW),A8⟩)
 (qW:W.codeIn K mU "Teller.since" = true)
 (gX:W.keepIn K (.ref fw)=true)
 (jP:W.findIn K (.ref ad) "__init__" = some (some (.ref fL)))
 (kR:W.isFn K (.ref fL)=true)
 (hX:K.lookup fL=some ⟨Ae,zO,.func (W.fnOf "__init__" "Road.__init__" (G8 IM) (G6 IM) (GV IM) .none E3 E6 Fj vg iu yU),vz⟩)
 (lg:W.codeIn K iu "Road.__init__" = true)
 (oK:W.keepIn K (.ref fL)=true)
 (nO:W.findIn K (.ref ad) "leave_out" = some (some (.ref gQ)))
 (iK:W.isFn K (.ref gQ)=true)
 (iy:K.lookup gQ=some ⟨xj,Bd,.func (W.fnOf "leave_out" "Road.leave_out" (G8 Ig) (G6 Ig) (GV Ig) .none wu xp zc tG nQ vI),wz⟩)
 (lP:W.codeIn K nQ "Road.leave_out" = true)
 (eC:W.keepIn K (.ref gQ)=true)
 (pb:W.findIn K (.ref ad) "put_without_room" = some (some (.ref fV)))
 (jR:W.isFn K (.ref fV)=true)
 (lM:K.lookup fV=some ⟨uA,t9,.func (W.fnOf "put_without_room" "Road.put_without_room" (G8 HI) (G6 HI) (GV HI) .none Ds xi w8 yi i4 Fe),wI⟩)
 (kX:W.codeIn K i4 "Road.put_without_room" = true)
 (fR:W.keepIn K (.ref fV)=true)
 (rY:W.findIn K (.ref ad) "put" = some (some (.ref cY)))
 (qz:W.isFn K (.ref cY)=true)
 (jw:K.lookup cY=some ⟨BG,B3,.func (W.fnOf "put" "Road.put" (G8 Kg) (G6 Kg) (GV Kg) .none BR EE Fh vq qV tK),vn⟩)
 (lH:W.codeIn K qV "Road.put" = true)
 (d8:W.keepIn K (.ref cY)=true)
 (im:W.findIn K (.ref ad) "waiting" = some (some (.ref eV)))
 (oz:W.isFn K (.ref eV)=true)
 (pT:K.lookup eV=some ⟨xc,Av,.func (W.fnOf "waiting" "Road.waiting" (G8 IX) (G6 IX) (GV IX) .none Cb yk Do Fg jv DX),CG⟩)
 (nN:W.codeIn K jv "Road.waiting" = true)
 (dJ:W.keepIn K (.ref eV)=true)
 (pR:W.findIn K (.ref ad) "left_out" = some (some (.ref eD)))
 (qZ:W.isFn K (.ref eD)=true)
 (hV:K.lookup eD=some ⟨yj,vp,.func (W.fnOf "left_out" "Road.left_out" (G8 IL) (G6 IL) (GV IL) .none BT yF Ct xq qa wv),u3⟩)
 (pP:W.codeIn K qa "Road.left_out" = true)
 (fA:W.keepIn K (.ref eD)=true)
 (qJ:W.findIn K (.ref ad) "is_cut" = some (some (.ref ef)))
 (jn:W.isFn K (.ref ef)=true)
 (rf:K.lookup ef=some ⟨Ch,vW,.func (W.fnOf "is_cut" "Road.is_cut" (G8 Jt) (G6 Jt) (GV Jt) .none wd wC wa zn lE Dr),uQ⟩)
 (qi:W.codeIn K lE "Road.is_cut" = true)
 (fg:W.keepIn K (.ref ef)=true)
 (ny:W.findIn K (.ref aa) "__init__" = some (some (.ref eJ)))
 (hG:W.isFn K (.ref eJ)=true)
 (jT:K.lookup eJ=some ⟨t7,uc,.func (W.fnOf "__init__" "Hearer.__init__" (G8 HC) (G6 HC) (GV HC) .none AZ yZ xJ EF jV AE),ui⟩)
 (kJ:W.codeIn K jV "Hearer.__init__" = true)
 (nJ:W.keepIn K (.ref eJ)=true)
 (pi:W.findIn K (.ref aa) "expects" = some (some (.ref gH)))
 (i5:W.isFn K (.ref gH)=true)
 (qM:K.lookup gH=some ⟨Di,vC,.func (W.fnOf "expects" "Hearer.expects" (G8 HF) (G6 HF) (GV HF) .none Ba vE Bf yt j5 ze),Cp⟩)
 (oU:W.codeIn K j5 "Hearer.expects" = true)
 (df:W.keepIn K (.ref gH)=true)
 (rq:W.findIn K (.ref aa) "heard" = some (some (.ref fz)))
 (rB:W.isFn K (.ref fz)=true)
 (mF:K.lookup fz=some ⟨AS,ua,.func (W.fnOf "heard" "Hearer.heard" (G8 HR) (G6 HR) (GV HR) .none vx xh BF vQ ow EJ),zE⟩)
 (pj:W.codeIn K ow "Hearer.heard" = true)
 (fM:W.keepIn K (.ref fz)=true)
 (pJ:W.findIn K (.ref aa) "hear_held" = some (some (.ref fc)))
 (mS:W.isFn K (.ref fc)=true)
 (nK:K.lookup fc=some ⟨EZ,u7,.func (W.fnOf "hear_held" "Hearer.hear_held" (G8 Hv) (G6 Hv) (GV Hv) .none At Du Bg DE lU ul),xP⟩)
 (iY:W.codeIn K lU "Hearer.hear_held" = true)
 (eM:W.keepIn K (.ref fc)=true)
 (iX:W.findIn K (.ref aa) "refuse_others" = some (some (.ref gA)))
 (kK:W.isFn K (.ref gA)=true)
 (qS:K.lookup gA=some ⟨EG,Eb,.func (W.fnOf "refuse_others" "Hearer.refuse_others" (G8 Ht) (G6 Ht) (GV Ht) .none xG CC wQ zA pG BC),Cu⟩)
 (pc:W.codeIn K pG "Hearer.refuse_others" = true)
 (fP:W.keepIn K (.ref gA)=true)
 (kL:W.findIn K (.ref aa) "take_all" = some (some (.ref gS)))
 (li:W.isFn K (.ref gS)=true)
 (iT:K.lookup gS=some ⟨u0,zr,.func (W.fnOf "take_all" "Hearer.take_all" (G8 HB) (G6 HB) (GV HB) .none wX wT CD xS lq yS),uk⟩)
 (pH:W.codeIn K lq "Hearer.take_all" = true)
 (dG:W.keepIn K (.ref gS)=true)
 (nY:W.findIn K (.ref aa) "take" = some (some (.ref cU)))
 (mf:W.isFn K (.ref cU)=true)
 (ri:K.lookup cU=some ⟨By,xW,.func (W.fnOf "take" "Hearer.take" (G8 HZ) (G6 HZ) (GV HZ) .none EU Dy Dq A2 rG DO),za⟩)
 (oO:W.codeIn K rG "Hearer.take" = true)
 (gy:W.keepIn K (.ref cU)=true)
 (qK:W.findIn K (.ref aa) "early" = some (some (.ref dv)))
 (iE:W.isFn K (.ref dv)=true)
 (pL:K.lookup dv=some ⟨uG,zH,.func (W.fnOf "early" "Hearer.early" (G8 I9) (G6 I9) (GV I9) .none Bh DS xo uO pe yL),wP⟩)
 (nj:W.codeIn K pe "Hearer.early" = true)
 (fW:W.keepIn K (.ref dv)=true)
 (i6:W.findIn K (.ref aa) "missing" = some (some (.ref fB)))
 (kU:W.isFn K (.ref fB)=true)
 (rj:K.lookup fB=some ⟨uT,uH,.func (W.fnOf "missing" "Hearer.missing" (G8 Ih) (G6 Ih) (GV Ih) .none vZ Dv Ci CM rg uY),DD⟩)
 (pp:W.codeIn K rg "Hearer.missing" = true)
 (eX:W.keepIn K (.ref fB)=true)
 (nL:W.findIn K (.ref aa) "lost" = some (some (.ref gK)))
 (qv:W.isFn K (.ref gK)=true)
 (sk:K.lookup gK=some ⟨ur,zK,.func (W.fnOf "lost" "Hearer.lost" (G8 Ju) (G6 Ju) (GV Ju) .none Ew xR wO y7 jC Fi),yT⟩)
 (iQ:W.codeIn K jC "Hearer.lost" = true)
 (cV:W.keepIn K (.ref gK)=true)
 (kN:W.findIn K (.ref aa) "state" = some (some (.ref fN)))
 (jX:W.isFn K (.ref fN)=true)
 (lX:K.lookup fN=some ⟨zL,En,.func (W.fnOf "state" "Hearer.state" (G8 IZ) (G6 IZ) (GV IZ) .none tf B6 A6 DB m6 uB),Aw⟩)
 (rP:W.codeIn K m6 "Hearer.state" = true)
 (gz:W.keepIn K (.ref fN)=true)
 (ma:W.findIn K (.ref af) "refuse_unknown" = some (some (.ref dz)))
 (pQ:W.isFn K (.ref dz)=true)
 (qu:K.lookup dz=some ⟨zX,Af,.func (W.fnOf "refuse_unknown" "Fan.refuse_unknown" (G8 HW) (G6 HW) (GV HW) .none x9 CQ AO xA oX BU),Bo⟩)
 (jh:W.codeIn K oX "Fan.refuse_unknown" = true)
 (gn:W.keepIn K (.ref dz)=true)
 (rZ:W.findIn K (.ref af) "road_of" = some (some (.ref dt)))
 (rC:W.isFn K (.ref dt)=true)
 (lY:K.lookup dt=some ⟨u4,BM,.func (W.fnOf "road_of" "Fan.road_of" (G8 Jw) (G6 Jw) (GV Jw) .none Ed vj xX uM lK Ay),yz⟩)
 (og:W.codeIn K lK "Fan.road_of" = true)
 (fU:W.keepIn K (.ref dt)=true)
 (iC:W.findIn K (.ref af) "hearer_of" = some (some (.ref fF)))
 (hU:W.isFn K (.ref fF)=true)
 (nW:K.lookup fF=some ⟨tJ,Cm,.func (W.fnOf "hearer_of" "Fan.hearer_of" (G8 IN) (G6 IN) (GV IN) .none uq Ai um wK lf yI),wq⟩)
 (nV:W.codeIn K lf "Fan.hearer_of" = true)
 (gr:W.keepIn K (.ref fF)=true)
 (qA:W.findIn K (.ref af) "heard" = some (some (.ref ff)))
 (iq:W.isFn K (.ref ff)=true)
 (iP:K.lookup ff=some ⟨xx,vY,.func (W.fnOf "heard" "Fan.heard" (G8 JY) (G6 JY) (GV JY) .none ud xz vX BX kc Cy),wB⟩)
 (km:W.codeIn K kc "Fan.heard" = true)
 (gG:W.keepIn K (.ref ff)=true)
 (oA:W.findIn K (.ref af) "lost" = some (some (.ref dW)))
 (qC:W.isFn K (.ref dW)=true)
 (iF:K.lookup dW=some ⟨xK,uX,.func (W.fnOf "lost" "Fan.lost" (G8 Ki) (G6 Ki) (GV Ki) .none yw zP xO zM qT zD),zz⟩)
 (jB:W.codeIn K qT "Fan.lost" = true)
 (eI:W.keepIn K (.ref dW)=true)
 (iW:W.findIn K (.ref af) "waiting" = some (some (.ref gN)))
 (rJ:W.isFn K (.ref gN)=true)
 (iZ:K.lookup gN=some ⟨EY,Dl,.func (W.fnOf "waiting" "Fan.waiting" (G8 Jv) (G6 Jv) (GV Jv) .none xZ AC xH xm n0 xB),Cf⟩)
 (qG:W.codeIn K n0 "Fan.waiting" = true)
 (dj:W.keepIn K (.ref gN)=true)
 (pM:W.findIn K (.ref af) "lag" = some (some (.ref gv)))
 (qx:W.isFn K (.ref gv)=true)
 (lC:K.lookup gv=some ⟨Ab,Fl,.func (W.fnOf "lag" "Fan.lag" (G8 KK) (G6 KK) (GV KK) .none zi Ag wZ ER jq yO),vi⟩)
 (ii:W.codeIn K jq "Fan.lag" = true)
 (fZ:W.keepIn K (.ref gv)=true)
 (iO:W.findIn K (.ref af) "names" = some (some (.ref ft)))
 (mw:W.isFn K (.ref ft)=true)
 (ik:K.lookup ft=some ⟨AB,DQ,.func (W.fnOf "names" "Fan.names" (G8 JX) (G6 JX) (GV JX) .none BH sM u1 BN pz wS),EC⟩)
 (qb:W.codeIn K pz "Fan.names" = true)
 (gY:W.keepIn K (.ref ft)=true)
 (j0:W.findIn K (.ref af) "__init__" = some (some (.ref gU)))
 (pV:W.isFn K (.ref gU)=true)
 (nA:K.lookup gU=some ⟨zV,wR,.func (W.fnOf "__init__" "Fan.__init__" (G8 Ja) (G6 Ja) (GV Ja) .none Eu sS AY tq p9 Eh),zR⟩)
 (nX:W.codeIn K p9 "Fan.__init__" = true)
 (jD:W.keepIn K (.ref gU)=true)
 (pC:W.findIn K (.ref af) "tell" = some (some (.ref fX)))
 (ki:W.isFn K (.ref fX)=true)
 (o8:K.lookup fX=some ⟨ti,AG,.func (W.fnOf "tell" "Fan.tell" (G8 Kh) (G6 Kh) (GV Kh) .none uD vD uC Df qO vO),EO⟩)
 (ng:W.codeIn K qO "Fan.tell" = true)
 (gu:W.keepIn K (.ref fX)=true)
 (rE:W.findIn K (.ref af) "close" = some (some (.ref gJ)))
 (jG:W.isFn K (.ref gJ)=true)
 (rK:K.lookup gJ=some ⟨Et,Fk,.func (W.fnOf "close" "Fan.close" (G8 JZ) (G6 JZ) (GV JZ) .none yV ED vk wY jU tw),xL⟩)
 (kZ:W.codeIn K jU "Fan.close" = true)
 (fT:W.keepIn K (.ref gJ)=true)
 (oi:W.findIn K (.ref af) "lay" = some (some (.ref fq)))
 (nR:W.isFn K (.ref fq)=true)
 (iI:K.lookup fq=some ⟨Cz,zw,.func (W.fnOf "lay" "Fan.lay" (G8 KJ) (G6 KJ) (GV KJ) .none ug Dm E5 Cj qt Ey),wm⟩)
 (sg:W.codeIn K qt "Fan.lay" = true)
 (dy:W.keepIn K (.ref fq)=true)
 (lZ:W.findIn K (.ref af) "slowest" = some (some (.ref cW)))
 (so:W.isFn K (.ref cW)=true)
 (jL:K.lookup cW=some ⟨sN,DJ,.func (W.fnOf "slowest" "Fan.slowest" (G8 Iz) (G6 Iz) (GV Iz) .none Dc wH sO B2 oY zW),Cq⟩)
 (se:W.codeIn K oY "Fan.slowest" = true)
 (dC:W.keepIn K (.ref cW)=true)
 (nH:W.findIn K (.ref ae) "__init__" = some (some (.ref dg)))
 (mn:W.isFn K (.ref dg)=true)
 (qF:K.lookup dg=some ⟨BK,Bv,.func (W.fnOf "__init__" "Sources.__init__" (G8 Ie) (G6 Ie) (GV Ie) .none B4 Bu wk xV jd Bi),yW⟩)
 (qk:W.codeIn K jd "Sources.__init__" = true)
 (pU:W.keepIn K (.ref dg)=true)
 (pq:W.findIn K (.ref ae) "heard" = some (some (.ref fC)))
 (re:W.isFn K (.ref fC)=true)
 (rQ:K.lookup fC=some ⟨DL,uK,.func (W.fnOf "heard" "Sources.heard" (G8 IK) (G6 IK) (GV IK) .none xa sU BI Aa jA uE),De⟩)
 (oH:W.codeIn K jA "Sources.heard" = true)
 (cQ:W.keepIn K (.ref fC)=true)
 (mq:W.findIn K (.ref ae) "take" = some (some (.ref fJ)))
 (jE:W.isFn K (.ref fJ)=true)
 (jM:K.lookup fJ=some ⟨vw,Au,.func (W.fnOf "take" "Sources.take" (G8 IW) (G6 IW) (GV IW) .none Cc ye yX Em mJ uW),tz⟩)
 (mE:W.codeIn K mJ "Sources.take" = true)
 (de:W.keepIn K (.ref fJ)=true)
 (lx:W.findIn K (.ref ae) "marks" = some (some (.ref dE)))
 (mQ:W.isFn K (.ref dE)=true)
 (jY:K.lookup dE=some ⟨tO,tU,.func (W.fnOf "marks" "Sources.marks" (G8 IJ) (G6 IJ) (GV IJ) .none DY B5 vT yC rO EM),Ao⟩)
 (kx:W.codeIn K rO "Sources.marks" = true)
 (gx:W.keepIn K (.ref dE)=true)
 (pD:W.findIn K (.ref ae) "lacks" = some (some (.ref dq)))
 (rA:W.isFn K (.ref dq)=true)
 (lG:K.lookup dq=some ⟨yD,wA,.func (W.fnOf "lacks" "Sources.lacks" (G8 Iq) (G6 Iq) (GV Iq) .none tP Ee Co DP qI AU),BD⟩)
 (iV:W.codeIn K qI "Sources.lacks" = true)
 (fj:W.keepIn K (.ref dq)=true)
 (nP:W.findIn K (.ref ag) "__init__" = some (some (.ref cZ)))
 (me:W.isFn K (.ref cZ)=true)
 (jI:K.lookup cZ=some ⟨u6,tu,.func (W.fnOf "__init__" "Window.__init__" (G8 Ik) (G6 Ik) (GV Ik) .none ub tD ve Db j9 ue),tX⟩)
 (mo:W.codeIn K j9 "Window.__init__" = true)
 (qh:W.keepIn K (.ref cZ)=true)
 (jQ:W.findIn K (.ref ag) "free" = some (some (.ref eZ)))
 (kI:W.isFn K (.ref eZ)=true)
 (lI:K.lookup eZ=some ⟨DR,Ev,.func (W.fnOf "free" "Window.free" (G8 Jm) (G6 Jm) (GV Jm) .none zG Bw xg Ca kE Cl),x8⟩)
 (rR:W.codeIn K kE "Window.free" = true)
 (gf:W.keepIn K (.ref eZ)=true)
 (jk:W.findIn K (.ref ag) "let_go" = some (some (.ref ed)))
 (kP:W.isFn K (.ref ed)=true)
 (ni:K.lookup ed=some ⟨wN,Dt,.func (W.fnOf "let_go" "Window.let_go" (G8 IG) (G6 IG) (GV IG) .none xw zS A9 EQ kD Dx),sX⟩)
 (rW:W.codeIn K kD "Window.let_go" = true)
 (fb:W.keepIn K (.ref ed)=true)
 (j7:W.findIn K (.ref ag) "put" = some (some (.ref dm)))
 (ky:W.isFn K (.ref dm)=true)
 (lN:K.lookup dm=some ⟨DH,zk,.func (W.fnOf "put" "Window.put" (G8 JI) (G6 JI) (GV JI) .none vv AQ uj zN pY vc),Bl⟩)
 (lw:W.codeIn K pY "Window.put" = true)
 (gh:W.keepIn K (.ref dm)=true)
 (ja:W.findIn K (.ref ag) "done" = some (some (.ref fu)))
 (jJ:W.isFn K (.ref fu)=true)
 (mP:K.lookup fu=some ⟨y0,xY,.func (W.fnOf "done" "Window.done" (G8 IQ) (G6 IQ) (GV IQ) .none Bs yQ CU xT kW Dk),vy⟩)
 (jp:W.codeIn K kW "Window.done" = true)
 (eE:W.keepIn K (.ref fu)=true)
 (jo:W.findIn K (.ref ag) "again" = some (some (.ref cS)))
 (jf:W.isFn K (.ref cS)=true)
 (rm:K.lookup cS=some ⟨yl,AV,.func (W.fnOf "again" "Window.again" (G8 IU) (G6 IU) (GV IU) .none ES wl AX vM rN A7),yG⟩)
 (mW:W.codeIn K rN "Window.again" = true)
 (gO:W.keepIn K (.ref cS)=true)
 (ic:W.findIn K (.ref ag) "waiting" = some (some (.ref dX)))
 (jy:W.isFn K (.ref dX)=true)
 (qe:K.lookup dX=some ⟨EL,ya,.func (W.fnOf "waiting" "Window.waiting" (G8 IB) (G6 IB) (GV IB) .none uf tQ zY xM ji uU),B7⟩)
 (kj:W.codeIn K ji "Window.waiting" = true)
 (gc:W.keepIn K (.ref dX)=true)
 (pS:W.findIn K (.ref ag) "came" = some (some (.ref gR)))
 (jW:W.isFn K (.ref gR)=true)
 (lR:K.lookup gR=some ⟨zF,xI,.func (W.fnOf "came" "Window.came" (G8 Jn) (G6 Jn) (GV Jn) .none Er zC DN CA om ET),Fb⟩)
 (oG:W.codeIn K om "Window.came" = true)
 (eU:W.keepIn K (.ref gR)=true)
 (sK:W.findIn K (.ref aa) "__init__" = some (some (.ref cF)))
 (sC:W.isFn K (.ref cF)=true)
 (nS:K.lookup cF=some ⟨Bx,Br,.func (W.fnOf "__init__" "Hearer.__init__" (G8 HC) (G6 HC) (GV HC) .none sW BZ ut AH qm sZ),wb⟩)
 (oq:W.codeIn K qm "Hearer.__init__" = true)
 (dO:W.keepIn K (.ref cF)=true)
 (cG:W.specialIn K (.ref aa) "__getattribute__" = some (some (.builtin "type.__getattribute__")))
 (cM:W.readsIn K aa (.type "type")=true)
 (cJ:W.findCls K (.ref aa) (.type "type") "__init__" = some (.val (.ref cF)))
 (pI:W.findIn K (.ref ah) "__init__" = some (some (.ref dU)))
 (qN:W.isFn K (.ref dU)=true)
 (rM:K.lookup dU=some ⟨vN,uJ,.func (W.fnOf "__init__" "Relay.__init__" (G8 IC) (G6 IC) (GV IC) .none wx Aj uL DT qX BO),Ei⟩)
 (qB:W.codeIn K qX "Relay.__init__" = true)
 (kt:W.keepIn K (.ref dU)=true)
 (kf:W.findIn K (.ref ah) "expects" = some (some (.ref cR)))
 (qU:W.isFn K (.ref cR)=true)
 (lu:K.lookup cR=some ⟨AK,vK,.func (W.fnOf "expects" "Hearer.expects" (G8 HF) (G6 HF) (GV HF) .none yE vA DC Ff jb vB),w9⟩)
 (qE:W.codeIn K jb "Hearer.expects" = true)
 (cX:W.keepIn K (.ref cR)=true)
 (pw:W.findIn K (.ref ah) "hear_held" = some (some (.ref dI)))
 (my:W.isFn K (.ref dI)=true)
 (oj:K.lookup dI=some ⟨sP,CJ,.func (W.fnOf "hear_held" "Hearer.hear_held" (G8 Hv) (G6 Hv) (GV Hv) .none vG uz zm uP kq B1),yP⟩)
 (ip:W.codeIn K kq "Hearer.hear_held" = true)
 (eY:W.keepIn K (.ref dI)=true)
 (pW:W.findIn K (.ref ah) "refuse_others" = some (some (.ref gE)))
 (je:W.isFn K (.ref gE)=true)
 (mV:K.lookup gE=some ⟨EA,E7,.func (W.fnOf "refuse_others" "Hearer.refuse_others" (G8 Ht) (G6 Ht) (GV Ht) .none zx u9 ux Bj iG E8),B0⟩)
 (kG:W.codeIn K iG "Hearer.refuse_others" = true)
 (gZ:W.keepIn K (.ref gE)=true)
 (ke:W.findIn K (.ref ah) "take_all" = some (some (.ref fQ)))
 (lO:W.isFn K (.ref fQ)=true)
 (rn:K.lookup fQ=some ⟨sQ,zv,.func (W.fnOf "take_all" "Hearer.take_all" (G8 HB) (G6 HB) (GV HB) .none E1 tV zI Ar qP zu),u8⟩)
 (io:W.codeIn K qP "Hearer.take_all" = true)
 (fI:W.keepIn K (.ref fQ)=true)
 (pN:W.findIn K (.ref ah) "take" = some (some (.ref dL)))
 (mZ:W.isFn K (.ref dL)=true)
 (qY:K.lookup dL=some ⟨EH,uu,.func (W.fnOf "take" "Hearer.take" (G8 HZ) (G6 HZ) (GV HZ) .none xU vJ BP vd oy EV),AD⟩)
 (mH:W.codeIn K oy "Hearer.take" = true)
 (gP:W.keepIn K (.ref dL)=true)
 (oN:W.findIn K (.ref ah) "heard" = some (some (.ref eP)))
 (ju:W.isFn K (.ref eP)=true)
 (pd:K.lookup eP=some ⟨Ce,Eg,.func (W.fnOf "heard" "Hearer.heard" (G8 HR) (G6 HR) (GV HR) .none AR AL Bp DF nM BW),zT⟩)
 (jz:W.codeIn K nM "Hearer.heard" = true)
 (dY:W.keepIn K (.ref eP)=true)
 (o9:W.findIn K (.ref ah) "kept" = some (some (.ref dZ)))
 (nU:W.isFn K (.ref dZ)=true)
 (pB:K.lookup dZ=some ⟨xy,uv,.func (W.fnOf "kept" "Relay.kept" (G8 JJ) (G6 JJ) (GV JJ) .none xk Dp wt vm px Dz),vt⟩)
 (si:W.codeIn K px "Relay.kept" = true)
 (dA:W.keepIn K (.ref dZ)=true)
 (kr:W.findIn K (.ref ah) "behind" = some (some (.ref dD)))
 (oZ:W.isFn K (.ref dD)=true)
 (oF:K.lookup dD=some ⟨zb,Ec,.func (W.fnOf "behind" "Relay.behind" (G8 IY) (G6 IY) (GV IY) .none uy Al BJ yv jj vo),vf⟩)
 (qp:W.codeIn K jj "Relay.behind" = true)
 (di:W.keepIn K (.ref dD)=true)
 (nZ:W.nsIn K mainGlobals "first_of" = some (some (.ref mB)))
 (lA:K.lookup mB=some ⟨wG,yn,.func (W.fnOf "first_of" "first_of" (G8 Kf) (G6 Kf) (GV Kf) .none Dg AF vH BB i3 zj),yB⟩)
 (kC:W.codeIn K i3 "first_of" = true)
 (fo:W.keepIn K (.ref mB)=true)
 (jx:W.nsIn K mainGlobals "times_of" = some (some (.ref kQ)))
 (j6:K.lookup kQ=some ⟨CZ,tE,.func (W.fnOf "times_of" "times_of" (G8 Kd) (G6 Kd) (GV Kd) .none E2 DG A4 xt iR DW),yc⟩)
 (lL:W.codeIn K iR "times_of" = true)
 (gB:W.keepIn K (.ref kQ)=true)
 (qy:W.nsIn K mainGlobals "most_of" = some (some (.ref jZ)))
 (mh:K.lookup jZ=some ⟨sT,uZ,.func (W.fnOf "most_of" "most_of" (G8 KB) (G6 KB) (GV KB) .none zB tm Ez A5 mi xE),xn⟩)
 (oP:W.codeIn K mi "most_of" = true)
 (gw:W.keepIn K (.ref jZ)=true)
 (ig:W.nsIn K mainGlobals "many_of" = some (some (.ref oC)))
 (mj:K.lookup oC=some ⟨Am,zl,.func (W.fnOf "many_of" "many_of" (G8 KD) (G6 KD) (GV KD) .none CP zy u2 Bk nz xb),yY⟩)
 (mK:W.codeIn K nz "many_of" = true)
 (gb:W.keepIn K (.ref oC)=true)
 (lJ:W.nsIn K mainGlobals "wait_of" = some (some (.ref qL)))
 (rS:K.lookup qL=some ⟨Bm,Dw,.func (W.fnOf "wait_of" "wait_of" (G8 Kz) (G6 Kz) (GV Kz) .none EN zf uw yo m8 uN),y9⟩)
 (jF:W.codeIn K m8 "wait_of" = true)
 (gq:W.keepIn K (.ref qL)=true)
 (qj:W.nsIn K mainGlobals "waits" = some (some (.ref pf)))
 (pE:K.lookup pf=some ⟨vV,An,.func (W.fnOf "waits" "waits" (G8 LF) (G6 LF) (GV LF) .none wD xC AA w6 mx vh),tY⟩)
 (mM:W.codeIn K mx "waits" = true)
 (dM:W.keepIn K (.ref pf)=true)
 (qQ:W.nsIn K mainGlobals "moments" = some (some (.ref kd)))
 (mz:K.lookup kd=some ⟨Bc,uI,.func (W.fnOf "moments" "moments" (G8 KC) (G6 KC) (GV KC) .none BV E9 Dd uo jg yK),yJ⟩)
 (lQ:W.codeIn K jg "moments" = true)
 (gg:W.keepIn K (.ref kd)=true)
 (qr:W.nsIn K mainGlobals "_law_cell" = some (some (.ref ku)))
 (iU:K.lookup ku=some ⟨Eo,wE,.func (W.fnOf "_law_cell" "_law_cell" (G8 Lm) (G6 Lm) (GV Lm) .none xF AT uV zZ ie Ep),vR⟩)
 (ou:W.codeIn K ie "_law_cell" = true)
 (fH:W.keepIn K (.ref ku)=true)
 (pF:W.nsIn K mainGlobals "_law_drawn" = some (some (.ref qd)))
 (jN:K.lookup qd=some ⟨xN,Fd,.func (W.fnOf "_law_drawn" "_law_drawn" (G8 KH) (G6 KH) (GV KH) .none Cv zp Be A3 pZ BS),DK⟩)
 (rL:W.codeIn K pZ "_law_drawn" = true)
 (du:W.keepIn K (.ref qd)=true)
 (rc:W.nsIn K mainGlobals "_law_messages" = some (some (.ref kY)))
 (ph:K.lookup kY=some ⟨A1,CI,.func (W.fnOf "_law_messages" "_law_messages" (G8 JH) (G6 JH) (GV JH) .none x6 xQ EI vP ox sV),wV⟩)
 (rT:W.codeIn K ox "_law_messages" = true)
 (fG:W.keepIn K (.ref kY)=true)
 (kO:W.nsIn K mainGlobals "_law_lists" = some (some (.ref mY)))
 (qR:K.lookup mY=some ⟨wg,zq,.func (W.fnOf "_law_lists" "_law_lists" (G8 KG) (G6 KG) (GV KG) .none sR yd Bb Ck pk wU),As⟩)
 (m9:W.codeIn K pk "_law_lists" = true)
 (fE:W.keepIn K (.ref mY)=true)
 (nE:W.nsIn K mainGlobals "_law_state" = some (some (.ref kH)))
 (iB:K.lookup kH=some ⟨uF,yH,.func (W.fnOf "_law_state" "_law_state" (G8 KE) (G6 KE) (GV KE) .none DA yN vL Ea sj AN),Ac⟩)
 (pA:W.codeIn K sj "_law_state" = true)
 (eG:W.keepIn K (.ref kH)=true)
 (oS:W.nsIn K mainGlobals "_law_refuses" = some (some (.ref lW)))
 (mO:K.lookup lW=some ⟨Ah,Da,.func (W.fnOf "_law_refuses" "_law_refuses" (G8 JW) (G6 JW) (GV JW) .none yR vU wf zQ jK yp),t0⟩)
 (nh:W.codeIn K jK "_law_refuses" = true)
 (gW:W.keepIn K (.ref lW)=true)
 (kg:W.nsIn K mainGlobals "_law_plain" = some (some (.ref iN)))
 (qw:K.lookup iN=some ⟨Az,EW,.func (W.fnOf "_law_plain" "_law_plain" (G8 KF) (G6 KF) (GV KF) .none tZ EB Aq Fa nI wc),yx⟩)
 (kB:W.codeIn K nI "_law_plain" = true)
 (dH:W.keepIn K (.ref iN)=true)
 (mr:W.nsIn K mainGlobals "_law_lists_stand" = some (some (.ref rX)))
 (iA:K.lookup rX=some ⟨AM,Bz,.func (W.fnOf "_law_lists_stand" "_law_lists_stand" (G8 Io) (G6 Io) (GV Io) .none zJ DZ Bn BY oW xl),vS⟩)
 (mG:W.codeIn K oW "_law_lists_stand" = true)
 (gj:W.keepIn K (.ref rX)=true)
 (o0:W.nsIn K mainGlobals "_law_ends" = some (some (.ref ir)))
 (lj:K.lookup ir=some ⟨xr,DU,.func (W.fnOf "_law_ends" "_law_ends" (G8 J3) (G6 J3) (GV J3) .none z9 E4 Ef xD jH Cn),Cr⟩)
 (ij:W.codeIn K jH "_law_ends" = true)
 (eQ:W.keepIn K (.ref ir)=true)
 (m7:W.nsIn K mainGlobals "law" = some (some (.ref qD)))
 (qo:K.lookup qD=some ⟨vF,yM,.func (W.fnOf "law" "law" (G8 M7) (G6 M7) (GV M7) .none kF jO oJ js cO iS),xf⟩)
 (ql:W.codeIn K cO "law" = true)
 (nG:W.keepIn K (.ref qD)=true)
 (z0:W.nsIn K mainGlobals "len" = some none)
 (z1:W.nsIn K mainGlobals "range" = some none)
 (z2:W.nsIn K mainGlobals "list" = some none)
 (z3:W.nsIn K mainGlobals "max" = some none)
 (z4:W.nsIn K mainGlobals "min" = some none)
 (z5:W.nsIn K mainGlobals "sum" = some none)
 (z6:W.nsIn K mainGlobals "sorted" = some none)
 (z7:W.nsIn K mainGlobals "dict" = some none)
 : ∃fd:FuncData,(∀(s:Shared) (v:Value),BindsTo s fd ⟨[v],[]⟩ [("_law_script",v)])∧∀base:Heap,K.In base→base.Ns mainGlobals mg→FnOkS l.prog w K mg base Jg 11 fa fd ["_law_script"] (VD K):=by
 have e:=hfa.symm.trans (aAv X G m7)
 cases e
 have T:Txt mg:={ b_len:=aBq X G z0,b_range:=aBq X G z1,b_list:=aBq X G z2,b_max:=aBq X G z3,b_min:=aBq X G z4,b_sum:=aBq X G z5,b_sorted:=aBq X G z6,b_dict:=aBq X G z7 }
 have R_Teller:TellerC K mg ac:={ cl_Teller:=⟨br,bP,bp,bK⟩,mg_Teller:=aAv X G bI,n_keep:=aK,n_turn:=aJ,n_total:=aA,n_stored:=aw,n_newest:=av }
 have R_Hearer:HearK K mg aa:={ cl_Hearer:=⟨bn,bM,bJ,bw⟩,mg_Hearer:=aAv X G bE,n_next_number:=ai,n_past:=aD,n_held:=aL,n_known:=ay,n_given_up:=am }
 have R_Fan:FanC K mg af:={ cl_Fan:=⟨cD,cA,cE,cz⟩,mg_Fan:=aAv X G cv,n_teller:=aN,n_roads:=aV,n_hearers:=aE }
 have R_Road:RoadC K mg ad:={ cl_Road:=⟨ck,cq,cp,cr⟩,mg_Road:=aAv X G cu,n_size:=aU,n_way:=bh,n_row:=aY,n_dropped:=az,n_broken:=aH }
 have R_Sources:SourcesC K mg ae:={ cl_Sources:=⟨be,bf,bd,bi⟩,mg_Sources:=aAv X G aZ,n_hearers:=ak,n_story:=ar }
 have R_Window:WindowC K mg ag:={ cl_Window:=⟨bq,bO,bz,bQ⟩,mg_Window:=aAv X G bN,n_room:=aG,n_on_way:=au,n_row:=aP,n_arrived:=aq }
 have R_Relay:RelayC K mg ah:={ cl_Relay:=⟨bX,ci,cf,cj⟩,mg_Relay:=aAv X G bY,n_next_number:=aj,n_past:=aM,n_held:=aQ,n_known:=aI,n_given_up:=ao,n_keep:=aR }
 have TC:TxtA K mg ⟨ac,aa,af,ad,ae,ag,ah⟩:=⟨R_Teller,R_Hearer,R_Fan,R_Road,R_Sources,R_Window,R_Relay⟩
 have TF:TxtF K mg af ac ad aa:=⟨R_Fan,R_Teller,R_Road,R_Hearer⟩
 have TS:TxtC K mg ae aa:=⟨R_Sources,R_Hearer⟩
 have TB:TxtB K mg ah aa:=⟨R_Relay,⟨R_Hearer.cl_Hearer,R_Hearer.mg_Hearer⟩⟩
 have TX:TxtX K mg XT XN XR XA XO:={ a_TellError:=aAv X G aO,a_NoNumber:=aAv X G aC,a_NoRoad:=aAv X G aS,a_Taken:=aAv X G bb,a_Other:=aAv X G bg,eN:=cN,eR:=cI,eK:=cK,eO:=cP }
 have xc_NoNumber:Exc K mg "NoNumber" XN:=⟨aAv X G aC,aW⟩
 have xc_NoRoad:Exc K mg "NoRoad" XR:=⟨aAv X G aS,bv⟩
 have xc_Taken:Exc K mg "Taken" XA:=⟨aAv X G bb,bZ⟩
 have xc_Other:Exc K mg "Other" XO:=⟨aAv X G bg,bV⟩
 have F0:=He (st:=JU) l0 c0 k0
 have b0:=F0.binds (ps:=["message"]) fun _ _ _ _ _ _=>IR fun _=>rfl
 have F1:=He (st:=Kc) l1 c1 k1
 have b1:=F1.binds (ps:=["message"]) fun _ _ _ _ _ _=>IR fun _=>rfl
 have F2:=He (st:=KA) l2 c2 k2
 have b2:=F2.binds (ps:=["message"]) fun _ _ _ _ _ _=>IR fun _=>rfl
 have F3:=He (st:=JF) l3 c3 k3
 have b3:=F3.binds (ps:=["messages","topics"]) fun _ _ _ _ _ _=>JT fun _ _=>rfl
 have F4:=He (st:=HD) l4 c4 k4
 have b4:=F4.binds (ps:=["messages","number"]) fun _ _ _ _ _ _=>JT fun _ _=>rfl
 have F5:=He (st:=JV) l5 c5 k5
 have b5:=F5.binds (ps:=["messages"]) fun _ _ _ _ _ _=>IR fun _=>rfl
 have F6:=He (st:=Ke) l6 c6 k6
 have b6:=F6.binds (ps:=["messages"]) fun _ _ _ _ _ _=>IR fun _=>rfl
 have F7:=He (st:=KI) l7 c7 k7
 have b7:=F7.binds (ps:=["numbers"]) fun _ _ _ _ _ _=>IR fun _=>rfl
 have F8:=He (st:=Il) l8 c8 k8
 have b8:=F8.binds (ps:=["self","keep"]) fun _ _ _ _ _ _=>JT fun _ _=>rfl
 have F9:=He (st:=Jp) l9 c9 k9
 have b9:=F9.binds (ps:=["self","topic","text"]) fun _ _ _ _ _ _=>Qb fun _ _ _=>rfl
 have F10:=He (st:=Jo) lV iJ dw
 have b10:=F10.binds (ps:=["self"]) fun _ _ _ _ _ _=>IR fun _=>rfl
 have F11:=He (st:=Js) qg iz dk
 have b11:=F11.binds (ps:=["self"]) fun _ _ _ _ _ _=>IR fun _=>rfl
 have F12:=He (st:=IH) oM pK dQ
 have b12:=F12.binds (ps:=["self"]) fun _ _ _ _ _ _=>IR fun _=>rfl
 have F13:=He (st:=Jr) iD oV dN
 have b13:=F13.binds (ps:=["self"]) fun _ _ _ _ _ _=>IR fun _=>rfl
 have F14:=He (st:=II) r9 oQ dP
 have b14:=F14.binds (ps:=["self","number","topics"]) fun _ _ _ _ _ _=>Qb fun _ _ _=>rfl
 have F15:=He (st:=Jq) pO mI fm
 have b15:=F15.binds (ps:=["self"]) fun _ _ _ _ _ _=>IR fun _=>rfl
 have F16:=He (st:=IV) mt qW gX
 have b16:=F16.binds (ps:=["self","mark","topics"]) fun _ _ _ _ _ _=>Qb fun _ _ _=>rfl
 have F17:=He (st:=IM) hX lg oK
 have b17:=F17.binds (ps:=["self","size","way"]) fun _ _ _ _ _ _=>Qb fun _ _ _=>rfl
 have F18:=He (st:=Ig) iy lP eC
 have b18:=F18.binds (ps:=["self","messages"]) fun _ _ _ _ _ _=>JT fun _ _=>rfl
 have F19:=He (st:=HI) lM kX fR
 have b19:=F19.binds (ps:=["self","message"]) fun _ _ _ _ _ _=>JT fun _ _=>rfl
 have F20:=He (st:=Kg) jw lH d8
 have b20:=F20.binds (ps:=["self","message"]) fun _ _ _ _ _ _=>JT fun _ _=>rfl
 have F21:=He (st:=IX) pT nN dJ
 have b21:=F21.binds (ps:=["self"]) fun _ _ _ _ _ _=>IR fun _=>rfl
 have F22:=He (st:=IL) hV pP fA
 have b22:=F22.binds (ps:=["self"]) fun _ _ _ _ _ _=>IR fun _=>rfl
 have F23:=He (st:=Jt) rf qi fg
 have b23:=F23.binds (ps:=["self"]) fun _ _ _ _ _ _=>IR fun _=>rfl
 have F24:=He (st:=HC) jT kJ nJ
 have b24:=F24.binds (ps:=["self"]) fun _ _ _ _ _ _=>IR fun _=>rfl
 have F25:=He (st:=HF) qM oU df
 have b25:=F25.binds (ps:=["self"]) fun _ _ _ _ _ _=>IR fun _=>rfl
 have F26:=He (st:=HR) mF pj fM
 have b26:=F26.binds (ps:=["self"]) fun _ _ _ _ _ _=>IR fun _=>rfl
 have F27:=He (st:=Hv) nK iY eM
 have b27:=F27.binds (ps:=["self"]) fun _ _ _ _ _ _=>IR fun _=>rfl
 have F28:=He (st:=Ht) qS pc fP
 have b28:=F28.binds (ps:=["self","messages"]) fun _ _ _ _ _ _=>JT fun _ _=>rfl
 have F29:=He (st:=HB) iT pH dG
 have b29:=F29.binds (ps:=["self","messages"]) fun _ _ _ _ _ _=>JT fun _ _=>rfl
 have F30:=He (st:=HZ) ri oO gy
 have b30:=F30.binds (ps:=["self","message"]) fun _ _ _ _ _ _=>JT fun _ _=>rfl
 have F31:=He (st:=I9) pL nj fW
 have b31:=F31.binds (ps:=["self"]) fun _ _ _ _ _ _=>IR fun _=>rfl
 have F32:=He (st:=Ih) rj pp eX
 have b32:=F32.binds (ps:=["self"]) fun _ _ _ _ _ _=>IR fun _=>rfl
 have F33:=He (st:=Ju) sk iQ cV
 have b33:=F33.binds (ps:=["self"]) fun _ _ _ _ _ _=>IR fun _=>rfl
 have F34:=He (st:=IZ) lX rP gz
 have b34:=F34.binds (ps:=["self"]) fun _ _ _ _ _ _=>IR fun _=>rfl
 have F35:=He (st:=HW) qu jh gn
 have b35:=F35.binds (ps:=["self","name"]) fun _ _ _ _ _ _=>JT fun _ _=>rfl
 have F36:=He (st:=Jw) lY og fU
 have b36:=F36.binds (ps:=["self","name"]) fun _ _ _ _ _ _=>JT fun _ _=>rfl
 have F37:=He (st:=IN) nW nV gr
 have b37:=F37.binds (ps:=["self","name"]) fun _ _ _ _ _ _=>JT fun _ _=>rfl
 have F38:=He (st:=JY) iP km gG
 have b38:=F38.binds (ps:=["self","name"]) fun _ _ _ _ _ _=>JT fun _ _=>rfl
 have F39:=He (st:=Ki) iF jB eI
 have b39:=F39.binds (ps:=["self","name"]) fun _ _ _ _ _ _=>JT fun _ _=>rfl
 have F40:=He (st:=Jv) iZ qG dj
 have b40:=F40.binds (ps:=["self","name"]) fun _ _ _ _ _ _=>JT fun _ _=>rfl
 have F41:=He (st:=KK) lC ii fZ
 have b41:=F41.binds (ps:=["self","name"]) fun _ _ _ _ _ _=>JT fun _ _=>rfl
 have F42:=He (st:=JX) ik qb gY
 have b42:=F42.binds (ps:=["self"]) fun _ _ _ _ _ _=>IR fun _=>rfl
 have F43:=He (st:=Ja) nA nX jD
 have b43:=F43.binds (ps:=["self","keep"]) fun _ _ _ _ _ _=>JT fun _ _=>rfl
 have F44:=He (st:=Kh) o8 ng gu
 have b44:=F44.binds (ps:=["self","topic","text"]) fun _ _ _ _ _ _=>Qb fun _ _ _=>rfl
 have F45:=He (st:=JZ) rK kZ fT
 have b45:=F45.binds (ps:=["self","name"]) fun _ _ _ _ _ _=>JT fun _ _=>rfl
 have F46:=He (st:=KJ) iI sg dy
 have b46:=F46.binds (ps:=["self","name","size","way"]) fun _ _ _ _ _ _=>acT fun _ _ _ _=>rfl
 have F47:=He (st:=Iz) jL se dC
 have b47:=F47.binds (ps:=["self"]) fun _ _ _ _ _ _=>IR fun _=>rfl
 have F48:=He (st:=Ie) qF qk pU
 have b48:=F48.binds (ps:=["self"]) fun _ _ _ _ _ _=>IR fun _=>rfl
 have F49:=He (st:=IK) rQ oH cQ
 have b49:=F49.binds (ps:=["self"]) fun _ _ _ _ _ _=>IR fun _=>rfl
 have F50:=He (st:=IW) jM mE de
 have b50:=F50.binds (ps:=["self","source","message"]) fun _ _ _ _ _ _=>Qb fun _ _ _=>rfl
 have F51:=He (st:=IJ) jY kx gx
 have b51:=F51.binds (ps:=["self"]) fun _ _ _ _ _ _=>IR fun _=>rfl
 have F52:=He (st:=Iq) lG iV fj
 have b52:=F52.binds (ps:=["self","marks"]) fun _ _ _ _ _ _=>JT fun _ _=>rfl
 have F53:=He (st:=Ik) jI mo qh
 have b53:=F53.binds (ps:=["self","room"]) fun _ _ _ _ _ _=>JT fun _ _=>rfl
 have F54:=He (st:=Jm) lI rR gf
 have b54:=F54.binds (ps:=["self"]) fun _ _ _ _ _ _=>IR fun _=>rfl
 have F55:=He (st:=IG) ni rW fb
 have b55:=F55.binds (ps:=["self"]) fun _ _ _ _ _ _=>IR fun _=>rfl
 have F56:=He (st:=JI) lN lw gh
 have b56:=F56.binds (ps:=["self","message"]) fun _ _ _ _ _ _=>JT fun _ _=>rfl
 have F57:=He (st:=IQ) mP jp eE
 have b57:=F57.binds (ps:=["self","number"]) fun _ _ _ _ _ _=>JT fun _ _=>rfl
 have F58:=He (st:=IU) rm mW gO
 have b58:=F58.binds (ps:=["self"]) fun _ _ _ _ _ _=>IR fun _=>rfl
 have F59:=He (st:=IB) qe kj gc
 have b59:=F59.binds (ps:=["self"]) fun _ _ _ _ _ _=>IR fun _=>rfl
 have F60:=He (st:=Jn) lR oG eU
 have b60:=F60.binds (ps:=["self"]) fun _ _ _ _ _ _=>IR fun _=>rfl
 have F61:=He (st:=HC) nS oq dO
 have b61:=F61.binds (ps:=["self"]) fun _ _ _ _ _ _=>IR fun _=>rfl
 have F62:=He (st:=IC) rM qB kt
 have b62:=F62.binds (ps:=["self","keep"]) fun _ _ _ _ _ _=>JT fun _ _=>rfl
 have F63:=He (st:=HF) lu qE cX
 have b63:=F63.binds (ps:=["self"]) fun _ _ _ _ _ _=>IR fun _=>rfl
 have F64:=He (st:=Hv) oj ip eY
 have b64:=F64.binds (ps:=["self"]) fun _ _ _ _ _ _=>IR fun _=>rfl
 have F65:=He (st:=Ht) mV kG gZ
 have b65:=F65.binds (ps:=["self","messages"]) fun _ _ _ _ _ _=>JT fun _ _=>rfl
 have F66:=He (st:=HB) rn io fI
 have b66:=F66.binds (ps:=["self","messages"]) fun _ _ _ _ _ _=>JT fun _ _=>rfl
 have F67:=He (st:=HZ) qY mH gP
 have b67:=F67.binds (ps:=["self","message"]) fun _ _ _ _ _ _=>JT fun _ _=>rfl
 have F68:=He (st:=HR) pd jz dY
 have b68:=F68.binds (ps:=["self"]) fun _ _ _ _ _ _=>IR fun _=>rfl
 have F69:=He (st:=JJ) pB si dA
 have b69:=F69.binds (ps:=["self"]) fun _ _ _ _ _ _=>IR fun _=>rfl
 have F70:=He (st:=IY) oF qp di
 have b70:=F70.binds (ps:=["self","number","topics"]) fun _ _ _ _ _ _=>Qb fun _ _ _=>rfl
 have F71:=He (st:=Kf) lA kC fo
 have b71:=F71.binds (ps:=["plan"]) fun _ _ _ _ _ _=>IR fun _=>rfl
 have F72:=He (st:=Kd) j6 lL gB
 have b72:=F72.binds (ps:=["plan"]) fun _ _ _ _ _ _=>IR fun _=>rfl
 have F73:=He (st:=KB) mh oP gw
 have b73:=F73.binds (ps:=["plan"]) fun _ _ _ _ _ _=>IR fun _=>rfl
 have F74:=He (st:=KD) mj mK gb
 have b74:=F74.binds (ps:=["plan"]) fun _ _ _ _ _ _=>IR fun _=>rfl
 have F75:=He (st:=Kz) rS jF gq
 have b75:=F75.binds (ps:=["plan","number"]) fun _ _ _ _ _ _=>JT fun _ _=>rfl
 have F76:=He (st:=LF) pE mM dM
 have b76:=F76.binds (ps:=["plan"]) fun _ _ _ _ _ _=>IR fun _=>rfl
 have F77:=He (st:=KC) mz lQ gg
 have b77:=F77.binds (ps:=["plan","start"]) fun _ _ _ _ _ _=>JT fun _ _=>rfl
 have F78:=He (st:=Lm) iU ou fH
 have b78:=F78.binds (ps:=["_law_script","_law_k"]) fun _ _ _ _ _ _=>JT fun _ _=>rfl
 have F79:=He (st:=KH) jN rL du
 have b79:=F79.binds (ps:=["_law_script","_law_k","_law_many"]) fun _ _ _ _ _ _=>Qb fun _ _ _=>rfl
 have F80:=He (st:=JH) ph rT fG
 have b80:=F80.binds (ps:=["_law_script","_law_at"]) fun _ _ _ _ _ _=>JT fun _ _=>rfl
 have F81:=He (st:=KG) qR m9 fE
 have b81:=F81.binds (ps:=["_law_teller","_law_hearer","_law_fan","_law_sources","_law_window","_law_road"]) fun _ _ _ _ _ _=>acS fun _ _ _ _ _ _=>rfl
 have F82:=He (st:=KE) iB pA eG
 have b82:=F82.binds (ps:=["_law_parts"]) fun _ _ _ _ _ _=>IR fun _=>rfl
 have F83:=He (st:=JW) mO nh gW
 have b83:=F83.binds (ps:=["_law_which","_law_parts"]) fun _ _ _ _ _ _=>JT fun _ _=>rfl
 have F84:=He (st:=KF) qw kB dH
 have b84:=F84.binds (ps:=["_law_messages_here","_law_topics","_law_numbers"]) fun _ _ _ _ _ _=>Qb fun _ _ _=>rfl
 have F85:=He (st:=Io) iA mG gj
 have b85:=F85.binds (ps:=["_law_messages_here","_law_topics","_law_numbers"]) fun _ _ _ _ _ _=>Qb fun _ _ _=>rfl
 have F86:=He (st:=J3) lj ij eQ
 have b86:=F86.binds (ps:=["_law_parts","_law_messages_here","_law_before"]) fun _ _ _ _ _ _=>Qb fun _ _ _=>rfl
 have F87:=He (st:=M7) qo ql nG
 refine ⟨W.fnOf "law" "law" (G8 M7) (G6 M7) (GV M7) .none kF jO oJ js cO iS,fun s v=>.of_eq rfl,fun base _ _=>?_⟩
 have C0:Callee l.prog w K mg base 1 _ _ _:=⟨_,_,Se F0 ,aAv X G a0,k0,b0⟩
 have C1:Callee l.prog w K mg base 1 _ _ _:=⟨_,_,Ts F1 ,aAv X G a1,k1,b1⟩
 have C2:Callee l.prog w K mg base 1 _ _ _:=⟨_,_,UQ F2 ,aAv X G a2,k2,b2⟩
 have C3:Callee l.prog w K mg base 2 _ _ _:=⟨_,_,Sd F3 T C1,aAv X G a3,k3,b3⟩
 have C4:Callee l.prog w K mg base 2 _ _ _:=⟨_,_,Lu F4 T C0,aAv X G a4,k4,b4⟩
 have C5:Callee l.prog w K mg base 4 _ _ _:=⟨_,_,Sf F5 T C0 C1,aAv X G a5,k5,b5⟩
 have C6:Callee l.prog w K mg base 5 _ _ _:=⟨_,_,Tu F6 T C5 C1 C2,aAv X G a6,k6,b6⟩
 have C7:Callee l.prog w K mg base 1 _ _ _:=⟨_,_,UY F7 T,aAv X G a7,k7,b7⟩
 have C8:CalleeI l.prog w K mg base 1 _ _ (OY ac):=⟨_,_,P2 F8 R_Teller,⟨bG,a8,i8,bx⟩,b8⟩
 have C9:CalleeM l.prog w K mg base 1 _ _ _ _:=⟨_,_,PY F9 T R_Teller,⟨a9,i9,k9⟩,b9⟩
 have C10:CalleeM l.prog w K mg base 1 _ _ _ _:=⟨_,_,PX F10 R_Teller,⟨iw,qH,dw⟩,b10⟩
 have C11:CalleeM l.prog w K mg base 1 _ _ _ _:=⟨_,_,P1 F11 T R_Teller,⟨mR,jt,dk⟩,b11⟩
 have C12:CalleeM l.prog w K mg base 1 _ _ _ _:=⟨_,_,NY F12 T R_Teller,⟨rH,j8,dQ⟩,b12⟩
 have C13:CalleeM l.prog w K mg base 5 _ _ _ _:=⟨_,_,P0 F13 T R_Teller C5,⟨il,mC,dN⟩,b13⟩
 have C14:CalleeMX l.prog w K mg base 3 _ _ _ _:=⟨_,_,Nc F14 T R_Teller xc_NoNumber C3 C4 C12,⟨kl,nB,dP⟩,b14⟩
 have C15:CalleeM l.prog w K mg base 1 _ _ _ _:=⟨_,_,PZ F15 R_Teller,⟨lB,iM,fm⟩,b15⟩
 have C16:CalleeMX l.prog w K mg base 6 _ _ _ _:=⟨_,_,NT F16 T R_Teller xc_NoNumber C3 C4 C13 C14,⟨iH,rh,gX⟩,b16⟩
 have C17:CalleeI l.prog w K mg base 1 _ _ (OZ ad):=⟨_,_,Sh F17 R_Road,⟨cn,jP,kR,cm⟩,b17⟩
 have C18:CalleeM l.prog w K mg base 2 _ _ _ _:=⟨_,_,Ng F18 R_Road C0,⟨nO,iK,eC⟩,b18⟩
 have C19:CalleeM l.prog w K mg base 3 _ _ _ _:=⟨_,_,Lg F19 R_Road C18,⟨pb,jR,fR⟩,b19⟩
 have C20:CalleeM l.prog w K mg base 4 _ _ _ _:=⟨_,_,Tw F20 T R_Road C18 C19,⟨rY,qz,d8⟩,b20⟩
 have C21:CalleeM l.prog w K mg base 1 _ _ _ _:=⟨_,_,OJ F21 T R_Road,⟨im,oz,dJ⟩,b21⟩
 have C22:CalleeM l.prog w K mg base 1 _ _ _ _:=⟨_,_,N2 F22 T R_Road,⟨pR,qZ,fA⟩,b22⟩
 have C23:CalleeM l.prog w K mg base 1 _ _ _ _:=⟨_,_,P3 F23 R_Road,⟨qJ,jn,fg⟩,b23⟩
 have C24:CalleeI l.prog w K mg base 1 _ _ (Me aa):=⟨_,_,L8 F24 R_Hearer.toHearC,⟨bo,ny,hG,bC⟩,b24⟩
 have C25:CalleeM l.prog w K mg base 1 _ _ _ _:=⟨_,_,Le F25 R_Hearer.toHearC,⟨pi,i5,df⟩,b25⟩
 have C26:CalleeM l.prog w K mg base 1 _ _ _ _:=⟨_,_,LP F26 T R_Hearer.toHearC,⟨rq,rB,fM⟩,b26⟩
 have C27:CalleeM l.prog w K mg base 1 _ _ _ _:=⟨_,_,Kt F27 R_Hearer.toHearC,⟨pJ,mS,eM⟩,b27⟩
 have C28:CalleeMX l.prog w K mg base 2 _ _ _ _:=⟨_,_,JO F28 R_Hearer.toHearC xc_Other C0,⟨iX,kK,fP⟩,b28⟩
 have C29:CalleeMX l.prog w K mg base 3 _ _ _ _:=⟨_,_,Ks F29 R_Hearer.toHearC C0 C28 C27,⟨kL,li,dG⟩,b29⟩
 have C30:CalleeMX l.prog w K mg base 4 _ _ _ _:=⟨_,_,LO F30 R_Hearer.toHearC C29,⟨nY,mf,gy⟩,b30⟩
 have C31:CalleeM l.prog w K mg base 1 _ _ _ _:=⟨_,_,OL F31 T R_Hearer.toHearC,⟨qK,iE,fW⟩,b31⟩
 have C32:CalleeM l.prog w K mg base 2 _ _ _ _:=⟨_,_,Nh F32 T R_Hearer.toHearC C31,⟨i6,kU,eX⟩,b32⟩
 have C33:CalleeM l.prog w K mg base 1 _ _ _ _:=⟨_,_,P4 F33 T R_Hearer.toHearC,⟨nL,qv,cV⟩,b33⟩
 have C34:CalleeM l.prog w K mg base 6 _ _ _ _:=⟨_,_,OK F34 R_Hearer.toHearC C6,⟨kN,jX,gz⟩,b34⟩
 have C35:CalleeMX l.prog w K mg base 1 _ _ _ (L0 af ac ad aa XR):=⟨_,_,LG F35 R_Fan xc_NoRoad,⟨ma,pQ,gn⟩,b35⟩
 have C36:CalleeMX l.prog w K mg base 2 _ _ _ (Pl af ac ad aa XR):=⟨_,_,OG F36 R_Fan C35,⟨rZ,rC,fU⟩,b36⟩
 have C37:CalleeMX l.prog w K mg base 2 _ _ _ (KO af ac ad aa XR):=⟨_,_,Nd F37 R_Fan C35,⟨iC,hU,gr⟩,b37⟩
 have C38:CalleeMX l.prog w K mg base 3 _ _ _ (ND af ac ad aa XR):=⟨_,_,QI F38 TF C37 C26,⟨qA,iq,gG⟩,b38⟩
 have C39:CalleeMX l.prog w K mg base 3 _ _ _ (Pm af ac ad aa XR):=⟨_,_,Sc F39 TF C37 C33,⟨oA,qC,eI⟩,b39⟩
 have C40:CalleeMX l.prog w K mg base 3 _ _ _ (Pk af ac ad aa XR):=⟨_,_,OF F40 TF C36 C21,⟨iW,rJ,dj⟩,b40⟩
 have C41:CalleeMX l.prog w K mg base 3 _ _ _ (O1 af ac ad aa XR):=⟨_,_,Tr F41 TF C37 C10 C25,⟨pM,qx,fZ⟩,b41⟩
 have C42:CalleeM l.prog w K mg base 1 _ _ _ (M0 af ac ad aa):=⟨_,_,Si F42 T R_Fan,⟨iO,mw,gY⟩,b42⟩
 have C43:CalleeI l.prog w K mg base 3 _ _ (RV af ac ad aa):=⟨_,_,Ty F43 TF C8,⟨cw,j0,pV,cy⟩,b43⟩
 have C44:CalleeM l.prog w K mg base 5 _ _ _ (RT af ac ad aa):=⟨_,_,Tx F44 TF C9 C20,⟨pC,ki,gu⟩,b44⟩
 have C45:CalleeMX l.prog w K mg base 2 _ _ _ (NE af ac ad aa XR):=⟨_,_,QJ F45 R_Fan C35,⟨rE,jG,fT⟩,b45⟩
 have C46:CalleeMX l.prog w K mg base 3 _ _ _ (O0 af ac ad aa XA):=⟨_,_,Tq F46 TF xc_Taken C17 C24,⟨oi,nR,dy⟩,b46⟩
 have C47:CalleeM l.prog w K mg base 4 _ _ _ (RU af ac ad aa):=⟨_,_,P5 F47 T TF C42 C41,⟨lZ,so,dC⟩,b47⟩
 have C48:CalleeI l.prog w K mg base 1 _ _ (RM ae aa):=⟨_,_,OI F48 R_Sources,⟨ba,nH,mn,aX⟩,b48⟩
 have C49:CalleeM l.prog w K mg base 1 _ _ _ (Pf ae aa):=⟨_,_,N1 F49 T R_Sources,⟨pq,re,cQ⟩,b49⟩
 have C50:CalleeMX l.prog w K mg base 5 _ _ _ (MX ae aa XO):=⟨_,_,NU F50 T TS C0 C1 C2 C24 C30,⟨mq,jE,de⟩,b50⟩
 have C51:CalleeM l.prog w K mg base 2 _ _ _ (MY ae aa):=⟨_,_,NZ F51 TS C25,⟨lx,mQ,gx⟩,b51⟩
 have C52:CalleeM l.prog w K mg base 3 _ _ _ (Pe ae aa):=⟨_,_,N0 F52 T R_Sources C51,⟨pD,rA,fj⟩,b52⟩
 have C53:CalleeI l.prog w K mg base 1 _ _ (RQ ag):=⟨_,_,PR F53 R_Window,⟨bA,nP,me,bj⟩,b53⟩
 have C54:CalleeM l.prog w K mg base 1 _ _ _ (RR ag):=⟨_,_,PU F54 T R_Window,⟨jQ,kI,gf⟩,b54⟩
 have C55:CalleeM l.prog w K mg base 2 _ _ _ _:=⟨_,_,NX F55 R_Window C54,⟨jk,kP,fb⟩,b55⟩
 have C56:CalleeM l.prog w K mg base 3 _ _ _ _:=⟨_,_,QL F56 R_Window C55,⟨j7,ky,gh⟩,b56⟩
 have C57:CalleeMX l.prog w K mg base 3 _ _ _ _:=⟨_,_,OE F57 R_Window xc_NoNumber C0 C55,⟨ja,jJ,eE⟩,b57⟩
 have C58:CalleeM l.prog w K mg base 1 _ _ _ _:=⟨_,_,OH F58 T R_Window,⟨jo,jf,gO⟩,b58⟩
 have C59:CalleeM l.prog w K mg base 1 _ _ _ _:=⟨_,_,Nf F59 T R_Window,⟨ic,jy,gc⟩,b59⟩
 have C60:CalleeM l.prog w K mg base 1 _ _ _ _:=⟨_,_,PV F60 R_Window,⟨pS,jW,eU⟩,b60⟩
 have C61:CalleeB l.prog w K mg base 1 _ _ _ _:=⟨_,_,L8 F61 R_Relay.toHearC,⟨cG,cM,cJ,rfl,dO⟩,b61⟩
 have C62:CalleeI l.prog w K mg base 2 _ _ (Pj ah):=⟨_,_,QN F62 TB C61,⟨bU,pI,qN,cg⟩,b62⟩
 have C63:CalleeM l.prog w K mg base 1 _ _ _ _:=⟨_,_,Le F63 R_Relay.toHearC,⟨kf,qU,cX⟩,b63⟩
 have C64:CalleeM l.prog w K mg base 1 _ _ _ _:=⟨_,_,Kt F64 R_Relay.toHearC,⟨pw,my,eY⟩,b64⟩
 have C65:CalleeMX l.prog w K mg base 2 _ _ _ _:=⟨_,_,JO F65 R_Relay.toHearC xc_Other C0,⟨pW,je,gZ⟩,b65⟩
 have C66:CalleeMX l.prog w K mg base 3 _ _ _ _:=⟨_,_,Ks F66 R_Relay.toHearC C0 C65 C64,⟨ke,lO,fI⟩,b66⟩
 have C67:CalleeMX l.prog w K mg base 4 _ _ _ _:=⟨_,_,LO F67 R_Relay.toHearC C66,⟨pN,mZ,gP⟩,b67⟩
 have C68:CalleeM l.prog w K mg base 1 _ _ _ _:=⟨_,_,LP F68 T R_Relay.toHearC,⟨oN,ju,dY⟩,b68⟩
 have C69:CalleeM l.prog w K mg base 2 _ _ _ _:=⟨_,_,QM F69 T R_Relay C68,⟨o9,nU,dA⟩,b69⟩
 have C70:CalleeMX l.prog w K mg base 3 _ _ _ _:=⟨_,_,NV F70 T R_Relay xc_NoNumber C3 C4 C63 C69,⟨kr,oZ,di⟩,b70⟩
 have C71:Callee l.prog w K mg base 1 _ _ _:=⟨_,_,Tv F71 ,aAv X G nZ,fo,b71⟩
 have C72:Callee l.prog w K mg base 1 _ _ _:=⟨_,_,Tt F72 ,aAv X G jx,gB,b72⟩
 have C73:Callee l.prog w K mg base 1 _ _ _:=⟨_,_,UR F73 ,aAv X G qy,gw,b73⟩
 have C74:Callee l.prog w K mg base 1 _ _ _:=⟨_,_,UT F74 ,aAv X G ig,gb,b74⟩
 have C75:Callee l.prog w K mg base 2 _ _ _:=⟨_,_,UP F75 T C71 C72 C73,aAv X G lJ,gq,b75⟩
 have C76:Callee l.prog w K mg base 3 _ _ _:=⟨_,_,Ya F76 T C74 C75,aAv X G qj,dM,b76⟩
 have C77:Callee l.prog w K mg base 4 _ _ _:=⟨_,_,US F77 C76,aAv X G qQ,gg,b77⟩
 have C78:Callee l.prog w K mg base 1 _ _ _:=⟨_,_,Wt F78 T,aAv X G qr,fH,b78⟩
 have C79:Callee l.prog w K mg base 2 _ _ _:=⟨_,_,UX F79 T C78,aAv X G pF,du,b79⟩
 have C80:Callee l.prog w K mg base 3 _ _ _:=⟨_,_,QK F80 T C79,aAv X G rc,fG,b80⟩
 have C81:Callee l.prog w K mg base 7 _ _ _:=⟨_,_,UW F81 TC C11 C13 C14 C16 C26 C31 C32 C33 C42 C47 C38 C39 C40 C49 C52 C58 C59 C21 C22,aAv X G kO,fE,b81⟩
 have C82:Callee l.prog w K mg base 8 _ _ _:=⟨_,_,UU F82 TC C81 C10 C12 C15 C25 C41 C60 C34 C51 C63 C23 C69 C70,aAv X G nE,eG,b82⟩
 have C83:CalleeS l.prog w K mg base 9 _ _ _:=⟨_,_,Sg F83 TC TX C82 C14 C30 C46 C45 C70 C57 C50,aAv X G oS,gW,b83⟩
 have C84:Callee l.prog w K mg base 5 _ _ _:=⟨_,_,UV F84 C3 C5 C7 C76 C77,aAv X G kg,dH,b84⟩
 have C85:Callee l.prog w K mg base 6 _ _ _:=⟨_,_,NW F85 T C6 C84,aAv X G mr,gj,b85⟩
 have C86:CalleeS l.prog w K mg base 10 _ _ _:=⟨_,_,Ws F86 T TC C81 C82 C83 C30 C26,aAv X G o0,eQ,b86⟩
 exact aa6 F87 T TC C79 C80 C85 C86 C8 C24 C43 C48 C53 C17 C62 C46 C9 C44 C20 C56 C67 C50 C29 C30
theorem walk{l:W.OpenLaw}{q:Program}{loose:List Str}{XP:(Str→Option Value)→Heap→Prop}{YP:World→Heap→Prop}{d:DefRec}{K:Params→W.Frag}(hn:l.most=some 63)(hdf:d.params.defaults=[])
 (hY:∀(w:World) (h:Heap),YP w h→(K w.params).In h)
 (F:∀(w:World) (mg:Str→Option Value) (fa:Addr) (h:Heap),(K w.params).In h→h.Ns mainGlobals mg→mg d.name=some (.ref fa)→
  ∃fd:FuncData,(∀(s:Shared) (u:Value),BindsTo s fd ⟨[u],[]⟩ [("_law_script",u)])∧∀base:Heap,(K w.params).In base→base.Ns mainGlobals mg→FnOkS l.prog w (K w.params) mg base Jg 11 fa fd ["_law_script"] (VD (K w.params))) :
 W.WalkO q loose XP YP l.row.toRowW d [] (fun f vs=>PySem.call f vs):=
 L2.walk_of (n:=63) (k:=11) (x:="_law_script") (CX:=fun _=>Jg) (sp:=fun w=>VD (K w.params)) hn (by decide) hdf ⟨by decide,by decide⟩ hY F (fun _ _ a ns hl _ hS=>⟨a,ns,rfl,hS,hl,fun _=>rfl⟩) fun _ _ _ _ _ z=>z
end K90
def PySem.W.Fast.tw2246766748629966186:Unit:=()
def PySem.W.Fast.tw6665429763602476573:Unit:=()
def PySem.W.Fast.tw5551035502196809310:Unit:=()
def PySem.W.Fast.tw5234344321174372500:Unit:=()
def PySem.W.Fast.tw17570464658776165921:Unit:=()
def PySem.W.Fast.tw9623646716942041732:Unit:=()
def PySem.W.Fast.tw16904457413023280683:Unit:=()
def PySem.W.Fast.tw644471791491918842:Unit:=()
def PySem.W.Fast.tw4272345514940274653:Unit:=()
def PySem.W.Fast.tw11168907788873119651:Unit:=()
def PySem.W.Fast.tw12672349226342377196:Unit:=()
def PySem.W.Fast.tw13296393525945135332:Unit:=()
def PySem.W.Fast.tw12772433357752749602:Unit:=()
def PySem.W.Fast.tw2204467855247930923:Unit:=()
def PySem.W.Fast.tw16546545870073615641:Unit:=()
def PySem.W.Fast.tw2992327840893739815:Unit:=()
def PySem.W.Fast.tw7053825625812135511:Unit:=()
def PySem.W.Fast.tw6263429085015492378:Unit:=()
def PySem.W.Fast.tw15238196709822729401:Unit:=()
def PySem.W.Fast.tw8791603624495489709:Unit:=()
def PySem.W.Fast.tw9534837096998286004:Unit:=()
def PySem.W.Fast.tw3436422281624674486:Unit:=()
def PySem.W.Fast.tw3859997441593910659:Unit:=()
def PySem.W.Fast.tw336158701929936224:Unit:=()
def PySem.W.Fast.tw14531230979326577435:Unit:=()
def PySem.W.Fast.tw3852228719897598471:Unit:=()
def PySem.W.Fast.tw5677900303698507220:Unit:=()
def PySem.W.Fast.tw5768249587552255312:Unit:=()
def PySem.W.Fast.tw6479542872732263699:Unit:=()
def PySem.W.Fast.tw14265469480876152084:Unit:=()
def PySem.W.Fast.tw2228818216751574730:Unit:=()
def PySem.W.Fast.tw5318043961434342029:Unit:=()
def PySem.W.Fast.tw5870351990550407382:Unit:=()
def PySem.W.Fast.tw5814697751328363070:Unit:=()
def PySem.W.Fast.tw11968225125229083188:Unit:=()
def PySem.W.Fast.tw4018975485714794199:Unit:=()
def PySem.W.Fast.tw4822679480410818264:Unit:=()
def PySem.W.Fast.tw8507585300286463793:Unit:=()
def PySem.W.Fast.tw5378071477635960064:Unit:=()
def PySem.W.Fast.tw34858001653136705:Unit:=()
def PySem.W.Fast.tw1365153163024709569:Unit:=()
def PySem.W.Fast.tw18414205598429971322:Unit:=()
def PySem.W.Fast.tw12689069916453408045:Unit:=()
def PySem.W.Fast.tw7503907852061385933:Unit:=()
def PySem.W.Fast.tw1238934020477243272:Unit:=()
def PySem.W.Fast.tw3735532573846335952:Unit:=()
def PySem.W.Fast.tw6432256377231858174:Unit:=()
def PySem.W.Fast.tw9001738617514975398:Unit:=()
def PySem.W.Fast.tw8519804679680031619:Unit:=()
def PySem.W.Fast.tw9004113094446521668:Unit:=()
def PySem.W.Fast.tw2477296459762362752:Unit:=()
def PySem.W.Fast.tw6441706079474028391:Unit:=()
def PySem.W.Fast.tw13001913542372046637:Unit:=()
def PySem.W.Fast.tw4300092034552736229:Unit:=()
def PySem.W.Fast.tw6678318773501119842:Unit:=()
def PySem.W.Fast.tw10135655555473018053:Unit:=()
def PySem.W.Fast.tw18377571843814522035:Unit:=()
def PySem.W.Fast.tw15326655272899248961:Unit:=()
def PySem.W.Fast.tw3980821980523463530:Unit:=()
def PySem.W.Fast.tw15969215536636234265:Unit:=()
def PySem.W.Fast.tw683100055449858757:Unit:=()
def PySem.W.Fast.tw152729540759759533:Unit:=()
def PySem.W.Fast.tw963877967851908705:Unit:=()
def PySem.W.Fast.tw1300885484981123820:Unit:=()
def PySem.W.Fast.tw13057603430156474805:Unit:=()
def PySem.W.Fast.tw3913571007226758259:Unit:=()
def PySem.W.Fast.tw16454102124015944833:Unit:=()
def PySem.W.Fast.tw2175473135145028483:Unit:=()
def PySem.W.Fast.tw17189866973342131682:Unit:=()
def PySem.W.Fast.tw5869122027606129042:Unit:=()
def PySem.W.Fast.tw4479723255768456543:Unit:=()
def PySem.W.Fast.tw5318964943621992847:Unit:=()
def PySem.W.Fast.tw11024957584876091180:Unit:=()
def PySem.W.Fast.tw16134948261802712813:Unit:=()
def PySem.W.Fast.tw7563757864841170366:Unit:=()
def PySem.W.Fast.tw4193413537245392223:Unit:=()
def PySem.W.Fast.tw7952482196602073619:Unit:=()
def PySem.W.Fast.tw10593946753169860726:Unit:=()
def PySem.W.Fast.tw13889182156550579556:Unit:=()
def PySem.W.Fast.tw17460318552932475142:Unit:=()
def PySem.W.Fast.tw2302682988462818785:Unit:=()
def PySem.W.Fast.tw3929770641585209939:Unit:=()
def PySem.W.Fast.tw15576469190762035997:Unit:=()
def PySem.W.Fast.tw11120277382744768940:Unit:=()
def PySem.W.Fast.tw2614420731329852006:Unit:=()
def PySem.W.Fast.tw1606349345911183306:Unit:=()
def PySem.W.Fast.tw4227470253117179043:Unit:=()
def PySem.W.Fast.tw12364356536597358893:Unit:=()
def PySem.W.Fast.tw886090256418419098:Unit:=()
def PySem.W.Fast.tw9555605307846190581:Unit:=()
def PySem.W.Fast.tw15642690261737939541:Unit:=()
def PySem.W.Fast.tw4154355192159914500:Unit:=()
def PySem.W.Fast.tw7141501079507142626:Unit:=()
def PySem.W.Fast.tw5246710396387750616:Unit:=()
def PySem.W.Fast.tw17763620420551794207:Unit:=()
def PySem.W.Fast.tw10819992420299532789:Unit:=()
def PySem.W.Fast.tw8489415002882781052:Unit:=()
def PySem.W.Fast.tw10667974524141620966:Unit:=()
def PySem.W.Fast.tw12355704504658439062:Unit:=()
def PySem.W.Fast.tw4652630777308542035:Unit:=()
def PySem.W.Fast.tw17464348059272811711:Unit:=()
def PySem.W.Fast.tw11244470074161280441:Unit:=()
def PySem.W.Fast.tw1714650745414300088:Unit:=()
def PySem.W.Fast.tw16774024887289013832:Unit:=()
def PySem.W.Fast.tw3345377642967623280:Unit:=()
def PySem.W.Fast.tw8283996591612517067:Unit:=()
def PySem.W.Fast.tw11663218500325062051:Unit:=()
def PySem.W.Fast.tw5577604681217851463:Unit:=()
def PySem.W.Fast.tw17624831817806763178:Unit:=()
def PySem.W.Fast.tw8221851458788739564:Unit:=()
def PySem.W.Fast.tw17852709418145629079:Unit:=()
def PySem.W.Fast.tw10965053991142317659:Unit:=()
def PySem.W.Fast.tw13870889892809144960:Unit:=()
def PySem.W.Fast.tw16501490690812344921:Unit:=()
def PySem.W.Fast.tw1728118217511187274:Unit:=()
def PySem.W.Fast.tw14251201800040936034:Unit:=()
def PySem.W.Fast.tw13706903837173229982:Unit:=()
def PySem.W.Fast.tw14146435106562519883:Unit:=()
def PySem.W.Fast.tw2651195529428593918:Unit:=()
def PySem.W.Fast.tw8798894686200883411:Unit:=()
def PySem.W.Fast.tw16789619242932997148:Unit:=()
def PySem.W.Fast.tw10656646652916953119:Unit:=()
def PySem.W.Fast.tw9665533834621893603:Unit:=()
def PySem.W.Fast.tw2605878641657530099:Unit:=()
def PySem.W.Fast.tw14813953266860407906:Unit:=()
def PySem.W.Fast.tw17127839757851737485:Unit:=()
def PySem.W.Fast.tw1617216897839950458:Unit:=()
def PySem.W.Fast.tw6517318936926186396:Unit:=()
def PySem.W.Fast.tw13338600786739250078:Unit:=()
def PySem.W.Fast.tw11898127086171998938:Unit:=()
open PySem PySem.W PyProof.Rows
set_option maxRecDepth 100000 in
set_option maxHeartbeats 0 in
theorem PySem.Challenge.cw_tellroads_k90_again_and_shared_holds : PySem.Challenge.rw_tellroads_k90_again_and_shared.Holds := by
 w_on;o_law;k_head;(case hw=>w_witness2)
 k_fill
 refine K90.walk (l:=PySem.Challenge.rw_tellroads_k90_again_and_shared) rfl rfl (fun w h Y=>PySem.W.kIn_of Y) ?F
 case F=>
  intro w mg fa h KX G hmg
  refine' K90.all_mk KX G hmg ?aO ?aC ?aS ?bb ?bg ?aW ?bv ?bZ ?bV ?cN ?cI ?cK ?cP ?bI ?br ?bP ?bp ?bK ?bG ?bx ?aK ?aJ ?aA ?aw ?av ?bE ?bn ?bM ?bJ ?bw ?bo ?bC ?ai ?aD ?aL ?ay ?am ?cv ?cD ?cA ?cE ?cz ?cw ?cy ?aN ?aV ?aE ?cu ?ck ?cq ?cp ?cr ?cn ?cm ?aU ?bh ?aY ?az ?aH ?aZ ?be ?bf ?bd ?bi ?ba ?aX ?ak ?ar ?bN ?bq ?bO ?bz ?bQ ?bA ?bj ?aG ?au ?aP ?aq ?bY ?bX ?ci ?cf ?cj ?bU ?cg ?aj ?aM ?aQ ?aI ?ao ?aR ?a0 ?l0 ?c0 ?k0 ?a1 ?l1 ?c1 ?k1 ?a2 ?l2 ?c2 ?k2 ?a3 ?l3 ?c3 ?k3 ?a4 ?l4 ?c4 ?k4 ?a5 ?l5 ?c5 ?k5 ?a6 ?l6 ?c6 ?k6 ?a7 ?l7 ?c7 ?k7 ?a8 ?i8 ?l8 ?c8 ?k8 ?a9 ?i9 ?l9 ?c9 ?k9 ?iw ?qH ?lV ?iJ ?dw ?mR ?jt ?qg ?iz ?dk ?rH ?j8 ?oM ?pK ?dQ ?il ?mC ?iD ?oV ?dN ?kl ?nB ?r9 ?oQ ?dP ?lB ?iM ?pO ?mI ?fm ?iH ?rh ?mt ?qW ?gX ?jP ?kR ?hX ?lg ?oK ?nO ?iK ?iy ?lP ?eC ?pb ?jR ?lM ?kX ?fR ?rY ?qz ?jw ?lH ?d8 ?im ?oz ?pT ?nN ?dJ ?pR ?qZ ?hV ?pP ?fA ?qJ ?jn ?rf ?qi ?fg ?ny ?hG ?jT ?kJ ?nJ ?pi ?i5 ?qM ?oU ?df ?rq ?rB ?mF ?pj ?fM ?pJ ?mS ?nK ?iY ?eM ?iX ?kK ?qS ?pc ?fP ?kL ?li ?iT ?pH ?dG ?nY ?mf ?ri ?oO ?gy ?qK ?iE ?pL ?nj ?fW ?i6 ?kU ?rj ?pp ?eX ?nL ?qv ?sk ?iQ ?cV ?kN ?jX ?lX ?rP ?gz ?ma ?pQ ?qu ?jh ?gn ?rZ ?rC ?lY ?og ?fU ?iC ?hU ?nW ?nV ?gr ?qA ?iq ?iP ?km ?gG ?oA ?qC ?iF ?jB ?eI ?iW ?rJ ?iZ ?qG ?dj ?pM ?qx ?lC ?ii ?fZ ?iO ?mw ?ik ?qb ?gY ?j0 ?pV ?nA ?nX ?jD ?pC ?ki ?o8 ?ng ?gu ?rE ?jG ?rK ?kZ ?fT ?oi ?nR ?iI ?sg ?dy ?lZ ?so ?jL ?se ?dC ?nH ?mn ?qF ?qk ?pU ?pq ?re ?rQ ?oH ?cQ ?mq ?jE ?jM ?mE ?de ?lx ?mQ ?jY ?kx ?gx ?pD ?rA ?lG ?iV ?fj ?nP ?me ?jI ?mo ?qh ?jQ ?kI ?lI ?rR ?gf ?jk ?kP ?ni ?rW ?fb ?j7 ?ky ?lN ?lw ?gh ?ja ?jJ ?mP ?jp ?eE ?jo ?jf ?rm ?mW ?gO ?ic ?jy ?qe ?kj ?gc ?pS ?jW ?lR ?oG ?eU ?sK ?sC ?nS ?oq ?dO ?cG ?cM ?cJ ?pI ?qN ?rM ?qB ?kt ?kf ?qU ?lu ?qE ?cX ?pw ?my ?oj ?ip ?eY ?pW ?je ?mV ?kG ?gZ ?ke ?lO ?rn ?io ?fI ?pN ?mZ ?qY ?mH ?gP ?oN ?ju ?pd ?jz ?dY ?o9 ?nU ?pB ?si ?dA ?kr ?oZ ?oF ?qp ?di ?nZ ?lA ?kC ?fo ?jx ?j6 ?lL ?gB ?qy ?mh ?oP ?gw ?ig ?mj ?mK ?gb ?lJ ?rS ?jF ?gq ?qj ?pE ?mM ?dM ?qQ ?mz ?lQ ?gg ?qr ?iU ?ou ?fH ?pF ?jN ?rL ?du ?rc ?ph ?rT ?fG ?kO ?qR ?m9 ?fE ?nE ?iB ?pA ?eG ?oS ?mO ?nh ?gW ?kg ?qw ?kB ?dH ?mr ?iA ?mG ?gj ?o0 ?lj ?ij ?eQ ?m7 ?qo ?ql ?nG ?z0 ?z1 ?z2 ?z3 ?z4 ?z5 ?z6 ?z7
  (case aO | aC | aS | bb | bg=>k_is)
  (case aW=>k_exc)
  (case bv=>k_exc)
  (case bZ=>k_exc)
  (case bV=>k_exc)
  (case cN=>kts_exm)
  (case cI=>kts_exm)
  (case cK=>kts_exm)
  (case cP=>kts_exm)
  (case bI | br | bP | bp | bK | bG | bx | aK | aJ | aA | aw | av | bE | bn | bM | bJ | bw | bo | bC | ai | aD | aL | ay | am | cv | cD | cA | cE | cz | cw | cy | aN | aV | aE | cu | ck | cq | cp | cr | cn | cm | aU | bh | aY | az | aH | aZ | be | bf | bd | bi | ba | aX | ak | ar | bN | bq | bO | bz | bQ | bA | bj | aG | au | aP | aq | bY | bX | ci | cf | cj | bU | cg | aj | aM | aQ | aI | ao | aR | a0 | l0 | c0 | k0 | a1 | l1 | c1 | k1 | a2 | l2 | c2 | k2 | a3 | l3 | c3 | k3 | a4 | l4 | c4 | k4 | a5 | l5 | c5 | k5 | a6 | l6 | c6 | k6 | a7 | l7 | c7 | k7 | a8 | i8 | l8 | c8 | k8 | a9 | i9 | l9 | c9 | k9 | iw | qH | lV | iJ | dw | mR | jt | qg | iz | dk | rH | j8 | oM | pK | dQ | il | mC | iD | oV | dN | kl | nB | r9 | oQ | dP | lB | iM | pO | mI | fm | iH | rh | mt | qW | gX | jP | kR | hX | lg | oK | nO | iK | iy | lP | eC | pb | jR | lM | kX | fR | rY | qz | jw | lH | d8 | im | oz | pT | nN | dJ | pR | qZ | hV | pP | fA | qJ | jn | rf | qi | fg | ny | hG | jT | kJ | nJ | pi | i5 | qM | oU | df | rq | rB | mF | pj | fM | pJ | mS | nK | iY | eM | iX | kK | qS | pc | fP | kL | li | iT | pH | dG | nY | mf | ri | oO | gy | qK | iE | pL | nj | fW | i6 | kU | rj | pp | eX | nL | qv | sk | iQ | cV | kN | jX | lX | rP | gz | ma | pQ | qu | jh | gn | rZ | rC | lY | og | fU | iC | hU | nW | nV | gr | qA | iq | iP | km | gG | oA | qC | iF | jB | eI | iW | rJ | iZ | qG | dj | pM | qx | lC | ii | fZ | iO | mw | ik | qb | gY | j0 | pV | nA | nX | jD | pC | ki | o8 | ng | gu | rE | jG | rK | kZ | fT | oi | nR | iI | sg | dy | lZ | so | jL | se | dC | nH | mn | qF | qk | pU | pq | re | rQ | oH | cQ | mq | jE | jM | mE | de | lx | mQ | jY | kx | gx | pD | rA | lG | iV | fj | nP | me | jI | mo | qh | jQ | kI | lI | rR | gf | jk | kP | ni | rW | fb | j7 | ky | lN | lw | gh | ja | jJ | mP | jp | eE | jo | jf | rm | mW | gO | ic | jy | qe | kj | gc | pS | jW | lR | oG | eU | sK | sC | nS | oq | dO | cG | cM | cJ | pI | qN | rM | qB | kt | kf | qU | lu | qE | cX | pw | my | oj | ip | eY | pW | je | mV | kG | gZ | ke | lO | rn | io | fI | pN | mZ | qY | mH | gP | oN | ju | pd | jz | dY | o9 | nU | pB | si | dA | kr | oZ | oF | qp | di | nZ | lA | kC | fo | jx | j6 | lL | gB | qy | mh | oP | gw | ig | mj | mK | gb | lJ | rS | jF | gq | qj | pE | mM | dM | qQ | mz | lQ | gg | qr | iU | ou | fH | pF | jN | rL | du | rc | ph | rT | fG | kO | qR | m9 | fE | nE | iB | pA | eG | oS | mO | nh | gW | kg | qw | kB | dH | mr | iA | mG | gj | o0 | lj | ij | eQ | m7 | qo | ql | nG | z0 | z1 | z2 | z3 | z4 | z5 | z6 | z7=>k_is)
