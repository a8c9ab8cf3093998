import PyProof.Rows.All
import Wide.All
import OpenK.AllK
import Wide.FinOn
import HandS.ForMost
import HandS.TupSets
import HandS.Conv
import HandS.Strs
import HandS.SortInts
import HandS.IsInst
import HandS.TupAny
import HandS.TupLen
import HandS.TupMul
import HandS.Deep
import HandS.Evl
import KE.GoesEnum
import KE.KDictDisplayH
import HandS.ExcInit
import HandS.ExcOwn
import HandS.ExcField
import HandS.TryOnly
import HandS.ForExc
import HandS.Small
import HandS.Property
import HandS.Lambda
import HandS.Nested
import KE.KDflt
import HandS.EndOwn
import HandS.NestedK
import HandS.Codes
import HandS.FStr
import HandS.WideBits
import PyProof.StrBlock2
import HandS.SortKw
import KE.SortCalls
import KE.SortData
import KE.SortKeyHeap
import KE.KSortKey
import HandS.Zip
import KE.DataMinMax
import PySem.Challenge.RW_lockturns_k04_whole_tasks
set_option Elab.async false
set_option linter.all false
set_option maxRecDepth 100000
set_option maxHeartbeats 4000000
/-! enumerate over a tuple, in a for -/
namespace LtR
open PySem PyProof.Rows
open AutoSeq1 (wpAny_loadPart')
theorem meets_enum1 {v : Value} {o : Obj} {H : Heap → Prop} (B : Begins v o H) :
    Meets (Builtin.«enumerate.__new__» ⟨[.type "enumerate", v], []⟩) (fun _ R s => H s.heap ∧
      R (.ok (.ret (.ref (s.heap.push o).objs.size))) { s with heap := (s.heap.push o).push { cls := .type "enumerate", data := .fields #[.none, .bool false, .ref s.heap.objs.size, rawInt 0, .none, .none] } }) :=
  .of_wp fun prog w A R s h => by
    obtain ⟨hp, g, d, tk, os⟩ := s
    obtain ⟨h1, h⟩ := h
    have hsub := sub_enumerate
    have q1 : ∀ {A' : Around} {E : Value → Shared → Prop} {Q : Value → Shared → Prop}, Q (.ref hp.objs.size) ⟨hp.push o, g, d, tk, os⟩ → wpAny (model prog w) A' (pyIter v) Q E ⟨hp, g, d, tk, os⟩ :=
      fun q => B.iter prog w _ _ ⟨hp, g, d, tk, os⟩ _ h1 q
    wp_walk using q1
    refine wpAny_stack_any fun st => wpAny_pure ?_
    split
    · rename_i c _ _ _ _ _
      cases (c == Value.type "enumerate")
      · wp_walk using q1
        exact ⟨_, rfl, h⟩
      · wp_walk using q1
        exact ⟨_, rfl, h⟩
    · wp_walk using q1
      exact ⟨_, rfl, h⟩
section
variable {prog : Program} {w : World} {A : Around} {E : Value → Shared → Prop} {s : Shared}
theorem enum1_begins {v : Value} {o : Obj} {H : Heap → Prop} {Q : Value → Shared → Prop} (B : Begins v o H) (h1 : H s.heap)
    (h : ∀ h', IsEnum h' (s.heap.objs.size + 1) s.heap.objs.size 0 .none → h'.get? s.heap.objs.size = some o → h'.objs.size = s.heap.objs.size + 2 →
      (∀ b o, s.heap.get? b = some o → h'.get? b = some o) → Q (.ref (s.heap.objs.size + 1)) { s with heap := h' }) :
    wpAny (model prog w) A (call (.type "enumerate") [v]) Q E s := by
  refine callType_new F.called_enumerate (by decide) (F.typeCall_enumerate_1 _) (F.newCall_enumerate_1 _) (fun obj => F.args_object_init_2 obj _) F.entry_enumerate_new
    (meets_enum1 B) ⟨h1, ?_⟩
  have hz : (s.heap.push o).objs.size = s.heap.objs.size + 1 := Heap.size_push ..
  show _ ∧ _
  rw [hz]
  have he : IsEnum ((s.heap.push o).push { cls := .type "enumerate", data := .fields #[.none, .bool false, .ref s.heap.objs.size, rawInt 0, .none, .none] }) (s.heap.objs.size + 1) s.heap.objs.size 0 .none := by
    have := Heap.get?_push_size (s.heap.push o) (o := { cls := .type "enumerate", data := .fields #[.none, .bool false, .ref s.heap.objs.size, rawInt 0, .none, .none] }) rfl
    rw [hz] at this; exact this
  refine ⟨⟨_, he, rfl⟩, h _ he (Heap.get?_push_of_some _ (Heap.get?_push_size _ B.free)) (by rw [Heap.size_push, hz]) fun b o x => Heap.get?_push_of_some _ (Heap.get?_push_of_some _ x)⟩
end
end LtR
namespace L2
open PySem PySem.Spec PyProof.Rows
/-- the tuple at a as it stands at each turn, each item in a new pair -/
def Itet (K : PySem.W.Frag) (a : Addr) : It :=
  ⟨fun i H => ∃ (xs : List V) (x : V), SqT K H a xs ∧ xs[i]? = some x, fun i H v H' => ∃ T x, v = .ref T ∧ H T = none ∧ H' = upd H T (.tup [.int (i : Nat), x]) ∧ ∀ xs, SqT K H a xs → xs[i]? = some x, fun i H => ∃ xs : List V, SqT K H a xs ∧ xs.length = i⟩
theorem turn_enumT {P : Program} {w : World} {K : PySem.W.Frag} {elts : List Expr} {kk : Nat} {tpos : Pos} (a e it : Addr) (hae : a ≠ e) (hai : a ≠ it) :
    Turn P w K (.Tuple elts kk tpos) (Itet K a) [e, it] e (fun i h => (∃ old, IsEnum h e it ((i : Nat) : Int) old) ∧ h.IsTupleIter it a i ∧ e ≠ it) where
  mem := by simp
  obj := fun i h st b hb => by
    obtain ⟨⟨old, he⟩, ⟨o, ho, hc, hd⟩, _⟩ := st
    have e' : b = e ∨ b = it := by simpa using hb
    rcases e' with z | z
    · rw [z]; exact ⟨_, he, fun v q => nomatch q⟩
    · rw [z]; exact ⟨o, ho, fun v q => by rw [hd] at q; cases q⟩
  keep := fun i h h' st k => let ⟨⟨old, he⟩, hi, hne⟩ := st; ⟨⟨old, k e (by simp) _ he⟩, hi.at fun o q => k it (by simp) o q, hne⟩
  item := by
    intro X hP hw hK hc i pins s σ H E I hf st hg
    subst hP hw hK
    obtain ⟨⟨old, he⟩, hit, hne⟩ := st
    obtain ⟨xs, x, hq, hx⟩ := hg
    obtain ⟨its, rv, p, hz⟩ := I.tuple hq
    obtain ⟨u, hu, ru⟩ := rv.get hx
    have hel : e < s.heap.objs.size := Heap.lt_size he
    have hil : it < s.heap.objs.size := by obtain ⟨_, q, _⟩ := hit; exact Heap.lt_size q
    have hu' : its.toArray[i]? = some u := by simpa using hu
    have hlt : i < its.toArray.size := (Array.getElem?_eq_some_iff.mp hu').1
    refine wpAny_pyNext_enum_itemD (Draws.tuple (prog := X.prog) (w := X.w) (A := X.A.in1) (I.ok.hd hc) it a hai its.toArray) he ⟨hit, (show s.heap.IsTuple a its.toArray from p)⟩ hlt hne (by simp [hne, Ne.symm hae]) fun x' h' tk hP ho hst' hT hsz hk => ?_
    have ex : x' = u := Option.some.inj ((show its.toArray[i]? = some x' from hP).symm.trans hu')
    subst ex
    obtain ⟨hit', hp'⟩ := hst'
    refine ⟨_, rfl, wpAny_letOwnedTupleGo_enum (s := { s with heap := h', toks := tk + 1 }) ho fun h'' he' sb => ?_⟩
    have hT2 : h''.get? s.heap.objs.size = some { cls := .type "tuple", data := .seq #[.int i tk, x'] } := (sb.2 _ (Nat.ne_of_gt hel)).trans hT
    have new : ObjOk X.prog X.w (upd H s.heap.objs.size (.tup [.int (i : Nat), x])) h'' s.heap.objs.size (.tup [.int (i : Nat), x]) :=
      ⟨by show 2 ≤ sizeLine; decide, [.int i tk, x'], .cons ⟨_, rfl⟩ (.cons ru .nil), ⟨_, hT2, rfl, _, rfl⟩⟩
    have I1 : Inv X pins σ (upd H s.heap.objs.size (.tup [.int (i : Nat), x])) { s with heap := h'', toks := tk + 1 } :=
      I.turnedNew (ch := [e, it]) (fun b ob hb q => (sb.2 b (fun z => hb (by simp [z]))).trans (hk b ob (fun z => hb (by simp [z])) (fun z => hb (by simp [z])) q)) hf (Nat.le_refl _) new
    refine ⟨.ref s.heap.objs.size, _, I1, rfl, ⟨_, x, rfl, I.hok.fresh (Nat.le_refl _), rfl, fun ys hy => by rw [I.tuple_inj hy hq]; exact hx⟩, ⟨⟨x', ?_⟩, hit'.at fun o q => (sb.2 it (Ne.symm hne)).trans q, hne⟩, fun b hb => ?_⟩
    · have e1 : ((i + 1 : Nat) : Int) = (i : Int) + 1 := by omega
      rw [e1]; exact he'
    · have hb' : b < s.heap.objs.size := by
        have e' : b = e ∨ b = it := by simpa using hb
        rcases e' with z | z
        · rw [z]; exact hel
        · rw [z]; exact hil
      rw [upd_ne (Nat.ne_of_lt hb')]
      exact (hf b hb).1
  done := by
    intro X hP hw hK hc i pins s σ H E I hf st hg
    subst hP hw hK
    obtain ⟨⟨old, he⟩, hit, hne⟩ := st
    obtain ⟨xs, hq, hx⟩ := hg
    obtain ⟨its, rv, p, hz⟩ := I.tuple hq
    obtain ⟨f0, f1, f2, f3, f4, f5⟩ := hf it (by simp)
    have hl := rv.length
    have hn : its.toArray.size = i := by simp; omega
    exact wpAny_pyNext_enum_endD (Draws.tuple (prog := X.prog) (w := X.w) (A := X.A.in1) (I.ok.hd hc) it a hai its.toArray) he (show s.heap.IsTupleIter it a its.toArray.size ∧ s.heap.IsTuple a its.toArray from ⟨by rw [hn]; exact hit, p⟩) fun h' eb => ⟨rfl, I.turned (t' := s.toks) (fun b o hb q => eb b o hb q) f0 f1 f3 f4 f5⟩
  self := fun A i s Q E st h => let ⟨⟨_, he⟩, _⟩ := st; wpAny_pyIter_enum he h
def iEnumT (K : PySem.W.Frag) (ta : TA) : TI := fun σ H R => ta σ H fun vs H1 => ∃ a xs, vs = [.ref a] ∧ SqT K H1 a xs ∧ R (Itet K a) H1
theorem pi_enumT {X : Cx} {e : Expr} {ta : TA} {p pos tpos : Pos} {elts : List Expr} {kk : Nat} (hg : Gl X "enumerate") (hm : X.mg "enumerate" = none) (ha : PA X [e] ta) (hs : starEach [e] X.env = [(false, eval e X.env)] := by rfl) :
    PI X (.Tuple elts kk tpos) (.Call (.Name "enumerate" p) [e] [] pos) (iEnumT X.K ta) := by
  refine ⟨fun pins s σ H R I h => ?_⟩
  refine Call_ (ld_blt I hg hm boot_enumerate (PyProof.Rows.callWith_type1 (thn (ha.run pos pins s σ H _ I h) fun us s1 ⟨vs, H1, I1, r1, q1⟩ => ?_) hs rfl))
  obtain ⟨a, xs, ex, hq, q⟩ := q1
  subst ex
  cases r1 with
  | cons r rr =>
    cases rr
    cases r
    obtain ⟨its, rv, p', hz⟩ := I1.tuple hq
    have hal : a < s1.heap.objs.size := by obtain ⟨_, e, _⟩ := p'; exact Heap.lt_size e
    refine LtR.enum1_begins (begins_tuple a its.toArray) (show s1.heap.IsTuple a its.toArray from p') fun h' he hit hsz hk => wpAny_pyIter_enum he ?_
    have I2 : Inv X pins σ H1 { s1 with heap := h' } := I1.kept (t' := s1.toks) hk
    refine ⟨s1.heap.objs.size + 1, [s1.heap.objs.size + 1, s1.heap.objs.size], _, _, H1, rfl, I2, turn_enumT a (s1.heap.objs.size + 1) s1.heap.objs.size (Nat.ne_of_lt (Nat.lt_succ_of_lt hal)) (Nat.ne_of_lt hal), ⟨⟨.none, he⟩, ⟨_, hit, rfl, rfl⟩, Nat.succ_ne_self _⟩, fun b hb => ?_, q⟩
    have e' : b = s1.heap.objs.size + 1 ∨ b = s1.heap.objs.size := by simpa using hb
    have hle : s1.heap.objs.size ≤ b := by
      rcases e' with z | z
      · rw [z]; exact Nat.le_add_right _ _
      · rw [z]; exact Nat.le_refl _
    exact I1.fpOk hle (I1.hok.fresh hle)
end L2

set_option Elab.async false
set_option linter.all false
set_option maxRecDepth 100000
set_option maxHeartbeats 4000000
/-! sorted of a dict whose keys are tuples of ints; sorted of a tuple of ints; tuple.index of ints; {tuple: v} -/
namespace L2
open PySem PySem.Spec PyProof.Rows
section
variable {X : Cx}
/-- t.index(i), the first place -/
theorem mt_tup_indexI : MtR X "tuple.index" (fun x xs H Q => ∃ p, ∃ ys : List Int, ∃ z j, x = .ref p ∧ xs = [.int z] ∧ SqT X.K H p (ys.map V.int) ∧ ys[j]? = some z ∧ (∀ m, m < j → ys[m]? ≠ some z) ∧ Q (.int (j : Nat)) H) := by
  intro pins s σ H x xs v us Q I rx rs h
  obtain ⟨p, ys, z, j, rfl, rfl, hq, hy, hno, q⟩ := h
  cases rx
  obtain ⟨u, rfl, t, rfl⟩ := vals1 rs
  obtain ⟨its, r, pl, hz⟩ := I.tuple hq
  obtain ⟨⟨cls, dd, dt, sl⟩, ho, hc, n, hd⟩ := pl
  simp only at hc hd
  subst hc
  subst hd
  have hl : its.toArray.size = ys.length := by rw [List.size_toArray, ← r.length, List.length_map]
  have hj : j < its.toArray.size := by rw [hl]; exact (List.getElem?_eq_some_iff.mp hy).1
  have at' : ∀ (m : Nat) (hm : m < its.toArray.size), ∃ y t', ys[m]? = some y ∧ its.toArray[m] = Value.int y t' := fun m hm => by
    have hm' : m < ys.length := by rw [← hl]; exact hm
    obtain ⟨w, hw, t', hw'⟩ := r.get (i := m) (x := .int ys[m]) (by simp [hm'])
    refine ⟨ys[m], t', List.getElem?_eq_getElem hm', ?_⟩
    have e := (List.getElem?_eq_some_iff.mp hw).2
    rw [← hw', ← e]
    simp
  have flat : (ys.map V.int).all flatV = true := by
    rw [List.all_map]
    exact List.all_eq_true.mpr fun _ _ => rfl
  refine call_meets PySem.F.slot_tuple_index ⟨_, ho, rfl⟩ PySem.F.entry_tuple_index (PySem.F.args_tuple_index_2 _ _) (TI.tuple_indexAt p its.toArray n dd sl (.int z t) (eqU (.int z)) j hj ?_ ?_)
    ⟨ho, fun w hw => mem_eqAt (x := .int z) ⟨t, rfl⟩ rfl r flat w (by simpa using hw), ⟨.int (j : Nat), H, I.tok _, ⟨_, rfl⟩, q⟩⟩
  · obtain ⟨y, t', h1, h2⟩ := at' j hj
    rw [hy] at h1
    cases h1
    rw [h2]
    show (z == z) = true
    exact beq_self_eq_true z
  · intro m hm hmj
    obtain ⟨y, t', h1, h2⟩ := at' m hm
    rw [h2]
    show (y == z) = false
    exact beq_eq_false_iff_ne.mpr fun e => hno m hmj (e ▸ h1)
/-- sorted(d), d a dict with fewer than 64 keys, all tuples of dd ints in [0, B) -/
def rSortDT (d : Nat) (B : Int) : List V → Hp → VK → Prop := fun vs H Q => ∃ (a : Addr) (kvs : List (List Key × V)) (ks : List (List Int)), vs = [V.ref a] ∧ Rd H a (.dT kvs) ∧ kvs.map (·.1) = ks.map (fun k => k.map Sum.inl) ∧ ks.length < 64 ∧ (∀ k ∈ ks, k.length = d ∧ TS.Bd B k) ∧
  ∀ (bs : List Addr) (ks' : List (List Int)) (p : Addr), ks'.Perm ks → ks'.Pairwise (fun x y => TS.code B x ≤ TS.code B y) → Paired (fun (b : Addr) k => H b = some (.tup (k.map V.int))) bs ks' → H p = none → Q (.ref p) (upd H p (.lst (bs.map V.ref)))
theorem kV_ints (k : List Int) : (k.map (Sum.inl : Int → Key)).map kV = k.map V.int := by
  rw [List.map_map]
  rfl
def refA : Value → Addr
  | .ref a => a
  | _ => 0
theorem keys_perm {H : Hp} : ∀ {kvs : List (List Key × V)} {xs : List (List Key × Addr × Value)} {ks : List (List Int)}, KT H kvs xs → kvs.map (·.1) = ks.map (fun k => k.map Sum.inl) →
    Paired (fun (u : Value) (k : List Int) => ∃ b, u = .ref b ∧ H b = some (.tup (k.map V.int))) (xs.map fun x => Value.ref x.2.1) ks
  | _, _, [], .nil, _ => .nil
  | _, _, [], .cons _ _, e => by simp at e
  | _, _, _ :: _, .nil, e => by simp at e
  | p :: ps, q :: qs, k :: ks, .cons h t, e => by
    rw [List.map_cons, List.map_cons] at e
    injection e with e1 e2
    refine .cons ⟨q.2.1, rfl, ?_⟩ (keys_perm t e2)
    have z := h.2.1
    rw [e1, kV_ints] at z
    exact z
theorem paired_map_eq {β γ : Type} {F : β → γ → Prop} {f : β → γ} (h : ∀ u k, F u k → f u = k) : ∀ {us : List β} {ks : List γ}, Paired F us ks → us.map f = ks
  | _, _, .nil => rfl
  | _, _, .cons r t => by rw [List.map_cons, h _ _ r, paired_map_eq h t]
theorem paired_mem_left {β γ : Type} {F : β → γ → Prop} : ∀ {us : List β} {ks : List γ}, Paired F us ks → ∀ u ∈ us, ∃ k ∈ ks, F u k
  | _, _, .nil, u, h => by cases h
  | _, _, .cons r t, u, h => by
    rcases List.mem_cons.mp h with e | h
    · subst e
      exact ⟨_, List.mem_cons_self, r⟩
    · obtain ⟨k, hk, f⟩ := paired_mem_left t u h
      exact ⟨k, List.mem_cons_of_mem _ hk, f⟩
theorem paired_of_map {β γ δ : Type} {F : γ → δ → Prop} {f : β → γ} {g : β → δ} : ∀ {us : List β}, (∀ u ∈ us, F (f u) (g u)) → Paired F (us.map f) (us.map g)
  | [], _ => .nil
  | u :: us, h => .cons (h u List.mem_cons_self) (paired_of_map fun v hv => h v (List.mem_cons_of_mem _ hv))
theorem cr_sortDT {d : Nat} {B : Int} (hc : X.calm = true) (hd1 : 1 ≤ d) : CallR X (.builtin "sorted") (rSortDT d B) := by
  intro pins s σ H xs us Q I r q
  obtain ⟨a, kvs, ks, rfl, hd, hks, h64, hB, q⟩ := q
  obtain ⟨u, eu, rx⟩ := vals1 r
  subst eu
  cases rx
  obtain ⟨z, lo, kx, pr, o, es, ep, ho, hx, hdt, he, hn⟩ := (show ObjOk X.prog X.w H s.heap a (.dT kvs) from hd.ok I.hok)
  have l1 : es.size = kx.length := size_of_entries he
  have l2 : kvs.length = kx.length := Paired.length pr
  refine Calls.call_function_entry PyProof.Rows.kind_sorted PyProof.Rows.plain_sorted PyProof.Rows.entry_sorted (PyProof.Rows.args_sorted1 _) ?_
  unfold Builtin.«sorted»
  refine wpAny_bind (m := checkCount "sorted" 1 1 _) (wpAny_pure ?_)
  refine wpAny_bind (PySem.W.kdu_collect (A := X.A.in1) (kdl_raw lo hx hdt) (I.ok.hd hc) ho (by omega) fun h' tk acc hk hacc => ?_)
  have ea : acc.toList = kx.map fun x => Value.ref x.2.1 := by
    have hl : acc.toList.length = kx.length := by rw [Array.length_toList, hacc.1]; exact l1
    apply List.ext_getElem?
    intro j
    rw [List.getElem?_map]
    cases hj : acc.toList[j]? with
    | none =>
      have h1 := List.getElem?_eq_none_iff.mp hj
      rw [List.getElem?_eq_none (by omega)]
      all_goals rfl
    | some v =>
      obtain ⟨en, hen, hv⟩ := hacc.2 j v (by rw [← Array.getElem?_toList]; exact hj)
      have qe := entry_at he j
      rw [hen] at qe
      cases hb : kx[j]? with
      | none =>
        rw [hb] at qe
        exact nomatch (show some en = none from qe)
      | some b =>
        rw [hb] at qe
        have e2 : en = entryOfKey (tupleKind (mixKind X.prog X.w)) b := Option.some.inj qe
        rw [hv, e2]
        all_goals rfl
  have I1 : Inv X pins σ H { s with heap := h', toks := tk } := I.kept hk
  have prk := keys_perm pr hks
  rw [← ea] at prk
  generalize acc.toList = vs at prk
  have hvl : vs.length = ks.length := Paired.length prk
  have tup : ∀ b (k : List Int), H b = some (.tup (k.map V.int)) → TS.TupInts h' (.ref b) k := fun b k e => tupI_raw I1 (SqT.of e)
  have hin : ∀ v ∈ vs, ∃ b k, k ∈ ks ∧ v = .ref b ∧ H b = some (.tup (k.map V.int)) := fun v hv => by
    obtain ⟨k, hk', b, e1, e2⟩ := paired_mem_left prk v hv
    exact ⟨b, k, hk', e1, e2⟩
  have hmap : vs.map (TS.intsOf h') = ks := paired_map_eq (fun u k h => by
    obtain ⟨b, e1, e2⟩ := h
    subst e1
    exact (tup b k e2).ints) prk
  refine wpAny_bind (wpAny_newList ?_ (by rw [hvl, sizeLine_eq]; omega))
  have hoL : (h'.push (seqObj "list" vs.toArray 0)).get? h'.objs.size = some (seqObj "list" vs.toArray 0) := Heap.get?_push_size _ rfl
  show wpAny _ _ _ _ _ { s with heap := h'.push (seqObj "list" vs.toArray 0), toks := tk }
  have keep : ∀ b u, h'.get? b = some u → (h'.push (seqObj "list" vs.toArray 0)).get? b = some u := fun b u e => Heap.get?_push_of_some _ e
  have I2 : Inv X pins σ H { s with heap := h'.push (seqObj "list" vs.toArray 0), toks := tk } := I1.kept (t' := tk) keep
  have tup2 : ∀ b (k : List Int), H b = some (.tup (k.map V.int)) → TS.TupInts (h'.push (seqObj "list" vs.toArray 0)) (.ref b) k := fun b k e => tupI_raw I2 (SqT.of e)
  have x : TS.TupsOk (h'.push (seqObj "list" vs.toArray 0)) d B vs := fun v hv => by
    obtain ⟨b, k, hk', e1, e2⟩ := hin v hv
    subst e1
    exact ⟨k, tup2 b k e2, (hB k hk').1, (hB k hk').2⟩
  refine wpAny_bind (wpAny_holding (TS.call_sort_tups (s := { s with heap := h'.push (seqObj "list" vs.toArray 0), toks := tk }) hoL (by rw [hvl]; exact h64) hd1 x fun out a1 a2 => ?_))
  obtain ⟨c, hcc⟩ := PyProof.Rows.sortedHeap_at (vs := vs) (out := out) hoL
  have hin' : ∀ v ∈ out.toList, ∃ b k, k ∈ ks ∧ v = .ref b ∧ H b = some (.tup (k.map V.int)) := fun v hv => hin v (a1.mem_iff.mp hv)
  have intz : ∀ v ∈ out.toList, TS.intsOf (h'.push (seqObj "list" vs.toArray 0)) v = TS.intsOf h' v := fun v hv => by
    obtain ⟨b, k, _, e1, e2⟩ := hin' v hv
    subst e1
    rw [(tup2 b k e2).ints, (tup b k e2).ints]
  have hn' : H h'.objs.size = none := I1.hok.fresh (Nat.le_refl _)
  have vr : Vals ((out.toList.map refA).map V.ref) out.toList := by
    have e : out.toList = (out.toList.map refA).map Value.ref := by
      rw [List.map_map]
      refine (List.map_id' out.toList).symm.trans (List.map_congr_left fun v hv => ?_)
      obtain ⟨b, k, _, e1, e2⟩ := hin' v hv
      subst e1
      rfl
    have z := vals_refs (out.toList.map refA)
    rw [← e] at z
    exact z
  have hlen : ((out.toList.map refA).map V.ref).length ≤ sizeLine := by
    rw [List.length_map, List.length_map, a1.length_eq, hvl, sizeLine_eq]
    omega
  refine wpAny_pure ⟨_, rfl, .ref h'.objs.size, upd H h'.objs.size (.lst ((out.toList.map refA).map V.ref)), I1.laid (t' := tk) (fun b u e => ?_) (Nat.le_refl _) ⟨hlen, out.toList, c, vr, hcc⟩, rfl, ?_⟩
  · have hlt : b < h'.objs.size := Heap.lt_size e
    show (PyProof.Rows.sortedHeap (h'.push (seqObj "list" vs.toArray 0)) h'.objs.size vs out).get? b = some u
    rw [PyProof.Rows.sortedHeap_old (Nat.ne_of_lt hlt) (by rw [PyProof.Rows.size_push']; exact Nat.lt_succ_of_lt hlt)]
    exact Heap.get?_push_of_some _ e
  · refine q (out.toList.map refA) (out.toList.map (TS.intsOf h')) h'.objs.size ?_ ?_ ?_ hn'
    · have z := a1.map (TS.intsOf h')
      rw [hmap] at z
      exact z
    · refine List.pairwise_map.mpr (List.Pairwise.imp_of_mem (fun {u v} hu hv h => ?_) a2)
      rw [← intz u hu, ← intz v hv]
      exact h
    · refine paired_of_map fun v hv => ?_
      obtain ⟨b, k, _, e1, e2⟩ := hin' v hv
      subst e1
      rw [(tup b k e2).ints]
      exact e2
/-- sorted(t), t a tuple of fewer than 64 ints -/
def rSortIT (K : PySem.W.Frag) : List V → Hp → VK → Prop := fun vs H Q => ∃ (a : Addr) (ns : List Int), vs = [V.ref a] ∧ SqT K H a (ns.map V.int) ∧ ns.length < 64 ∧
  ∀ (ns' : List Int) (p : Addr), ns'.Perm ns → ns'.Pairwise (· ≤ ·) → H p = none → Q (.ref p) (upd H p (.lst (ns'.map V.int)))
end
section
variable {prog : Program} {w : World} {A : Around} {E : Value → Shared → Prop} {s : Shared}
theorem collect_tup {l : Addr} {vs : List Value} {Q : List Value → Shared → Prop} (hl : s.heap.IsTuple l vs.toArray)
    (h : Q vs { s with heap := (s.heap.push (seqObj "list" #[] 0)).update s.heap.objs.size (Obj.mapSeq (· ++ vs.toArray)) }) (hsz : vs.length ≤ sizeLine) :
    wpAny (model prog w) A (collect (.ref l)) Q E s := by
  obtain ⟨o, ho, hc, n, hd⟩ := id hl
  unfold collect
  refine wpAny_bind (wpAny_runValue (codeAny_builtin entry_proto_collect' ?_))
  show wpAny _ _ (do again (.builtin "list.__iadd__" ⟨[← newList [], .ref l], []⟩)) _ _ s
  refine wpAny_bind (wpAny_newList (wpAny_pure ⟨Code.quiet_builtin _ (by decide +kernel), codeAny_builtin entry_list_iadd' ?_⟩))
  show wpAny _ _ (Builtin.List.listExtendWith (.ref s.heap.objs.size) (.ref l) (.ref s.heap.objs.size)) _ _ { s with heap := s.heap.push (seqObj "list" #[] 0) }
  unfold Builtin.List.listExtendWith
  have ho' : (s.heap.push (seqObj "list" #[] 0)).get? l = some o := Heap.get?_push_of_some _ ho
  refine wpAny_bind (wpAny_typeOf (T := "tuple") ⟨o, ho', hc⟩ ?_)
  have ht : (Value.type "tuple" == Value.type "tuple") = true := by rfl
  rw [if_pos (by rw [ht]; simp)]
  refine wpAny_bind (listItems_at ho' hd ?_)
  refine wpAny_bind (listItems_at (xs := #[]) (n := 0) (Heap.get?_push_size _ rfl) rfl ?_)
  rw [if_neg (by simp)]
  refine wpAny_bind (listUpdate_at (xs := #[]) (n := 0) (Heap.get?_push_size _ rfl) rfl ?_ (Nat.zero_le _) (by show (#[] ++ vs.toArray).size ≤ sizeLine + 1; simp only [Array.size_append, List.size_toArray, List.length_nil]; omega))
  refine wpAny_pure ?_
  show wpAny (model prog w) A (do
      let o ← load s.heap.objs.size
      match o.data with
      | .seq xs _ => pure xs.toList
      | _ => unsupported "internal:collect") Q E { s with heap := (s.heap.push (seqObj "list" #[] 0)).update s.heap.objs.size (Obj.mapSeq (· ++ vs.toArray)) }
  refine wpAny_bind (wpAny_load (get?_update_seq (Heap.get?_push_size _ rfl) _) ?_)
  show wpAny _ _ (pure ((#[] : Array Value) ++ vs.toArray).toList) Q E _
  rw [show ((#[] : Array Value) ++ vs.toArray).toList = vs by simp]
  exact wpAny_pure h
theorem sorted_tupI {l : Addr} {vs : List Value} {ns : List Int} {Q : Value → Shared → Prop} (hl : s.heap.IsTuple l vs.toArray) (hI : IntsAre vs ns) (h64 : vs.length < 64)
    (h : ∀ (out : Array Value) (ns' : List Int), IntsAre out.toList ns' → ns'.Perm ns → ns'.Pairwise (· ≤ ·) → Q (.ref (s.heap.objs.size + 1)) { s with heap := sortedAll s.heap vs out }) :
    wpAny (model prog w) A (call (.builtin "sorted") [.ref l]) Q E s := by
  refine Calls.call_function_entry kind_sorted plain_sorted entry_sorted (args_sorted1 _) ?_
  unfold Builtin.«sorted»
  refine wpAny_bind (m := checkCount "sorted" 1 1 _) (wpAny_pure ?_)
  refine wpAny_bind (collect_tup hl ?_ (by rw [sizeLine_eq]; omega))
  refine wpAny_bind (wpAny_newList ?_ (by rw [sizeLine_eq]; omega))
  have hsz : ((s.heap.push (seqObj "list" #[] 0)).update s.heap.objs.size (Obj.mapSeq (· ++ vs.toArray))).objs.size = s.heap.objs.size + 1 := by
    rw [Heap.size_update, size_push']
  have hoL : (((s.heap.push (seqObj "list" #[] 0)).update s.heap.objs.size (Obj.mapSeq (· ++ vs.toArray))).push (seqObj "list" vs.toArray 0)).get? (s.heap.objs.size + 1) = some (seqObj "list" vs.toArray 0) := by
    rw [← hsz]; exact Heap.get?_push_size _ rfl
  show wpAny _ _ _ _ _ { s with heap := ((s.heap.push (seqObj "list" #[] 0)).update s.heap.objs.size (Obj.mapSeq (· ++ vs.toArray))).push (seqObj "list" vs.toArray 0) }
  rw [hsz]
  refine wpAny_bind (wpAny_holding (wpAny_call_entry slot_list_sort ⟨_, hoL, rfl⟩ entry_list_sort (list_sort_tree hoL hI h64 fun out ns' a1 a2 a3 => ⟨_, rfl, ?_⟩) (args_list_sort _)))
  exact wpAny_pure ⟨_, rfl, h out ns' a1 a2 a3⟩
end
section
variable {X : Cx}
theorem cr_sortIT : CallR X (.builtin "sorted") (rSortIT X.K) := by
  intro pins s σ H vs us Q I r h
  obtain ⟨a, ns, rfl, hs, h64, q⟩ := h
  obtain ⟨its, rv, hl, _⟩ := I.tuple hs
  rw [Vals.ref1 r]
  have hi := rv.ints
  refine sorted_tupI hl hi (by rw [hi.length]; exact h64) fun out ns' h1 h2 h3 => ?_
  obtain ⟨ep, he'⟩ := PyProof.Rows.sortedAll_at s.heap its out
  have hlen : (ns'.map V.int).length ≤ sizeLine := by rw [List.length_map, h2.length_eq]; exact small64 h64
  exact ⟨.ref _, upd H (s.heap.objs.size + 1) (.lst (ns'.map V.int)), I.laid (t' := s.toks) (fun _ _ => PyProof.Rows.sortedAll_old) (Nat.le_succ _) ⟨hlen, out.toList, ep, vals_of_ints h1, he'⟩, rfl, q ns' _ h2 h3 (I.hok.fresh (Nat.le_succ _))⟩
/-- {k: v}, k a tuple of ints and texts -/
def tDispT (tk tv : TE) : TE := fun σ H Q => ∀ p, H p = none → tk σ (upd H p (.dT [])) fun x H1 => tv σ H1 fun y H2 => ∃ (b : Addr) (k : List Key), x = .ref b ∧ H2 p = some (.dT []) ∧ H2 b = some (.tup (k.map kV)) ∧ Q (.ref p) (upd H2 p (.dT [(k, y)]))
theorem pe_dispT {k v : Expr} {pos : Pos} {tk tv : TE} (hu : X.A.units + 1 < cLine) (hk : PE X k tk) (hv : PE X v tv) : PE X (.Dict [some k] [v] pos) (tDispT tk tv) := by
  refine ⟨fun pins s σ H Q I q => ?_⟩
  have hn := I.hok.fresh (Nat.le_refl s.heap.objs.size)
  have I1 := I.laid (a := s.heap.objs.size) (o := .dT []) (h' := s.heap.push { cls := .type "dict", data := .dict #[] }) (t' := s.toks) (fun _ _ q => Heap.get?_push_of_some _ q) (Nat.le_refl _) (dt_empty s.heap I.big)
  have hroom : (tupleKind (mixKind X.prog X.w)).room X.A := (show X.A.units < cLine by omega)
  rw [arm_eval_Dict, zip_pairTrees [some k] [v] X.env pos rfl rfl, dictDisplay_pairs (pairTrees [some k] [v] X.env pos) (by intro z; cases z) (by show 1 < 17; omega)]
  refine wpAny_bind (wpAny_standAt (wpAny_bind (wpAny_subDictH (knd := tupleKind (mixKind X.prog X.w)) (Q := fun d s' => wpAny (model X.prog X.w) X.A (pure (Value.ref d)) (EP X pins σ Q) X.xe s') hroom (by show 1 ≤ 15; omega) ?_)))
  refine pairTrees_cons_walk (thn (hk.run pins _ σ _ _ I1 (q _ hn)) fun u s1 ⟨x, H1, I2, rx, q1⟩ => thn (hv.run pins s1 σ H1 _ I2 q1) fun w2 s2 ⟨y, H2, I3, ry, q2⟩ => pairTrees_nil_walk ?_)
  obtain ⟨b, ks, rfl, hp, hb, qq⟩ := q2
  cases rx
  obtain ⟨z, hd, xs0, rel, dd⟩ := dt_of I3.hok hp
  cases rel
  refine ⟨[(ks, b, w2)], ⟨rfl, rfl, key_of I3.hok hb, trivial⟩, dd, fun h' tk' dd' hs => wpAny_pure ⟨.ref s.heap.objs.size, _, ?_, rfl, qq⟩⟩
  obtain ⟨o, es, ep, ho, h2, h3, h4, _, h5⟩ := dd'
  refine d_write I3 (by rw [hp]; exact True.intro) hs ⟨o, ho⟩ ⟨by show 1 ≤ sizeLine; decide, hd, [(ks, b, w2)], .cons ⟨rfl, ?_, ry⟩ .nil, o, es, ep, ho, h2, h3, h4, h5⟩
  rw [upd_ne (ne_of hb hp (fun z => nomatch z))]
  exact hb
end
end L2

set_option Elab.async false
set_option linter.all false
set_option maxRecDepth 100000
set_option maxHeartbeats 4000000
/-! the common ground: turns and locks in the heap, defs by name -/
namespace Lt
open PySem PySem.Spec PyProof.Rows L2
/-! ### heaps -/
theorem same_new {H : Hp} {p : Addr} {o : HO} (h : H p = none) : Same H (upd H p o) := fun b x e => by
  rw [upd_ne (ne_of_none e h)]
  exact e
/-- an object that H does not know may change -/
theorem same_mut {H H' : Hp} {p : Addr} {o : HO} (e : Same H H') (h : H p = none) : Same H (upd H' p o) := fun a u ha => by
  rw [upd_ne (ne_of_none ha h)]
  exact e a u ha
/-- the tuples stay -/
def Tm (H H' : Hp) : Prop := (∀ a xs, H a = some (.tup xs) → H' a = some (.tup xs)) ∧ ∀ a o xs, H a = some (.frz o (.tup xs)) → H' a = some (.frz o (.tup xs))
theorem Tm.refl (H : Hp) : Tm H H := ⟨fun _ _ h => h, fun _ _ _ h => h⟩
theorem Tm.trans {H H1 H2 : Hp} (a : Tm H H1) (b : Tm H1 H2) : Tm H H2 := ⟨fun c x h => b.1 c x (a.1 c x h), fun c o x h => b.2 c o x (a.2 c o x h)⟩
theorem Tm.of {H H' : Hp} (e : Same H H') : Tm H H' := ⟨fun a xs h => e a _ h, fun a o xs h => e a _ h⟩
/-- a tuple to be read: its object known or not -/
abbrev RT (H : Hp) (a : Addr) (xs : List V) : Prop := Rd H a (.tup xs)
theorem RT.tm {H H' : Hp} {a : Addr} {xs : List V} (h : RT H a xs) (e : Tm H H') : RT H' a xs := by
  rcases h with h | ⟨o, h⟩
  · exact .inl (e.1 _ _ h)
  · exact .inr ⟨o, e.2 _ _ _ h⟩
theorem RT.sm {H H' : Hp} {a : Addr} {xs : List V} (h : RT H a xs) (e : Same H H') : RT H' a xs := h.tm (.of e)
theorem RT.sq {K : PySem.W.Frag} {H : Hp} {a : Addr} {xs : List V} (h : RT H a xs) : SqT K H a xs := .inl h
/-- what is no tuple may change -/
theorem Tm.mut {H : Hp} {p : Addr} {o u : HO} (h : H p = some u) (hu : ∀ xs, u ≠ .tup xs) (hf : ∀ ob xs, u ≠ .frz ob (.tup xs)) : Tm H (upd H p o) :=
  ⟨fun a xs e => by rw [upd_ne (ne_of e h (fun z => hu xs z.symm))]; exact e, fun a ob xs e => by rw [upd_ne (ne_of e h (fun z => hf ob xs z.symm))]; exact e⟩
theorem Tm.lst {H : Hp} {p : Addr} {o : HO} {ys : List V} (h : H p = some (.lst ys)) : Tm H (upd H p o) := .mut h (fun _ z => nomatch z) fun _ _ z => nomatch z
theorem Tm.dT {H : Hp} {p : Addr} {o : HO} {ys : List (List Key × V)} (h : H p = some (.dT ys)) : Tm H (upd H p o) := .mut h (fun _ z => nomatch z) fun _ _ z => nomatch z
theorem Tm.new {H : Hp} {p : Addr} {o : HO} (h : H p = none) : Tm H (upd H p o) := .of (same_new h)

/-! ### turns: tuples of numbers -/
def nI (n : Nat) : V := .int (n : Int)
def nIs (t : List Nat) : List V := t.map nI
def TN (H : Hp) (v : V) (t : List Nat) : Prop := ∃ a, v = .ref a ∧ RT H a (nIs t)
/-- one that no dict refuses as a key -/
def TK (H : Hp) (v : V) (t : List Nat) : Prop := ∃ a, v = .ref a ∧ H a = some (.tup (nIs t))
theorem TK.tn {H : Hp} {v : V} {t : List Nat} (h : TK H v t) : TN H v t := let ⟨a, e, h⟩ := h; ⟨a, e, .inl h⟩
theorem TK.tm {H H' : Hp} {v : V} {t : List Nat} (e : Tm H H') (h : TK H v t) : TK H' v t := let ⟨a, ev, ha⟩ := h; ⟨a, ev, e.1 _ _ ha⟩
/-- a tuple of turns -/
def TT (H : Hp) (v : V) (ts : List (List Nat)) : Prop := ∃ a xs, v = .ref a ∧ H a = some (.tup xs) ∧ Paired (TN H) xs ts
/-- a list of turns at a -/
def LT (H : Hp) (a : Addr) (ts : List (List Nat)) : Prop := ∃ xs, H a = some (.lst xs) ∧ Paired (TN H) xs ts
theorem TN.tm {H H' : Hp} {v : V} {t : List Nat} (e : Tm H H') (h : TN H v t) : TN H' v t := let ⟨a, ev, ha⟩ := h; ⟨a, ev, ha.tm e⟩
theorem TNs.tm {H H' : Hp} (e : Tm H H') : ∀ {xs : List V} {ts : List (List Nat)}, Paired (TN H) xs ts → Paired (TN H') xs ts
  | _, _, .nil => .nil
  | _, _, .cons r t => .cons (r.tm e) (TNs.tm e t)
theorem TT.tm {H H' : Hp} {v : V} {t : List (List Nat)} (e : Tm H H') (h : TT H v t) : TT H' v t := let ⟨a, xs, ev, ha, p⟩ := h; ⟨a, xs, ev, e.1 _ _ ha, TNs.tm e p⟩
theorem LT.same {H H' : Hp} {v : Addr} {t : List (List Nat)} (e : Same H H') (h : LT H v t) : LT H' v t := let ⟨xs, ha, p⟩ := h; ⟨xs, e _ _ ha, TNs.tm (.of e) p⟩
theorem nIs_len (t : List Nat) : (nIs t).length = t.length := List.length_map ..
theorem nIs_get (t : List Nat) (i : Nat) : (nIs t)[i]? = (t[i]?).map nI := List.getElem?_map ..
theorem nIs_int (t : List Nat) : nIs t = (t.map Int.ofNat).map V.int := by
  unfold nIs
  rw [List.map_map]
  rfl
theorem nIs_key (t : List Nat) : nIs t = (t.map fun n : Nat => (Sum.inl (Int.ofNat n) : Key)).map kV := by
  unfold nIs
  rw [List.map_map]
  rfl
theorem Paired.getL {α β : Type} {F : α → β → Prop} : ∀ {xs : List α} {ys : List β} {i : Nat} {x : α}, Paired F xs ys → xs[i]? = some x → ∃ y, ys[i]? = some y ∧ F x y
  | _, _, _, _, .nil, e => by simp at e
  | _, _, 0, _, .cons r _, e => by simp at e; subst e; exact ⟨_, rfl, r⟩
  | _, _, i + 1, x, .cons _ t, e => by
    obtain ⟨u, h1, h2⟩ := Paired.getL (i := i) (x := x) t (by simpa using e)
    exact ⟨u, by simpa using h1, h2⟩
theorem Paired.getR {α β : Type} {F : α → β → Prop} : ∀ {xs : List α} {ys : List β} {i : Nat} {y : β}, Paired F xs ys → ys[i]? = some y → ∃ x, xs[i]? = some x ∧ F x y
  | _, _, _, _, .nil, e => by simp at e
  | _, _, 0, _, .cons r _, e => by simp at e; subst e; exact ⟨_, rfl, r⟩
  | _, _, i + 1, x, .cons _ t, e => by
    obtain ⟨u, h1, h2⟩ := Paired.getR (i := i) (y := x) t (by simpa using e)
    exact ⟨u, by simpa using h1, h2⟩
theorem Paired.app {α β : Type} {F : α → β → Prop} : ∀ {xs xs' : List α} {ys ys' : List β}, Paired F xs ys → Paired F xs' ys' → Paired F (xs ++ xs') (ys ++ ys')
  | _, _, _, _, .nil, h => h
  | _, _, _, _, .cons r t, h => .cons r (Paired.app t h)
theorem Paired.one {α β : Type} {F : α → β → Prop} {x : α} {y : β} (h : F x y) : Paired F [x] [y] := .cons h .nil
theorem Paired.tk {α β : Type} {F : α → β → Prop} : ∀ (n : Nat) {xs : List α} {ys : List β}, Paired F xs ys → Paired F (xs.take n) (ys.take n)
  | 0, _, _, _ => .nil
  | _ + 1, _, _, .nil => .nil
  | n + 1, _, _, .cons r t => .cons r (Paired.tk n t)
theorem Paired.dr {α β : Type} {F : α → β → Prop} : ∀ (n : Nat) {xs : List α} {ys : List β}, Paired F xs ys → Paired F (xs.drop n) (ys.drop n)
  | 0, _, _, h => h
  | _ + 1, _, _, .nil => .nil
  | n + 1, _, _, .cons r t => Paired.dr n t

/-! ### data for == and in -/
def dN (n : Nat) : PyData := .int (n : Int)
def dT (t : List Nat) : PyData := .tuple (t.map dN)
theorem dp_nats {K : PySem.W.Frag} {H : Hp} : ∀ t : List Nat, DpAll K H (nIs t) (t.map dN)
  | [] => .nil
  | n :: t => .cons (.int _) (dp_nats t)
theorem TN.dp {K : PySem.W.Frag} {H : Hp} {v : V} {t : List Nat} (h : TN H v t) : Dp K H v (dT t) := by
  obtain ⟨a, rfl, ha⟩ := h
  exact .tup ha.sq (dp_nats t)
theorem TNs.dp {K : PySem.W.Frag} {H : Hp} : ∀ {xs : List V} {ts : List (List Nat)}, Paired (TN H) xs ts → DpAll K H xs (ts.map dT)
  | _, _, .nil => .nil
  | _, _, .cons r t => .cons r.dp (TNs.dp t)
theorem TT.dp {K : PySem.W.Frag} {H : Hp} {v : V} {ts : List (List Nat)} (h : TT H v ts) : Dp K H v (.tuple (ts.map dT)) := by
  obtain ⟨a, xs, rfl, ha, p⟩ := h
  exact .tup (SqT.of ha) (TNs.dp p)
theorem LT.dp {K : PySem.W.Frag} {H : Hp} {a : Addr} {ts : List (List Nat)} (h : LT H a ts) : Dp K H (.ref a) (.list (ts.map dT)) := by
  obtain ⟨xs, ha, p⟩ := h
  exact .lst (SqL.of ha) (TNs.dp p)
theorem eqvAll_map {α : Type} [DecidableEq α] {f : α → PyData} (h : ∀ x y, PyData.eqv (f x) (f y) = decide (x = y)) : ∀ xs ys : List α, PyData.eqvAll (xs.map f) (ys.map f) = decide (xs = ys)
  | [], [] => by simp [PyData.eqvAll]
  | [], _ :: _ => by simp [PyData.eqvAll]
  | _ :: _, [] => by simp [PyData.eqvAll]
  | x :: xs, y :: ys => by
    rw [List.map_cons, List.map_cons, PyData.eqvAll, h, eqvAll_map h xs ys]
    by_cases e1 : x = y <;> by_cases e2 : xs = ys <;> simp [e1, e2]
theorem eqv_dN (a b : Nat) : PyData.eqv (dN a) (dN b) = decide (a = b) := by
  show ((a : Int) == (b : Int)) = decide (a = b)
  by_cases e : a = b
  · subst e; simp
  · rw [decide_eq_false e]
    exact beq_eq_false_iff_ne.mpr (by omega)
theorem eqv_dT (s t : List Nat) : PyData.eqv (dT s) (dT t) = decide (s = t) := by
  show PyData.eqvAll (s.map dN) (t.map dN) = _
  exact eqvAll_map eqv_dN s t
theorem eqv_dTT (s t : List (List Nat)) : PyData.eqv (.tuple (s.map dT)) (.tuple (t.map dT)) = decide (s = t) := by
  show PyData.eqvAll (s.map dT) (t.map dT) = _
  exact eqvAll_map eqv_dT s t
theorem depth_nats : ∀ t : List Nat, PyData.depthAll (t.map dN) = 0
  | [] => rfl
  | n :: t => by
    show max (PyData.depth (dN n)) (PyData.depthAll (t.map dN)) = 0
    rw [depth_nats t]
    rfl
theorem can_nats : ∀ t : List Nat, PyData.canLayAll0 (t.map dN) = true
  | [] => rfl
  | n :: t => by
    show (PyData.canLay0 (dN n) && PyData.canLayAll0 (t.map dN)) = true
    rw [can_nats t]
    rfl
theorem depth_turns : ∀ t : List (List Nat), PyData.depthAll (t.map dT) ≤ 1
  | [] => Nat.zero_le _
  | n :: t => by
    show max (PyData.depthAll (n.map dN) + 1) (PyData.depthAll (t.map dT)) ≤ 1
    rw [depth_nats n]
    have := depth_turns t
    omega
theorem can_turns : ∀ t : List (List Nat), PyData.canLayAll0 (t.map dT) = true
  | [] => rfl
  | n :: t => by
    show (PyData.canLayAll0 (n.map dN) && PyData.canLayAll0 (t.map dT)) = true
    rw [can_turns t, can_nats n]
    rfl
theorem sh_T (t : List Nat) : SeqAt.shaped (dT t) = true := by
  show (PyData.canLayAll0 (t.map dN) && decide (PyData.depthAll (t.map dN) + 1 ≤ 64)) = true
  rw [can_nats, depth_nats]
  rfl
theorem sh_TT (t : List (List Nat)) : SeqAt.shaped (.tuple (t.map dT)) = true := by
  show (PyData.canLayAll0 (t.map dT) && decide (PyData.depthAll (t.map dT) + 1 ≤ 64)) = true
  have := depth_turns t
  rw [can_turns, decide_eq_true (by omega)]
  rfl
theorem sh_LT (t : List (List Nat)) : SeqAt.shaped (.list (t.map dT)) = true := sh_TT t
theorem any_dT (ts : List (List Nat)) (t : List Nat) : ((ts.map dT).any fun z => PyData.eqv z (dT t)) = decide (t ∈ ts) := by
  induction ts with
  | nil => simp
  | cons a ts ih =>
    rw [List.map_cons, List.any_cons, ih, eqv_dT]
    by_cases e : a = t
    · subst e; simp
    · have e' : ¬ t = a := fun z => e z.symm
      simp [e, e']

/-! ### defs by name -/
section
variable (P : Program) (w : World) (K : PySem.W.Frag) (mg : Str → Option Value) (base : Heap)
/-- the def x of the module's top keeps the promise sp -/
def Has (CX : CXT) (k : Nat) (x : Str) (ps : List Str) (sp : Sp) : Prop :=
  ∃ (f : Addr) (fd : FuncData), mg x = some (.ref f) ∧ PySem.W.keepIn K (.ref f) = true ∧ Binds K fd ps [] ∧ FnOk P w K mg base CX k f fd ps sp
/-- the def x of the module's top is the statement st -/
def Top (x : Str) (st : Stmt) (ps : List Str) : Prop := ∃ (f : Addr) (fd : FuncData), mg x = some (.ref f) ∧ Fun K x x st f fd ∧ Binds K fd ps []
end
section
variable {P : Program} {w : World} {K : PySem.W.Frag} {mg : Str → Option Value} {base : Heap}
theorem Has.mono {CX : CXT} {j k : Nat} {x : Str} {ps : List Str} {sp : Sp} (h : Has P w K mg base CX j x ps sp) (l : j ≤ k) : Has P w K mg base CX k x ps sp :=
  let ⟨f, fd, a, b, c, d⟩ := h
  ⟨f, fd, a, b, c, d.mono l⟩
theorem Has.imp {CX : CXT} {k : Nat} {x : Str} {ps : List Str} {sp sp' : Sp} (h : Has P w K mg base CX k x ps sp) (i : ∀ vs H Q E, sp' vs H Q E → sp vs H Q E) : Has P w K mg base CX k x ps sp' :=
  let ⟨f, fd, a, b, c, d⟩ := h
  ⟨f, fd, a, b, c, d.imp i⟩
/-- THE RULE for a def that raises nothing -/
theorem Top.ok {x : Str} {st : Stmt} {N ps : List Str} {k : Nat} {sp : Sp} (T : Top K mg x st ps) (S : FnScope N ps (defScope st)) (len : ∀ vs H Q E, sp vs H Q E → vs.length = ps.length)
    (hbody : ∀ (f : Addr) (cdv : Value) (A : Around) (outer : List Env) (s : Shared) (H : Hp) (vs : List V) (Q : VK) (E : XK), Room k (A.deeper (envOfC x (defScope st) s.heap.objs.size f cdv)) → sp vs H Q E →
      ∃ t, PSs (cxOf CX0 P w K mg base N x (defScope st) f cdv A outer s H E).nox (defBody st) t ∧ t { nx := fun _ H' => Q .non H', rt := Q } (start N vs) H) : Has P w K mg base CX0 (k + 1) x ps sp := by
  obtain ⟨f, fd, hm, F, b⟩ := T
  exact ⟨f, fd, hm, F.kp, b, F.ok S len fun cdv A outer s H vs Q E hr h => hbody f cdv A outer s H vs Q E hr h⟩
end
/-- a call of such a def -/
theorem pe_has {X : Cx} {k : Nat} {x : Str} {ps : List Str} {sp : Sp} {e : Expr} {es : List Expr} {t : TA} {p pos : Pos} (h : Has X.prog X.w X.K X.mg X.base CX0 k x ps sp) (hr : Room k X.A) (hg : Gl X x) (ha : PA X (e :: es) t)
    (hdb : (x == ("__debug__" : Str)) = false := by decide) (he : starEach (e :: es) X.env = (false, eval e X.env) :: starEach es X.env := by rfl) (hpl : (backTo pos (starEach es X.env)).any (·.1) = false := by rfl) :
    PE X (.Call (.Name x p) (e :: es) [] pos) (tCall sp [] E0 t) := by
  obtain ⟨f, fd, hm, hk, hb, F⟩ := h
  exact pe_call F hr hg hm hk hb .nil pass0 ha hdb he hpl
end Lt

set_option Elab.async false
set_option linter.all false
set_option maxRecDepth 100000
set_option maxHeartbeats 4000000
/-! errors of the program's own -/
namespace L2
open PySem PySem.Spec PyProof.Rows
section
variable {X : Cx} {pos : Pos}
/-- X(), X an own exception class without own __init__ -/
theorem pmk_own0 {C : Addr} {bmB : List Value} {B newId initId : String} {x : Str} {p : Pos} (F : ExcBaseFacts B newId initId bmB) (q : PySem.W.excIn X.K C bmB newId = true) (gC : X.mg x = some (.ref C))
    (kC : PySem.W.keepIn X.K (.ref C) = true) (r : Raises X (.ref C)) (hg : Gl X x) (hdb : (x == ("__debug__" : Str)) = false := by decide) :
    PMk X (.Call (.Name x p) [] [] pos) (fun _ H Q => Q (.ref C) none H) := by
  intro pins s σ H Q I h
  refine wpAny_Call_Name_kw (ld_glob I hg gC ?_ hdb)
  refine PySem.W.callWith_K0 I.kIn kC ?_
  obtain ⟨bm, N, nm, qn, bs, hdct, sn, sub, ab, col, dd, k0, k1, k2, k3, k5, mN, hC, hN, hni, T⟩ := exc_obj I.kIn q
  exact wpAny_call_exc_subT F T hC hN hni (fun h' e hm => mk_of I hm r h (I.hok.gone hm.new)) (Nat.zero_le _)
end
end L2
namespace Lt
open PySem PySem.Spec PyProof.Rows L2
/-- __init__(self, f): self.f = f -/
def spInit (K : PySem.W.Frag) (fld : Str) : Sp := fun vs H Q _ => ∃ (a C : Addr) (v : V), vs = [.ref a, v] ∧ OexC K C ∧ PySem.W.findIn K (.ref C) fld = some none ∧ H a = some (exo a C none) ∧
  ∀ dx, H dx = none → dx ≠ a → Q .non (upd (upd H dx (exd dx [(fld, v)])) a (exo a C (some dx)))
section
variable (P : Program) (w : World) (K : PySem.W.Frag) (mg : Str → Option Value) (base : Heap)
/-- an own error class with the field fld, set by its __init__ -/
structure ErrI (x fld : Str) (C : Addr) : Prop where
  oex : OexC K C
  g : mg x = some (.ref C)
  no : PySem.W.findIn K (.ref C) fld = some none
  init : ∃ fI fd, PySem.W.findIn K (.ref C) "__init__" = some (some (.ref fI)) ∧ PySem.W.typeIn K (.ref fI) = some (.type "function") ∧ Binds K fd ["self", fld] [] ∧ FnOk P w K mg base CX0 1 fI fd ["self", fld] (spInit K fld)
  xf : XfC K C
  exm : PySem.W.exmOne K (.ref C) (.ref C) = some true
/-- one without -/
structure Err0 (x : Str) (C : Addr) : Prop where
  q : PySem.W.excIn K C [.type "ValueError", .type "Exception", .type "BaseException", .type "object"] "ValueError.__new__" = true
  g : mg x = some (.ref C)
  k : PySem.W.keepIn K (.ref C) = true
  exC : PySem.W.subIn K (.ref C) (.type "BaseException") = some true
  tyC : PySem.W.typeIn K (.ref C) = some (.type "type")
  exm : PySem.W.exmOne K (.ref C) (.ref C) = some true
end
/-- an error with its field lies behind H -/
def BadF (C : Addr) (fld : Str) (v : V) (H : Hp) (E : XK) : Prop := ∀ d H', Same H H' → H' d = some (.xd [(fld, v)]) → E (.ref C) (some d) H'
/-- an error without fields -/
def Bad0 (C : Addr) (H : Hp) (E : XK) : Prop := ∀ H', Same H H' → E (.ref C) none H'
theorem BadF.same {C : Addr} {fld : Str} {v : V} {H H' : Hp} {E : XK} (h : BadF C fld v H E) (s : Same H H') : BadF C fld v H' E := fun d H2 s2 => h d H2 (s.trans s2)
theorem Bad0.same {C : Addr} {H H' : Hp} {E : XK} (h : Bad0 C H E) (s : Same H H') : Bad0 C H' E := fun H2 s2 => h H2 (s.trans s2)
theorem mk_read {K : PySem.W.Frag} {C : Addr} {fld : Str} {v : V} {H1 : Hp} {Q : XK} (oex : OexC K C) (no : PySem.W.findIn K (.ref C) fld = some none) (h : BadF C fld v H1 Q) :
    [v].length ≤ 1000 ∧ ∀ a, H1 a = none → spInit K fld (.ref a :: ([v] ++ [])) (upd H1 a (exo a C none))
      (fun u H2 => u = .non ∧ ∃ (d : Addr) (fs : List (Str × V)), H2 a = some (exo a C (some d)) ∧ H2 d = some (exd d fs) ∧ H1 d = none ∧ Q (.ref C) (some d) (upd (del H2 a) d (.xd fs))) (fun _ _ _ => False) := by
  refine ⟨by show 1 ≤ 1000; omega, fun a ha => ⟨a, C, v, rfl, oex, no, upd_same, fun dx hdx hne => ⟨rfl, dx, [(fld, v)], upd_same, ?_, ?_, ?_⟩⟩⟩
  · rw [upd_ne hne, upd_same]
  · rw [upd_ne hne] at hdx
    exact hdx
  · rw [upd_ne hne] at hdx
    refine h dx _ (fun b o e => ?_) upd_same
    have h1 : b ≠ a := ne_of_none e ha
    have h2 : b ≠ dx := ne_of_none e hdx
    rw [upd_ne h2, del_ne h1, upd_ne h1, upd_ne h2, upd_ne h1]
    exact e
section
variable {X : Cx} {P : Program} {w : World} {K : PySem.W.Frag} {mg : Str → Option Value} {base : Heap}
/-- raise X(e) -/
theorem pmk_errI {x fld : Str} {C : Addr} {e : Expr} {ta : TA} {p pos : Pos} (T : ErrI X.prog X.w X.K X.mg X.base x fld C) (hr : Room 2 X.A) (hg : Gl X x) (ha : PA X [e] ta)
    (hdb : (x == ("__debug__" : Str)) = false := by decide) (he : starEach (e :: []) X.env = (false, eval e X.env) :: starEach [] X.env := by rfl) (hpl : (backTo pos (starEach [] X.env)).any (·.1) = false := by rfl) :
    PMk X (.Call (.Name x p) [e] [] pos) (tMkO C (spInit X.K fld) [] ta) := by
  obtain ⟨fI, fd, iC, tI, b, F⟩ := T.init
  exact pmk_oex T.oex iC tI F hr b .nil pass0 hg T.g ha hdb he hpl
theorem pmk_err0 {x : Str} {C : Addr} {p pos : Pos} (T : Err0 X.K X.mg x C) (hg : Gl X x) (hdb : (x == ("__debug__" : Str)) = false := by decide) :
    PMk X (.Call (.Name x p) [] [] pos) (fun _ H Q => Q (.ref C) none H) := pmk_own0 PySem.F.excBase_ValueError T.q T.g T.k (raises_own T.exC T.tyC) hg hdb
/-- THE RULE for a def that may raise -/
theorem Top.okX {x : Str} {st : Stmt} {N ps : List Str} {k : Nat} {sp : Sp} (T : Top K mg x st ps) (S : FnScope N ps (defScope st)) (len : ∀ vs H Q E, sp vs H Q E → vs.length = ps.length)
    (hbody : ∀ (f : Addr) (cdv : Value) (A : Around) (outer : List Env) (s : Shared) (H : Hp) (vs : List V) (Q : VK) (E : XK), Room k (A.deeper (envOfC x (defScope st) s.heap.objs.size f cdv)) → sp vs H Q E →
      ∃ t, PSs (cxOf (L2.CX P w) P w K mg base N x (defScope st) f cdv A outer s H E) (defBody st) t ∧ t { nx := fun _ H' => Q .non H', rt := Q } (start N vs) H) : Has P w K mg base (L2.CX P w) (k + 1) x ps sp := by
  obtain ⟨f, fd, hm, F, b⟩ := T
  exact ⟨f, fd, hm, F.kp, b, F.okX S len fun cdv A outer s H vs Q E hr h => hbody f cdv A outer s H vs Q E hr h⟩
/-- a call of a def that may raise, in a body that lets it out -/
theorem pe_hasX {k : Nat} {x : Str} {ps : List Str} {sp : Sp} {e : Expr} {es : List Expr} {t : TA} {p pos : Pos} {E : XK} (h : Has X.prog X.w X.K X.mg X.base (L2.CX X.prog X.w) k x ps sp) (hr : Room k X.A) (hg : Gl X x) (hx : Passes (L2.CX X.prog X.w) X E) (ha : PA X (e :: es) t)
    (hdb : (x == ("__debug__" : Str)) = false := by decide) (he : starEach (e :: es) X.env = (false, eval e X.env) :: starEach es X.env := by rfl) (hpl : (backTo pos (starEach es X.env)).any (·.1) = false := by rfl) :
    PE X (.Call (.Name x p) (e :: es) [] pos) (tCall sp [] E t) := by
  obtain ⟨f, fd, hm, hk, hb, F⟩ := h
  exact pe_call F hr hg hm hk hb .nil hx ha hdb he hpl
/-- the same where what is raised is caught around -/
theorem pe_hasS {k : Nat} {x : Str} {ps : List Str} {sp : Sp} {e : Expr} {es : List Expr} {t : TA} {p pos : Pos} {E : L2.St → XK} (h : Has X.prog X.w X.K X.mg X.base (L2.CX X.prog X.w) k x ps sp) (hr : Room k X.A) (hg : Gl X x) (hx : ∀ σ, PassesAt (L2.CX X.prog X.w) X σ (E σ)) (ha : PA X (e :: es) t)
    (hdb : (x == ("__debug__" : Str)) = false := by decide) (he : starEach (e :: es) X.env = (false, eval e X.env) :: starEach es X.env := by rfl) (hpl : (backTo pos (starEach es X.env)).any (·.1) = false := by rfl) :
    PE X (.Call (.Name x p) (e :: es) [] pos) (tCallS sp E t) := by
  obtain ⟨f, fd, hm, hk, hb, F⟩ := h
  exact pe_callS F hr hg hm hk hb hx ha hdb he hpl
end
/-- no error is wished for: the same def as one that raises nothing -/
theorem pe_hasL {X : Cx} {k : Nat} {x : Str} {ps : List Str} {sp : Sp} {e : Expr} {es : List Expr} {t : TA} {p pos : Pos} (h : Has X.prog X.w X.K X.mg X.base (L2.CX X.prog X.w) k x ps sp) (hr : Room k X.A) (hg : Gl X x) (ha : PA X (e :: es) t)
    (hdb : (x == ("__debug__" : Str)) = false := by decide) (he : starEach (e :: es) X.env = (false, eval e X.env) :: starEach es X.env := by rfl) (hpl : (backTo pos (starEach es X.env)).any (·.1) = false := by rfl) :
    PE X (.Call (.Name x p) (e :: es) [] pos) (tCall sp [] E0 t) := pe_hasX h hr hg passL ha hdb he hpl
end Lt

set_option linter.all false
set_option Elab.async false
/-! permutations as lists of numbers; the turns that given ones make -/
namespace Lt
def IsP (n : Nat) (t : List Nat) : Prop := t.Perm (List.range n)
instance (n : Nat) (t : List Nat) : Decidable (IsP n t) := inferInstanceAs (Decidable (t.Perm (List.range n)))
theorem IsP.len {n : Nat} {t : List Nat} (h : IsP n t) : t.length = n := by
  have e := List.Perm.length_eq h
  rw [List.length_range] at e
  exact e
theorem IsP.nd {n : Nat} {t : List Nat} (h : IsP n t) : t.Nodup := (List.Perm.nodup_iff h).mpr List.nodup_range
theorem IsP.mem {n : Nat} {t : List Nat} (h : IsP n t) {i : Nat} : i ∈ t ↔ i < n := (List.Perm.mem_iff h).trans List.mem_range
theorem IsP.lt {n : Nat} {t : List Nat} (h : IsP n t) : ∀ i ∈ t, i < n := fun i hi => h.mem.mp hi
theorem IsP.still (n : Nat) : IsP n (List.range n) := List.Perm.refl _
def prod (x y : List Nat) : List Nat := x.map fun i => y.getD i 0
theorem prod_len (x y : List Nat) : (prod x y).length = x.length := List.length_map ..
theorem map_getD_range : ∀ (y : List Nat), (List.range y.length).map (fun i => y.getD i 0) = y := fun y => by
  apply List.ext_getElem?
  intro i
  rw [List.getElem?_map]
  by_cases h : i < y.length
  · rw [List.getElem?_range h, Option.map_some, List.getD_eq_getElem?_getD, List.getElem?_eq_getElem h, Option.getD_some]
  · rw [List.getElem?_eq_none (by rw [List.length_range]; omega), List.getElem?_eq_none (by omega), Option.map_none]
theorem IsP.prod {n : Nat} {x y : List Nat} (hx : IsP n x) (hy : IsP n y) : IsP n (prod x y) := by
  have h : (Lt.prod x y).Perm ((List.range n).map fun i => y.getD i 0) := List.Perm.map _ hx
  have e := map_getD_range y
  rw [hy.len] at e
  rw [e] at h
  exact h.trans hy
theorem prod_still_l {n : Nat} {x : List Nat} (hx : x.length = n) : prod (List.range n) x = x := by
  subst hx
  exact map_getD_range x
theorem getD_range {n i : Nat} (h : i < n) : (List.range n).getD i 0 = i := by
  rw [List.getD_eq_getElem?_getD, List.getElem?_range h, Option.getD_some]
theorem prod_still_r {n : Nat} {x : List Nat} (hx : ∀ i ∈ x, i < n) : prod x (List.range n) = x := by
  unfold prod
  refine (List.map_congr_left (g := id) fun i hi => ?_).trans (List.map_id x)
  exact getD_range (hx i hi)
theorem prod_assoc {x y z : List Nat} (hx : ∀ i ∈ x, i < y.length) : prod (prod x y) z = prod x (prod y z) := by
  unfold prod
  rw [List.map_map]
  refine List.map_congr_left fun i hi => ?_
  show z.getD (y.getD i 0) 0 = (y.map fun i => z.getD i 0).getD i 0
  rw [List.getD_eq_getElem?_getD (l := y.map _), List.getElem?_map, List.getD_eq_getElem?_getD (l := y), List.getElem?_eq_getElem (hx i hi)]
  rfl
def inv (t : List Nat) : List Nat := (List.range t.length).map fun p => t.idxOf p
theorem inv_len (t : List Nat) : (inv t).length = t.length := by
  unfold inv
  rw [List.length_map, List.length_range]
theorem map_idxOf {t : List Nat} (h : t.Nodup) : t.map (fun p => t.idxOf p) = List.range t.length := by
  apply List.ext_getElem?
  intro i
  rw [List.getElem?_map]
  by_cases hi : i < t.length
  · rw [List.getElem?_range hi, List.getElem?_eq_getElem hi, Option.map_some, h.idxOf_getElem i hi]
  · rw [List.getElem?_eq_none (by omega), List.getElem?_eq_none (by rw [List.length_range]; omega), Option.map_none]
theorem IsP.inv {n : Nat} {t : List Nat} (h : IsP n t) : IsP n (inv t) := by
  have e := map_idxOf h.nd
  rw [h.len] at e
  have h2 : ((List.range n).map fun p => t.idxOf p).Perm (t.map fun p => t.idxOf p) := List.Perm.map _ (List.Perm.symm h)
  rw [e] at h2
  unfold IsP Lt.inv
  rw [h.len]
  exact h2
theorem prod_inv_r {n : Nat} {t : List Nat} (h : IsP n t) : prod t (inv t) = List.range n := by
  have e : prod t (inv t) = t.map fun p => t.idxOf p := by
    unfold prod
    refine List.map_congr_left fun p hp => ?_
    have hl : p < t.length := by rw [h.len]; exact h.lt p hp
    show ((List.range t.length).map fun p => t.idxOf p).getD p 0 = t.idxOf p
    rw [List.getD_eq_getElem?_getD, List.getElem?_map, List.getElem?_range hl]
    rfl
  rw [e, map_idxOf h.nd, h.len]
theorem prod_inv_l {n : Nat} {t : List Nat} (h : IsP n t) : prod (inv t) t = List.range n := by
  unfold prod inv
  rw [List.map_map, h.len]
  refine (List.map_congr_left (g := id) fun p hp => ?_).trans (List.map_id _)
  have hm : p ∈ t := h.mem.mpr (List.mem_range.mp hp)
  show t.getD (t.idxOf p) 0 = p
  rw [List.getD_eq_getElem?_getD, List.getElem?_eq_getElem (List.idxOf_lt_length_of_mem hm), Option.getD_some, List.getElem_idxOf]
theorem inv_unique {n : Nat} {a b : List Nat} (ha : IsP n a) (hb : IsP n b) (h : prod a b = List.range n) : b = inv a := by
  have h1 : prod (prod (inv a) a) b = prod (inv a) (prod a b) := prod_assoc fun i hi => by rw [ha.len]; exact ha.inv.lt i hi
  rw [prod_inv_l ha, h, prod_still_l hb.len, prod_still_r ha.inv.lt] at h1
  exact h1
theorem inv_prod {n : Nat} {a b : List Nat} (ha : IsP n a) (hb : IsP n b) : inv (prod a b) = prod (inv b) (inv a) := by
  refine (inv_unique (ha.prod hb) (hb.inv.prod ha.inv) ?_).symm
  rw [prod_assoc fun i hi => by rw [hb.len]; exact ha.lt i hi]
  rw [← prod_assoc (x := b) fun i hi => by rw [hb.inv.len]; exact hb.lt i hi, prod_inv_r hb, prod_still_l ha.inv.len, prod_inv_r ha]
/-! ### the turns that makers make, one behind another -/
abbrev W := List Nat × List Nat
/-- the words behind one turn with the makers gs, the first of which stands at place p -/
def grow (t w : List Nat) : List (List Nat) → Nat → List W → List W
  | [], _, L => L
  | g :: gs, p, L => grow t w gs (p + 1) (if prod t g ∈ L.map (·.1) then L else L ++ [(prod t g, w ++ [p])])
/-- the words when the first k have been gone through -/
def qq (gs : List (List Nat)) (n : Nat) : Nat → List W
  | 0 => [(List.range n, [])]
  | k + 1 => match (qq gs n k)[k]? with
    | none => qq gs n k
    | some (t, w) => grow t w gs 0 (qq gs n k)
theorem grow_pre (t w : List Nat) : ∀ (gs : List (List Nat)) (p : Nat) (L : List W), ∃ M, grow t w gs p L = L ++ M
  | [], _, L => ⟨[], (List.append_nil L).symm⟩
  | g :: gs, p, L => by
    show ∃ M, grow t w gs (p + 1) (if prod t g ∈ L.map (·.1) then L else L ++ [(prod t g, w ++ [p])]) = L ++ M
    split
    · exact grow_pre t w gs (p + 1) L
    · obtain ⟨M, e⟩ := grow_pre t w gs (p + 1) (L ++ [(prod t g, w ++ [p])])
      exact ⟨[(prod t g, w ++ [p])] ++ M, by rw [e, List.append_assoc]⟩
theorem qq_pre (gs : List (List Nat)) (n : Nat) : ∀ k, ∃ M, qq gs n (k + 1) = qq gs n k ++ M := fun k => by
  show ∃ M, (match (qq gs n k)[k]? with
    | none => qq gs n k
    | some (t, w) => grow t w gs 0 (qq gs n k)) = qq gs n k ++ M
  split
  · exact ⟨[], (List.append_nil _).symm⟩
  · exact grow_pre _ _ _ _ _
theorem qq_pre' (gs : List (List Nat)) (n k : Nat) : ∀ j, ∃ M, qq gs n (k + j) = qq gs n k ++ M
  | 0 => ⟨[], (List.append_nil _).symm⟩
  | j + 1 => by
    obtain ⟨M, e⟩ := qq_pre' gs n k j
    obtain ⟨M', e'⟩ := qq_pre gs n (k + j)
    exact ⟨M ++ M', by rw [← List.append_assoc, ← e, ← e']; rfl⟩
theorem qq_mono (gs : List (List Nat)) (n : Nat) {k m : Nat} (h : k ≤ m) : ∃ M, qq gs n m = qq gs n k ++ M := by
  obtain ⟨M, e⟩ := qq_pre' gs n k (m - k)
  rw [show k + (m - k) = m by omega] at e
  exact ⟨M, e⟩
/-- at the end nothing more comes -/
theorem qq_end (gs : List (List Nat)) (n : Nat) {k : Nat} (h : (qq gs n k).length ≤ k) : ∀ j, qq gs n (k + j) = qq gs n k
  | 0 => rfl
  | j + 1 => by
    have ih := qq_end gs n h j
    show (match (qq gs n (k + j))[k + j]? with
      | none => qq gs n (k + j)
      | some (t, w) => grow t w gs 0 (qq gs n (k + j))) = qq gs n k
    rw [ih, List.getElem?_eq_none (by omega)]
theorem qq_end' (gs : List (List Nat)) (n : Nat) {k m : Nat} (h : (qq gs n k).length ≤ k) (hm : k ≤ m) : qq gs n m = qq gs n k := by
  have e := qq_end gs n h (m - k)
  rw [show k + (m - k) = m by omega] at e
  exact e
theorem grow_keys (t w : List Nat) : ∀ (gs : List (List Nat)) (p : Nat) (L : List W) (x : List Nat), x ∈ (grow t w gs p L).map (·.1) ↔ x ∈ L.map (·.1) ∨ ∃ g ∈ gs, x = prod t g
  | [], _, L, x => by
    show x ∈ L.map (·.1) ↔ _
    simp
  | g :: gs, p, L, x => by
    show x ∈ (grow t w gs (p + 1) (if prod t g ∈ L.map (·.1) then L else L ++ [(prod t g, w ++ [p])])).map (·.1) ↔ _
    rw [grow_keys t w gs (p + 1)]
    split
    · rename_i h
      constructor
      · rintro (h1 | ⟨g', hg, e⟩)
        · exact .inl h1
        · exact .inr ⟨g', List.mem_cons_of_mem _ hg, e⟩
      · rintro (h1 | ⟨g', hg, e⟩)
        · exact .inl h1
        · rcases List.mem_cons.mp hg with z | hg
          · subst z
            rw [e]
            exact .inl h
          · exact .inr ⟨g', hg, e⟩
    · rw [List.map_append, List.mem_append]
      constructor
      · rintro ((h1 | h1) | ⟨g', hg, e⟩)
        · exact .inl h1
        · exact .inr ⟨g, List.mem_cons_self, List.mem_singleton.mp h1⟩
        · exact .inr ⟨g', List.mem_cons_of_mem _ hg, e⟩
      · rintro (h1 | ⟨g', hg, e⟩)
        · exact .inl (.inl h1)
        · rcases List.mem_cons.mp hg with z | hg
          · subst z
            exact .inl (.inr (List.mem_singleton.mpr e))
          · exact .inr ⟨g', hg, e⟩
theorem nodup_snoc {α : Type} {l : List α} {x : α} (h : l.Nodup) (hx : x ∉ l) : (l ++ [x]).Nodup :=
  List.nodup_append.mpr ⟨h, List.pairwise_singleton _ _, fun a ha b hb e => by
    rw [List.mem_singleton.mp hb] at e
    exact hx (e ▸ ha)⟩
theorem grow_nd (t w : List Nat) : ∀ (gs : List (List Nat)) (p : Nat) (L : List W), (L.map (·.1)).Nodup → ((grow t w gs p L).map (·.1)).Nodup
  | [], _, _, h => h
  | g :: gs, p, L, h => by
    refine grow_nd t w gs (p + 1) _ ?_
    split
    · exact h
    · rename_i hx
      rw [List.map_append]
      exact nodup_snoc h hx
theorem qq_nd (gs : List (List Nat)) (n : Nat) : ∀ k, ((qq gs n k).map (·.1)).Nodup
  | 0 => List.pairwise_singleton _ _
  | k + 1 => by
    show ((match (qq gs n k)[k]? with
      | none => qq gs n k
      | some (t, w) => grow t w gs 0 (qq gs n k)).map (fun x : W => x.1)).Nodup
    split
    · exact qq_nd gs n k
    · exact grow_nd _ _ _ _ _ (qq_nd gs n k)
/-- what the makers make -/
inductive Mk (gs : List (List Nat)) (n : Nat) : List Nat → Prop
  | still : Mk gs n (List.range n)
  | step {t g : List Nat} : Mk gs n t → g ∈ gs → Mk gs n (prod t g)
theorem Mk.isP {gs : List (List Nat)} {n : Nat} (hg : ∀ g ∈ gs, IsP n g) {t : List Nat} (h : Mk gs n t) : IsP n t := by
  induction h with
  | still => exact IsP.still n
  | step _ hm ih => exact ih.prod (hg _ hm)
theorem qq_mk (gs : List (List Nat)) (n : Nat) : ∀ k, ∀ t ∈ (qq gs n k).map (·.1), Mk gs n t
  | 0, t, h => by
    rw [List.mem_singleton.mp (show t ∈ [List.range n] from h)]
    exact .still
  | k + 1, t, h => by
    have ih := qq_mk gs n k
    have h' : t ∈ (match (qq gs n k)[k]? with
      | none => qq gs n k
      | some (t, w) => grow t w gs 0 (qq gs n k)).map (fun x : W => x.1) := h
    split at h'
    · exact ih t h'
    · rename_i t0 w0 e
      rcases (grow_keys t0 w0 gs 0 _ t).mp h' with z | ⟨g, hg, z⟩
      · exact ih t z
      · rw [z]
        exact .step (ih t0 (List.mem_map.mpr ⟨_, List.mem_of_getElem? e, rfl⟩)) hg
theorem qq_head (gs : List (List Nat)) (n k : Nat) : (List.range n, ([] : List Nat)) ∈ qq gs n k := by
  obtain ⟨M, e⟩ := qq_mono gs n (Nat.zero_le k)
  rw [e]
  exact List.mem_append.mpr (.inl (List.mem_singleton.mpr rfl))
/-- where the words are all gone through, they are all that is made -/
theorem qq_full {gs : List (List Nat)} {n k : Nat} (h : (qq gs n k).length ≤ k) : ∀ t, t ∈ (qq gs n k).map (·.1) ↔ Mk gs n t := fun t => by
  refine ⟨qq_mk gs n k t, fun m => ?_⟩
  induction m with
  | still => exact List.mem_map.mpr ⟨_, qq_head gs n k, rfl⟩
  | @step t g _ hg ih =>
    obtain ⟨⟨t', w'⟩, hm, e⟩ := List.mem_map.mp ih
    have e : t' = t := e
    subst e
    obtain ⟨i, hi, ei⟩ := List.getElem_of_mem hm
    -- position i was gone through at turn i
    have hk : i + 1 ≤ k := by omega
    obtain ⟨M, eM⟩ := qq_mono gs n hk
    obtain ⟨M0, eM0⟩ := qq_mono gs n (show i ≤ i + 1 by omega)
    by_cases hq : i < (qq gs n i).length
    · have g1 : (qq gs n i)[i]? = some (t', w') := by
        have z : (qq gs n k)[i]? = some (t', w') := by rw [List.getElem?_eq_getElem hi, ei]
        rw [eM, eM0, List.append_assoc, List.getElem?_append_left hq] at z
        exact z
      have g2 : qq gs n (i + 1) = grow t' w' gs 0 (qq gs n i) := by
        show (match (qq gs n i)[i]? with
          | none => qq gs n i
          | some (t, w) => grow t w gs 0 (qq gs n i)) = _
        rw [g1]
      rw [eM, List.map_append, List.mem_append]
      refine .inl ?_
      rw [g2]
      exact (grow_keys t' w' gs 0 _ _).mpr (.inr ⟨g, hg, rfl⟩)
    · have z := qq_end' gs n (show (qq gs n i).length ≤ i by omega) (show i ≤ k by omega)
      rw [z] at hi
      exact absurd hi hq
theorem nodup_len {α : Type} [DecidableEq α] : ∀ (l D : List α), l.Nodup → (∀ x ∈ l, x ∈ D) → l.length ≤ D.length
  | [], _, _, _ => Nat.zero_le _
  | x :: l, D, hn, hs => by
    obtain ⟨h1, h2⟩ := List.nodup_cons.mp hn
    have hx : x ∈ D := hs x List.mem_cons_self
    have ih := nodup_len l (D.erase x) h2 fun y hy => by
      have hne : y ≠ x := fun e => h1 (e ▸ hy)
      exact (List.mem_erase_of_ne hne).2 (hs y (List.mem_cons_of_mem _ hy))
    have e := List.length_erase_of_mem hx
    have hp : 0 < D.length := List.length_pos_of_mem hx
    show l.length + 1 ≤ D.length
    omega
/-- few turns are made: at most m -/
def Few (gs : List (List Nat)) (n m : Nat) : Prop := ∃ D : List (List Nat), D.length ≤ m ∧ ∀ t, Mk gs n t → t ∈ D
theorem Few.le {gs : List (List Nat)} {n m : Nat} (h : Few gs n m) {l : List (List Nat)} (hn : l.Nodup) (hl : ∀ t ∈ l, Mk gs n t) : l.length ≤ m := by
  obtain ⟨D, h1, h2⟩ := h
  exact Nat.le_trans (nodup_len l D hn fun t ht => h2 t (hl t ht)) h1
theorem Few.qq {gs : List (List Nat)} {n m : Nat} (h : Few gs n m) (k : Nat) : (qq gs n k).length ≤ m := by
  have z := h.le (qq_nd gs n k) (qq_mk gs n k)
  rw [List.length_map] at z
  exact z
end Lt

set_option Elab.async false
set_option linter.all false
set_option maxRecDepth 100000
set_option maxHeartbeats 4000000
namespace Lt
open PySem PySem.Spec PyProof.Rows L2
/-- the built-in names that the module leaves as they are -/
structure Bi (mg : Str → Option Value) : Prop where
  tuple : mg "tuple" = none
  list : mg "list" = none
  range : mg "range" = none
  len : mg "len" = none
  sorted : mg "sorted" = none
  enumerate : mg "enumerate" = none
  isinstance : mg "isinstance" = none
  all : mg "all" = none
  set : mg "set" = none
  int : mg "int" = none
  bool : mg "bool" = none
  str : mg "str" = none
/-! ### comprehensions -/
section
variable {K : PySem.W.Frag} {te : TE} {vs : List Nat} {σ : L2.St} {H1 : Hp} {D : Addr} {Qd : Hp → Prop} {β : Type} {j : Nat}
/-- what a comprehension's list holds after i turns -/
def Cm (H1 : Hp) (D : Addr) (R : Hp → V → β → Prop) (ys : List β) (i : Nat) (H : Hp) : Prop := Same H1 H ∧ ∃ zs, H D = some (.lst zs) ∧ Paired (R H) zs (ys.take i) ∧ zs.length ≤ i
theorem paired_mono {α γ : Type} {R R' : α → γ → Prop} (h : ∀ a b, R a b → R' a b) : ∀ {xs : List α} {ys : List γ}, Paired R xs ys → Paired R' xs ys
  | _, _, .nil => .nil
  | _, _, .cons r t => .cons (h _ _ r) (paired_mono h t)
theorem cm_turn {R : Hp → V → β → Prop} {ys : List β} {i : Nat} {H : Hp} {σ2 : L2.St} (mono : ∀ H H' v b, Tm H H' → R H v b → R H' v b) (hD : H1 D = none) (p : Cm H1 D R ys i H) (hi : i < 100000) {b : β} (hb : ys[i]? = some b)
    (he : ∀ H, Same H1 H → ∀ Q : VK, (∀ v H', Same H H' → R H' v b → Q v H') → te σ2 H Q) :
    te σ2 H fun y H4 => ∃ acc, H4 D = some (.lst acc) ∧ acc.length < sizeLine ∧ Cm H1 D R ys (i + 1) (upd H4 D (.lst (acc ++ [y]))) := by
  obtain ⟨sm, zs, hz, pr, hl⟩ := p
  refine he H sm _ fun v H4 s4 r => ?_
  have h4 := s4 _ _ hz
  have t4 : Tm H4 (upd H4 D (.lst (zs ++ [v]))) := Tm.lst h4
  refine ⟨zs, h4, Nat.lt_of_le_of_lt hl (Nat.lt_of_lt_of_le hi (by decide)), same_mut (sm.trans s4) hD, zs ++ [v], upd_same, ?_, by rw [List.length_append]; show zs.length + 1 ≤ i + 1; omega⟩
  rw [List.take_add_one, hb]
  exact Paired.app (paired_mono (fun a b q => mono _ _ _ _ ((Tm.of s4).trans t4) q) pr) (Paired.one (mono _ _ _ _ t4 r))
theorem lc_tupM {a : Addr} {xs : List V} (R : Hp → V → β → Prop) (ys : List β) (mono : ∀ H H' v b, Tm H H' → R H v b → R H' v b) (hx : SqT K H1 a xs) (hxK : ∀ H, Same H1 H → SqT K H a xs) (hz : xs.length ≤ 100000) (hy : ys.length = xs.length) (hD : H1 D = none)
    (hw : ∀ x, wipe ((wipe σ vs).set j (some x)) vs = wipe σ vs)
    (he : ∀ (i : Nat) (x : V) (b : β), xs[i]? = some x → ys[i]? = some b → ∀ H, Same H1 H → ∀ Q : VK, (∀ v H', Same H H' → R H' v b → Q v H') → te ((wipe σ vs).set j (some x)) H Q)
    (hd : ∀ H zs, Same H1 H → H D = some (.lst zs) → Paired (R H) zs ys → Qd H) :
    ∃ W : Nat → Nat → Hp → Prop, (∃ m, W 0 m (upd H1 D (.lst []))) ∧ ∀ i m H, W i m H →
      ((Itt K a).stop i H ∧ Qd H) ∨ ((Itt K a).go i H ∧ ∃ Nx : Hp → Prop, (∀ H', Nx H' → ∃ m', m' < m ∧ W (i + 1) m' H') ∧ ∀ x H', (Itt K a).yld i H x H' → gName j x (wipe σ vs) H' fun σ2 H2 => wipe σ2 vs = wipe σ vs ∧ tYes σ2 H2 fun b H3 =>
        if b = true then te σ2 H3 fun y H4 => ∃ acc, H4 D = some (.lst acc) ∧ acc.length < sizeLine ∧ Nx (upd H4 D (.lst (acc ++ [y]))) else Nx H3) :=
  lc_tup (xs := xs) (Cm H1 D R ys) ⟨same_new hD, [], upd_same, .nil, Nat.le_refl _⟩ (fun i H _ p => hxK H p.1)
    (fun i x H hi p => ⟨hw x, iteT (B := Cm H1 D R ys (i + 1) H) (by
      have hl := (List.getElem?_eq_some_iff.mp hi).1
      have hb : ys[i]? = some (ys[i]'(by omega)) := List.getElem?_eq_getElem (by omega)
      exact cm_turn mono hD p (by omega) hb (he i x _ hi hb))⟩)
    (fun H p => by
      obtain ⟨sm, zs, h1, pr, _⟩ := p
      rw [← hy, List.take_length] at pr
      exact hd H zs sm h1 pr)
theorem lc_listM {a : Addr} {xs : List V} (R : Hp → V → β → Prop) (ys : List β) (mono : ∀ H H' v b, Tm H H' → R H v b → R H' v b) (hxK : ∀ H, Same H1 H → SqL K H a xs) (hz : xs.length ≤ 100000) (hy : ys.length = xs.length) (hD : H1 D = none)
    (hw : ∀ x, wipe ((wipe σ vs).set j (some x)) vs = wipe σ vs)
    (he : ∀ (i : Nat) (x : V) (b : β), xs[i]? = some x → ys[i]? = some b → ∀ H, Same H1 H → ∀ Q : VK, (∀ v H', Same H H' → R H' v b → Q v H') → te ((wipe σ vs).set j (some x)) H Q)
    (hd : ∀ H zs, Same H1 H → H D = some (.lst zs) → Paired (R H) zs ys → Qd H) :
    ∃ W : Nat → Nat → Hp → Prop, (∃ m, W 0 m (upd H1 D (.lst []))) ∧ ∀ i m H, W i m H →
      ((Itl K a).stop i H ∧ Qd H) ∨ ((Itl K a).go i H ∧ ∃ Nx : Hp → Prop, (∀ H', Nx H' → ∃ m', m' < m ∧ W (i + 1) m' H') ∧ ∀ x H', (Itl K a).yld i H x H' → gName j x (wipe σ vs) H' fun σ2 H2 => wipe σ2 vs = wipe σ vs ∧ tYes σ2 H2 fun b H3 =>
        if b = true then te σ2 H3 fun y H4 => ∃ acc, H4 D = some (.lst acc) ∧ acc.length < sizeLine ∧ Nx (upd H4 D (.lst (acc ++ [y]))) else Nx H3) :=
  lc_list (xs := xs) (Cm H1 D R ys) ⟨same_new hD, [], upd_same, .nil, Nat.le_refl _⟩ (fun i H _ p => hxK H p.1)
    (fun i x H hi p => ⟨hw x, iteT (B := Cm H1 D R ys (i + 1) H) (by
      have hl := (List.getElem?_eq_some_iff.mp hi).1
      have hb : ys[i]? = some (ys[i]'(by omega)) := List.getElem?_eq_getElem (by omega)
      exact cm_turn mono hD p (by omega) hb (he i x _ hi hb))⟩)
    (fun H p => by
      obtain ⟨sm, zs, h1, pr, _⟩ := p
      rw [← hy, List.take_length] at pr
      exact hd H zs sm h1 pr)
theorem lc_rangeM {n : Nat} (R : Hp → V → β → Prop) (ys : List β) (mono : ∀ H H' v b, Tm H H' → R H v b → R H' v b) (hz : n ≤ 100000) (hy : ys.length = n) (hD : H1 D = none)
    (hw : ∀ x, wipe ((wipe σ vs).set j (some x)) vs = wipe σ vs)
    (he : ∀ (i : Nat) (b : β), i < n → ys[i]? = some b → ∀ H, Same H1 H → ∀ Q : VK, (∀ v H', Same H H' → R H' v b → Q v H') → te ((wipe σ vs).set j (some (.int ((0 : Int) + (i : Nat))))) H Q)
    (hd : ∀ H zs, Same H1 H → H D = some (.lst zs) → Paired (R H) zs ys → Qd H) :
    ∃ W : Nat → Nat → Hp → Prop, (∃ m, W 0 m (upd H1 D (.lst []))) ∧ ∀ i m H, W i m H →
      ((Itr 0 n).stop i H ∧ Qd H) ∨ ((Itr 0 n).go i H ∧ ∃ Nx : Hp → Prop, (∀ H', Nx H' → ∃ m', m' < m ∧ W (i + 1) m' H') ∧ ∀ x H', (Itr 0 n).yld i H x H' → gName j x (wipe σ vs) H' fun σ2 H2 => wipe σ2 vs = wipe σ vs ∧ tYes σ2 H2 fun b H3 =>
        if b = true then te σ2 H3 fun y H4 => ∃ acc, H4 D = some (.lst acc) ∧ acc.length < sizeLine ∧ Nx (upd H4 D (.lst (acc ++ [y]))) else Nx H3) :=
  lc_range (lo := 0) (n := n) (Cm H1 D R ys) ⟨same_new hD, [], upd_same, .nil, Nat.le_refl _⟩
    (fun i H hi p => ⟨hw _, iteT (B := Cm H1 D R ys (i + 1) H) (by
      have hb : ys[i]? = some (ys[i]'(by omega)) := List.getElem?_eq_getElem (by omega)
      exact cm_turn mono hD p (by omega) hb (he i _ hi hb))⟩)
    (fun H p => by
      obtain ⟨sm, zs, h1, pr, _⟩ := p
      rw [← hy, List.take_length] at pr
      exact hd H zs sm h1 pr)
end
/-- a new tuple of numbers -/
theorem tn_of {H : Hp} {zs : List V} {p : Addr} {t : List Nat} (h : H p = some (.tup zs)) (e : zs = nIs t) : TK H (.ref p) t := ⟨p, rfl, by rw [h, e]⟩
def RN (_ : Hp) (v : V) (n : Nat) : Prop := v = nI n
theorem RN.all {H : Hp} : ∀ {zs : List V} {t : List Nat}, Paired (RN H) zs t → zs = nIs t
  | _, _, .nil => rfl
  | _, _, .cons r t => by rw [(show _ = nI _ from r), RN.all t]; rfl
end Lt

set_option Elab.async false
set_option linter.all false
set_option maxRecDepth 100000
namespace Lt
open PySem PySem.Spec PyProof.Rows L2
def topS (i : Nat) : Stmt := PySem.Challenge.pw_lockturns_k04_whole_tasks.main.body.getD i (.Pass ⟨0, 0, 0, 0⟩)
abbrev s_LockError : Stmt := topS 1
abbrev s_BadSign : Stmt := topS 2
abbrev s_BadTask : Stmt := topS 3
abbrev s_BadNumber : Stmt := topS 4
abbrev s_BadString : Stmt := topS 5
abbrev s_is_number : Stmt := topS 7
abbrev s_are_numbers : Stmt := topS 8
abbrev s_table_of : Stmt := topS 15
abbrev s_all_of : Stmt := topS 16
abbrev s_polynomial : Stmt := topS 17
abbrev s_degree : Stmt := topS 18
abbrev s_check_inputs : Stmt := topS 19
abbrev s_check_prime : Stmt := topS 20
abbrev s_check_table : Stmt := topS 21
abbrev s_inputs_of : Stmt := topS 22
abbrev s_input_table : Stmt := topS 23
abbrev s_bits_of : Stmt := topS 24
abbrev s_part_of : Stmt := topS 25
abbrev s_factors_of : Stmt := topS 26
abbrev s_formula_tree : Stmt := topS 27
abbrev s_placed_words : Stmt := topS 28
abbrev s_tree_from : Stmt := topS 29
abbrev s_expected : Stmt := topS 30
abbrev s_worth_of : Stmt := topS 31
abbrev s_law_taken : Stmt := topS 33
abbrev s_law_pick : Stmt := topS 34
abbrev s_law_alike : Stmt := topS 35
abbrev s_law_tree : Stmt := topS 36
abbrev s_law_text : Stmt := topS 37
abbrev s_law_worth : Stmt := topS 38
abbrev s_law_bits : Stmt := topS 39
abbrev s_law_parts : Stmt := topS 40
abbrev s_law : Stmt := topS 41
end Lt

set_option Elab.async false
set_option linter.all false
set_option maxRecDepth 100000
set_option maxHeartbeats 4000000
namespace Lt
open PySem PySem.Spec PyProof.Rows L2
section
variable {P : Program} {w : World} {K : PySem.W.Frag} {mg : Str → Option Value} {base : Heap}
/-! ### product_of -/
def spProd : Sp := fun vs H Q _ => ∃ (a b : V) (x y : List Nat), vs = [a, b] ∧ TN H a x ∧ TN H b y ∧ (∀ i ∈ x, i < y.length) ∧ x.length ≤ 1000 ∧ ∀ v H', Same H H' → TK H' v (prod x y) → Q v H'
/-! ### still_of -/
def spStill : Sp := fun vs H Q _ => ∃ (n : Nat), vs = [nI n] ∧ n ≤ 1000 ∧ ∀ v H', Same H H' → TK H' v (List.range n) → Q v H'
theorem rgV_nat (n : Nat) : rgV 0 (n : Int) = nIs (List.range n) := by
  unfold rgV nIs
  have e : ((n : Int) - 0).toNat = n := by omega
  rw [e]
  refine List.map_congr_left fun i _ => ?_
  show V.int (0 + (i : Int)) = V.int (i : Int)
  rw [Int.zero_add]
end
end Lt

set_option Elab.async false
set_option linter.all false
set_option maxRecDepth 100000
set_option maxHeartbeats 4000000
namespace Lt
open PySem PySem.Spec PyProof.Rows L2
/-! ### any plain value -/
mutual
inductive Rp (H : Hp) : V → PyData → Prop
  | non : Rp H .non .none
  | bl (b : Bool) : Rp H (.bl b) (.bool b)
  | int (i : Int) : Rp H (.int i) (.int i)
  | str (x : Str) : Rp H (.str x) (.str x)
  | lst {a : Addr} {xs : List V} {ds : List PyData} : H a = some (.lst xs) → RpAll H xs ds → Rp H (.ref a) (.list ds)
  | tup {a : Addr} {xs : List V} {ds : List PyData} : RT H a xs → RpAll H xs ds → Rp H (.ref a) (.tuple ds)
inductive RpAll (H : Hp) : List V → List PyData → Prop
  | nil : RpAll H [] []
  | cons {v : V} {vs : List V} {d : PyData} {ds : List PyData} : Rp H v d → RpAll H vs ds → RpAll H (v :: vs) (d :: ds)
end
mutual
theorem Rp.same {H H' : Hp} (e : Same H H') : ∀ (d : PyData) (v : V), Rp H v d → Rp H' v d
  | .none, _, .non => .non
  | .bool _, _, .bl b => .bl b
  | .int _, _, .int i => .int i
  | .str _, _, .str i => .str i
  | .list ds, _, .lst h a => .lst (e _ _ h) (RpAll.same e ds _ a)
  | .tuple ds, _, .tup h a => .tup (h.sm e) (RpAll.same e ds _ a)
theorem RpAll.same {H H' : Hp} (e : Same H H') : ∀ (ds : List PyData) (vs : List V), RpAll H vs ds → RpAll H' vs ds
  | [], _, .nil => .nil
  | d :: ds, _, .cons r t => .cons (Rp.same e d _ r) (RpAll.same e ds _ t)
end
mutual
theorem Rp.dp {K : PySem.W.Frag} {H : Hp} : ∀ (d : PyData) (v : V), Rp H v d → Dp K H v d
  | .none, _, .non => .non
  | .bool _, _, .bl b => .bl b
  | .int _, _, .int i => .int i
  | .str _, _, .str i => .str i
  | .list ds, _, .lst h a => .lst (SqL.of h) (RpAll.dp ds _ a)
  | .tuple ds, _, .tup h a => .tup h.sq (RpAll.dp ds _ a)
theorem RpAll.dp {K : PySem.W.Frag} {H : Hp} : ∀ (ds : List PyData) (vs : List V), RpAll H vs ds → DpAll K H vs ds
  | [], _, .nil => .nil
  | d :: ds, _, .cons r t => .cons (Rp.dp d _ r) (RpAll.dp ds _ t)
end
theorem RpAll.get {H : Hp} : ∀ {ds : List PyData} {vs : List V} {i : Nat} {v : V}, RpAll H vs ds → vs[i]? = some v → ∃ d, ds[i]? = some d ∧ Rp H v d
  | _, _, _, _, .nil, e => by simp at e
  | _, _, 0, _, .cons r _, e => by
    have e := Option.some.inj e
    subst e
    exact ⟨_, rfl, r⟩
  | _, _, i + 1, v, .cons _ t, e => by
    obtain ⟨d, h1, h2⟩ := RpAll.get (i := i) (v := v) t (by simpa using e)
    exact ⟨d, by simpa using h1, h2⟩
theorem RpAll.len {H : Hp} : ∀ {ds : List PyData} {vs : List V}, RpAll H vs ds → vs.length = ds.length
  | _, _, .nil => rfl
  | _, _, .cons _ t => by rw [List.length_cons, List.length_cons, RpAll.len t]
theorem rp_nats {H : Hp} : ∀ t : List Nat, RpAll H (nIs t) (t.map dN)
  | [] => .nil
  | n :: t => .cons (.int _) (rp_nats t)
theorem TN.rp {H : Hp} {v : V} {t : List Nat} (h : TN H v t) : Rp H v (dT t) := by
  obtain ⟨a, rfl, ha⟩ := h
  exact .tup ha (rp_nats t)
theorem TNs.rp {H : Hp} : ∀ {xs : List V} {ts : List (List Nat)}, Paired (TN H) xs ts → RpAll H xs (ts.map dT)
  | _, _, .nil => .nil
  | _, _, .cons r t => .cons r.rp (TNs.rp t)
theorem TT.rp {H : Hp} {v : V} {ts : List (List Nat)} (h : TT H v ts) : Rp H v (.tuple (ts.map dT)) := by
  obtain ⟨a, xs, rfl, ha, p⟩ := h
  exact .tup (.inl ha) (TNs.rp p)
def tyN : PyData → String
  | .none => "NoneType"
  | .bool _ => "bool"
  | .int _ => "int"
  | .str _ => "str"
  | .list _ => "list"
  | .tuple _ => "tuple"
  | .dict _ => "dict"
theorem rp_ty {K : PySem.W.Frag} {H : Hp} {v : V} {d : PyData} (h : Rp H v d) : TyX K H v (.type (tyN d)) := by
  cases h with
  | non => exact .base .non
  | bl b => exact .base (.bl b)
  | int b => exact .base (.int b)
  | str b => exact .base (.str b)
  | lst h _ => exact .base (.lst h)
  | tup h _ =>
    rcases h with h | ⟨o, h⟩
    · exact .base (.tup h)
    · exact .fTuple h
def isIntB : PyData → Bool
  | .int _ => true
  | .bool _ => true
  | _ => false
def isBl : PyData → Bool
  | .bool _ => true
  | _ => false
def isTup : PyData → Bool
  | .tuple _ => true
  | _ => false
def isLst : PyData → Bool
  | .list _ => true
  | _ => false
def isStr : PyData → Bool
  | .str _ => true
  | _ => false
def isNum : PyData → Bool
  | .int _ => true
  | _ => false
theorem kit_int : ∀ d : PyData, kitB (tyN d) "int" = some (isIntB d)
  | .none => (by decide +kernel : kitB "NoneType" "int" = some false)
  | .bool _ => (by decide +kernel : kitB "bool" "int" = some true)
  | .int _ => (by decide +kernel : kitB "int" "int" = some true)
  | .str _ => (by decide +kernel : kitB "str" "int" = some false)
  | .list _ => (by decide +kernel : kitB "list" "int" = some false)
  | .tuple _ => (by decide +kernel : kitB "tuple" "int" = some false)
  | .dict _ => (by decide +kernel : kitB "dict" "int" = some false)
theorem kit_bool : ∀ d : PyData, kitB (tyN d) "bool" = some (isBl d)
  | .none => (by decide +kernel : kitB "NoneType" "bool" = some false)
  | .bool _ => (by decide +kernel : kitB "bool" "bool" = some true)
  | .int _ => (by decide +kernel : kitB "int" "bool" = some false)
  | .str _ => (by decide +kernel : kitB "str" "bool" = some false)
  | .list _ => (by decide +kernel : kitB "list" "bool" = some false)
  | .tuple _ => (by decide +kernel : kitB "tuple" "bool" = some false)
  | .dict _ => (by decide +kernel : kitB "dict" "bool" = some false)
theorem kit_tup : ∀ d : PyData, kitB (tyN d) "tuple" = some (isTup d)
  | .none => (by decide +kernel : kitB "NoneType" "tuple" = some false)
  | .bool _ => (by decide +kernel : kitB "bool" "tuple" = some false)
  | .int _ => (by decide +kernel : kitB "int" "tuple" = some false)
  | .str _ => (by decide +kernel : kitB "str" "tuple" = some false)
  | .list _ => (by decide +kernel : kitB "list" "tuple" = some false)
  | .tuple _ => (by decide +kernel : kitB "tuple" "tuple" = some true)
  | .dict _ => (by decide +kernel : kitB "dict" "tuple" = some false)
theorem kit_lst : ∀ d : PyData, kitB (tyN d) "list" = some (isLst d)
  | .none => (by decide +kernel : kitB "NoneType" "list" = some false)
  | .bool _ => (by decide +kernel : kitB "bool" "list" = some false)
  | .int _ => (by decide +kernel : kitB "int" "list" = some false)
  | .str _ => (by decide +kernel : kitB "str" "list" = some false)
  | .list _ => (by decide +kernel : kitB "list" "list" = some true)
  | .tuple _ => (by decide +kernel : kitB "tuple" "list" = some false)
  | .dict _ => (by decide +kernel : kitB "dict" "list" = some false)
theorem kit_str : ∀ d : PyData, kitB (tyN d) "str" = some (isStr d)
  | .none => (by decide +kernel : kitB "NoneType" "str" = some false)
  | .bool _ => (by decide +kernel : kitB "bool" "str" = some false)
  | .int _ => (by decide +kernel : kitB "int" "str" = some false)
  | .str _ => (by decide +kernel : kitB "str" "str" = some true)
  | .list _ => (by decide +kernel : kitB "list" "str" = some false)
  | .tuple _ => (by decide +kernel : kitB "tuple" "str" = some false)
  | .dict _ => (by decide +kernel : kitB "dict" "str" = some false)
theorem rr_ty (n : String) : RelV (.ty n) (.type n) := rfl
section
variable {P : Program} {w : World} {K : PySem.W.Frag} {mg : Str → Option Value} {base : Heap}
/-! ### is_number -/
def spNum : Sp := fun vs H Q _ => ∃ (v : V) (d : PyData), vs = [v] ∧ Rp H v d ∧ Q (.bl (isNum d)) H
theorem sc_is_number : FnScope ["value"] ["value"] (defScope s_is_number) := ⟨rfl, rfl, rfl, by decide +kernel, rfl, by decide +kernel, by decide +kernel⟩
theorem has_is_number (T : Top K mg "is_number" s_is_number ["value"]) (B : Bi mg) : Has P w K mg base CX0 1 "is_number" ["value"] spNum := by
  refine T.ok sc_is_number (fun vs H Q E h => ?_) (fun f cdv A outer s H vs Q E hr h => ?_)
  · obtain ⟨v, d, rfl, _⟩ := h
    rfl
  · obtain ⟨v, d, rfl, hd, q⟩ := h
    refine ⟨_, pss_one (ps_ret (pe_and (pe_callB call_isi (by rfl) B.isinstance PyProof.Rows.boot_isinstance (pa_cons (pv 0) (pa_cons (pe_bltn (by rfl) B.int PyProof.Rows.boot_int (rr_ty "int")) pa_nil)))
      (pe_one (pe_not (pe_callB call_isi (by rfl) B.isinstance PyProof.Rows.boot_isinstance (pa_cons (pv 0) (pa_cons (pe_bltn (by rfl) B.bool PyProof.Rows.boot_bool (rr_ty "bool")) pa_nil))))))), ?_⟩
    refine ⟨_, rfl, v, .ty "int", _, _, isIntB d, rfl, .ty _, rp_ty hd, kit_ty (kit_int d), isIntB d, rfl, ite2 (fun h => ?_) (fun h => ?_)⟩
    · refine ⟨_, rfl, v, .ty "bool", _, _, isBl d, rfl, .ty _, rp_ty hd, kit_ty (kit_bool d), isBl d, rfl, ?_⟩
      have e : (!isBl d) = isNum d := by cases d <;> first | rfl | cases h
      show Q (.bl (!isBl d)) H
      rw [e]
      exact q
    · have e : false = isNum d := by cases d <;> first | rfl | exact absurd rfl h
      show Q (.bl false) H
      rw [e]
      exact q
end
end Lt

set_option Elab.async false
set_option linter.all false
set_option maxRecDepth 100000
set_option maxHeartbeats 4000000
namespace Lt
open PySem PySem.Spec PyProof.Rows L2
section
variable {P : Program} {w : World} {K : PySem.W.Frag} {mg : Str → Option Value} {base : Heap}
/-! ### are_numbers -/
def isNums : PyData → Bool
  | .tuple ds => ds.all isNum
  | _ => false
def spNums : Sp := fun vs H Q _ => ∃ (v : V) (d : PyData), vs = [v] ∧ Rp H v d ∧ (∀ ds, d = .tuple ds → ds.length ≤ 1000) ∧ ∀ H', Same H H' → Q (.bl (isNums d)) H'
theorem sc_are_numbers : FnScope ["value", "part"] ["value"] (defScope s_are_numbers) := ⟨rfl, rfl, rfl, by decide +kernel, rfl, by decide +kernel, by decide +kernel⟩
theorem bls_of : ∀ {zs : List V} {bs : List Bool}, Paired (fun v b => v = V.bl b) zs bs → zs = bs.map V.bl
  | _, _, .nil => rfl
  | _, _, .cons r t => by rw [r, bls_of t]; rfl
theorem has_are_numbers (T : Top K mg "are_numbers" s_are_numbers ["value"]) (B : Bi mg) (hN : Has P w K mg base CX0 1 "is_number" ["value"] spNum) : Has P w K mg base CX0 2 "are_numbers" ["value"] spNums := by
  refine T.ok sc_are_numbers (fun vs H Q E h => ?_) (fun f cdv A outer s H vs Q E hr h => ?_)
  · obtain ⟨v, d, rfl, _⟩ := h
    rfl
  · obtain ⟨v, d, rfl, hd, hl, q⟩ := h
    refine ⟨_, pss_one (ps_ret (pe_and (pe_callB call_isi (by rfl) B.isinstance PyProof.Rows.boot_isinstance (pa_cons (pv 0) (pa_cons (pe_bltn (by rfl) B.tuple PyProof.Rows.boot_tuple (rr_ty "tuple")) pa_nil)))
      (pe_one (pe_callB (cr_all (by rfl)) (by rfl) B.all PyProof.Rows.boot_all (pa_cons (pe_lc (own := [("part", 1)]) (g := gName 1) (te := tCall spNum [] E0 (tCons (tVar 1) tNil)) (by rfl) sc_are_numbers.nd (pi_tup (pv 0)) (blkOk_by (own := [("part", 1)]) (N := ["value", "part"]) (sc := defScope s_are_numbers) (by decide +kernel))
        (fun _ _ _ _ _ => pg_name (i := 1) sc_are_numbers.nd rfl (Or.inl rfl)) (fun _ _ _ _ _ => pts_nil) (fun _ _ _ _ _ => pe_has hN hr (by rfl) (pa_cons (pv 1) pa_nil))) pa_nil))))), ?_⟩
    refine ⟨_, rfl, v, .ty "tuple", _, _, isTup d, rfl, .ty _, rp_ty hd, kit_ty (kit_tup d), isTup d, rfl, ite2 (fun h => ?_) (fun h => ?_)⟩
    · cases hd with
      | @tup a xs ds ha hx =>
        have hlen := hl ds rfl
        have hxl := hx.len
        refine ⟨_, rfl, a, rfl, ⟨_, ha.sq⟩, fun D hD => lc_tupM (fun _ v b => v = V.bl b) (ds.map isNum) (fun _ _ _ _ _ r => r) (ha.sq) (fun H' sm => (ha.sm sm).sq) (by omega) (by rw [List.length_map, hxl]) hD (fun x => rfl) (fun i v n hi hn H' sm Q' q' => ?_) (fun H' zs sm hz pr => ?_)⟩
        · obtain ⟨d, e1, e2⟩ := hx.get hi
          rw [List.getElem?_map, e1] at hn
          have hn : isNum d = n := Option.some.inj hn
          exact ⟨_, rfl, v, d, rfl, Rp.same sm d _ e2, q' _ _ (Same.refl _) (by rw [hn])⟩
        · refine ⟨D, ds.map isNum, rfl, SqL.of (by rw [hz, bls_of pr]), ?_⟩
          have e : (ds.map isNum).all id = isNums (.tuple ds) := by rw [List.all_map]; rfl
          rw [e]
          exact q _ sm
      | non => cases h
      | bl => cases h
      | int => cases h
      | str => cases h
      | lst => cases h
    · have e : false = isNums d := by cases d <;> first | rfl | exact absurd rfl h
      show Q (.bl false) H
      rw [e]
      exact q _ (Same.refl _)
/-! ### is_permutation -/
def numOf : PyData → Int
  | .int i => i
  | _ => 0
def numsOf : PyData → List Int
  | .tuple ds => ds.map numOf
  | _ => []
def rangeI (n : Nat) : List Int := (List.range n).map Int.ofNat
def isPermD (d : PyData) (n : Nat) : Bool := isNums d && decide ((numsOf d).Perm (rangeI n))
def spPerm : Sp := fun vs H Q _ => ∃ (v : V) (d : PyData) (n : Nat), vs = [v, nI n] ∧ Rp H v d ∧ (∀ ds, d = .tuple ds → ds.length < 64) ∧ n < 64 ∧ ∀ H', Same H H' → Q (.bl (isPermD d n)) H'
theorem nums_vals {H : Hp} : ∀ {ds : List PyData} {xs : List V}, RpAll H xs ds → ds.all isNum = true → xs = (ds.map numOf).map V.int
  | _, _, .nil, _ => rfl
  | d :: ds, _, .cons r t, h => by
    rw [List.all_cons, Bool.and_eq_true] at h
    cases r with
    | int i => rw [nums_vals t h.2]; rfl
    | non => cases h.1
    | bl => cases h.1
    | str => cases h.1
    | lst => cases h.1
    | tup => cases h.1
theorem rgV_int (n : Nat) : rgV 0 (n : Int) = (rangeI n).map V.int := by
  unfold rgV rangeI
  have e : ((n : Int) - 0).toNat = n := by omega
  rw [e, List.map_map]
  refine List.map_congr_left fun i _ => ?_
  show V.int (0 + (i : Int)) = V.int (i : Int)
  rw [Int.zero_add]
theorem rangeI_sorted (n : Nat) : (rangeI n).Pairwise (· ≤ ·) := by
  unfold rangeI
  rw [List.pairwise_map]
  exact List.Pairwise.imp (fun {a b} h => Int.ofNat_le.mpr (Nat.le_of_lt h)) List.pairwise_lt_range
theorem dp_ints {K : PySem.W.Frag} {H : Hp} : ∀ t : List Int, DpAll K H (t.map V.int) (t.map PyData.int)
  | [] => .nil
  | n :: t => .cons (.int _) (dp_ints t)
theorem depth_ints : ∀ t : List Int, PyData.depthAll (t.map PyData.int) = 0
  | [] => rfl
  | n :: t => by
    show max (PyData.depth (.int n)) (PyData.depthAll (t.map PyData.int)) = 0
    rw [depth_ints t]
    rfl
theorem can_ints : ∀ t : List Int, PyData.canLayAll0 (t.map PyData.int) = true
  | [] => rfl
  | n :: t => by
    show (PyData.canLay0 (.int n) && PyData.canLayAll0 (t.map PyData.int)) = true
    rw [can_ints t]
    rfl
theorem sh_ints (t : List Int) : SeqAt.shaped (.list (t.map PyData.int)) = true := by
  show (PyData.canLayAll0 (t.map PyData.int) && decide (PyData.depthAll (t.map PyData.int) + 1 ≤ 64)) = true
  rw [can_ints, depth_ints]
  rfl
theorem eqv_ints (s t : List Int) : PyData.eqv (.list (s.map PyData.int)) (.list (t.map PyData.int)) = decide (s = t) := by
  show PyData.eqvAll (s.map PyData.int) (t.map PyData.int) = _
  refine eqvAll_map (fun x y => ?_) s t
  show (x == y) = decide (x = y)
  by_cases e : x = y
  · subst e; simp
  · rw [decide_eq_false e]
    exact beq_eq_false_iff_ne.mpr e
end
end Lt

set_option Elab.async false
set_option linter.all false
set_option maxRecDepth 100000
set_option maxHeartbeats 4000000
namespace Lt
open PySem PySem.Spec PyProof.Rows L2
theorem for_enumT {K : PySem.W.Frag} {a : Addr} {xs : List V} {g : TG} {tb : TS} {D : Ends} {σ : L2.St} {H : Hp} (Pv : Nat → L2.St → Hp → Prop) (h0 : Pv 0 σ H) (hl : ∀ i σ H, i ≤ xs.length → Pv i σ H → SqT K H a xs)
    (hs : ∀ (i : Nat) (x : V) σ H T, xs[i]? = some x → Pv i σ H → H T = none → g (.ref T) σ (upd H T (.tup [nI i, x])) fun σ2 H2 => tb { D with nx := Pv (i + 1), ct := Pv (i + 1), bk := D.nx } σ2 H2) (hd : ∀ σ H, Pv xs.length σ H → D.nx σ H) :
    ∃ W : Nat → Nat → L2.St → Hp → Prop, (∃ m, W 0 m σ H) ∧ ∀ i m σ H, W i m σ H →
      ((Itet K a).stop i H ∧ D.nx σ H) ∨ ((Itet K a).go i H ∧ ∃ N : L2.St → Hp → Prop, (∀ σ' H', N σ' H' → ∃ m', m' < m ∧ W (i + 1) m' σ' H') ∧ ∀ x H', (Itet K a).yld i H x H' → g x σ H' fun σ2 H2 => tb { D with nx := N, ct := N, bk := D.nx } σ2 H2) := by
  refine ⟨fun i m σ H => m = xs.length - i ∧ i ≤ xs.length ∧ Pv i σ H, ⟨xs.length, by simp, Nat.zero_le _, h0⟩, ?_⟩
  rintro i m σ H ⟨rfl, hi, p⟩
  have q := hl i σ H hi p
  by_cases hlt : i < xs.length
  · refine .inr ⟨⟨xs, xs[i], q, by simp [hlt]⟩, Pv (i + 1), fun σ' H' p' => ⟨xs.length - (i + 1), by omega, rfl, hlt, p'⟩, fun x H' y => ?_⟩
    obtain ⟨T, z, rfl, hT, rfl, hz⟩ := y
    exact hs i z σ H T (hz xs q) p hT
  · have e : i = xs.length := by omega
    subst e
    exact .inl ⟨⟨xs, q, rfl⟩, hd σ H p⟩
section
variable {P : Program} {w : World} {K : PySem.W.Frag} {mg : Str → Option Value} {base : Heap}
/-! ### back_of -/
def spBack : Sp := fun vs H Q _ => ∃ (a : V) (t : List Nat) (n : Nat), vs = [a] ∧ TN H a t ∧ IsP n t ∧ n ≤ 1000 ∧ ∀ v H', Same H H' → TK H' v (inv t) → Q v H'
theorem rep_zero (n : Nat) : (List.replicate n [V.int 0]).flatten = nIs (List.replicate n 0) := by
  induction n with
  | zero => rfl
  | succ n ih => rw [List.replicate_succ, List.flatten_cons, ih]; rfl
theorem inv_of {n : Nat} {t acc : List Nat} (h : IsP n t) (hl : acc.length = n) (ha : ∀ (j p : Nat), t[j]? = some p → acc[p]? = some j) : acc = inv t := by
  apply List.ext_getElem?
  intro p
  by_cases hp : p < n
  · have hm : p ∈ t := h.mem.mpr hp
    have hj := List.idxOf_lt_length_of_mem hm
    have e := ha (t.idxOf p) p (by rw [List.getElem?_eq_getElem hj, List.getElem_idxOf])
    rw [e]
    unfold inv
    rw [List.getElem?_map, h.len, List.getElem?_range hp]
    rfl
  · rw [List.getElem?_eq_none (by omega), List.getElem?_eq_none (by rw [inv_len, h.len]; omega)]
theorem nIs_set (t : List Nat) (i n : Nat) : (nIs t).set i (nI n) = nIs (t.set i n) := by
  unfold nIs
  rw [List.map_set]
end
end Lt

set_option Elab.async false
set_option linter.all false
set_option maxRecDepth 100000
set_option maxHeartbeats 4000000
namespace Lt
open PySem PySem.Spec PyProof.Rows L2
/-! ### dicts from turns to words -/
def keyN (t : List Nat) : List Key := t.map fun n : Nat => (Sum.inl (Int.ofNat n) : Key)
theorem keyN_inj {s t : List Nat} (h : keyN s = keyN t) : s = t := by
  unfold keyN at h
  exact (List.map_inj_right (fun x y e => by injection e with e; exact Int.ofNat.inj e)).mp h
def DE (H : Hp) (kv : List Key × V) (tw : List Nat × List Nat) : Prop := kv.1 = keyN tw.1 ∧ TN H kv.2 tw.2
def DW (H : Hp) (d : Addr) (L : List (List Nat × List Nat)) : Prop := ∃ kvs, H d = some (.dT kvs) ∧ Paired (DE H) kvs L
theorem DEs.tm {H H' : Hp} (e : Tm H H') : ∀ {kvs : List (List Key × V)} {L : List (List Nat × List Nat)}, Paired (DE H) kvs L → Paired (DE H') kvs L
  | _, _, .nil => .nil
  | _, _, .cons r t => .cons ⟨r.1, r.2.tm e⟩ (DEs.tm e t)
theorem DW.tm {H H' : Hp} {d : Addr} {L : List (List Nat × List Nat)} (h : DW H d L) (e : Tm H H') (ed : H' d = H d) : DW H' d L := let ⟨kvs, h1, h2⟩ := h; ⟨kvs, ed.trans h1, DEs.tm e h2⟩
theorem DW.same {H H' : Hp} {d : Addr} {L : List (List Nat × List Nat)} (h : DW H d L) (e : Same H H') : DW H' d L := let ⟨kvs, h1, h2⟩ := h; ⟨kvs, e _ _ h1, DEs.tm (.of e) h2⟩
theorem dw_none {H : Hp} {t : List Nat} : ∀ {kvs : List (List Key × V)} {L : List (List Nat × List Nat)}, Paired (DE H) kvs L → t ∉ L.map (·.1) → valV kvs (keyN t) = none
  | _, _, .nil, _ => rfl
  | p :: ps, q :: qs, .cons r s, h => by
    have hne : ¬ p.1 = keyN t := fun e => h (by
      rw [List.map_cons]
      rw [r.1] at e
      rw [keyN_inj e]
      exact List.mem_cons_self)
    rw [valV_neg hne]
    exact dw_none s fun m => h (List.mem_cons_of_mem _ m)
theorem dw_some {H : Hp} {t w : List Nat} : ∀ {kvs : List (List Key × V)} {L : List (List Nat × List Nat)}, Paired (DE H) kvs L → (L.map (·.1)).Nodup → (t, w) ∈ L → ∃ v, valV kvs (keyN t) = some v ∧ TN H v w
  | _, _, .nil, _, h => by cases h
  | p :: ps, q :: qs, .cons r s, hn, h => by
    rw [List.map_cons] at hn
    obtain ⟨h1, h2⟩ := List.nodup_cons.mp hn
    rcases List.mem_cons.mp h with e | h
    · subst e
      exact ⟨p.2, valV_pos r.1, r.2⟩
    · have hne : ¬ p.1 = keyN t := fun e => h1 (by
        rw [r.1] at e
        rw [keyN_inj e]
        exact List.mem_map.mpr ⟨_, h, rfl⟩)
      rw [valV_neg hne]
      exact dw_some s h2 h
theorem dw_isSome {H : Hp} {t : List Nat} {kvs : List (List Key × V)} {L : List (List Nat × List Nat)} (p : Paired (DE H) kvs L) (hn : (L.map (·.1)).Nodup) : (valV kvs (keyN t)).isSome = decide (t ∈ L.map (·.1)) := by
  by_cases h : t ∈ L.map (·.1)
  · obtain ⟨⟨t', w⟩, hm, e⟩ := List.mem_map.mp h
    have e : t' = t := e
    subst e
    obtain ⟨v, hv, _⟩ := dw_some p hn hm
    rw [hv, decide_eq_true h]
    rfl
  · rw [dw_none p h, decide_eq_false h]
    rfl
theorem TK.key {H : Hp} {v : V} {t : List Nat} (h : TK H v t) : ∃ b, v = .ref b ∧ H b = some (.tup ((keyN t).map kV)) := by
  obtain ⟨b, e, hb⟩ := h
  exact ⟨b, e, by rw [hb, nIs_key]; rfl⟩
theorem TN.key {H : Hp} {v : V} {t : List Nat} (h : TN H v t) : ∃ b, v = .ref b ∧ RT H b ((keyN t).map kV) := by
  obtain ⟨b, e, hb⟩ := h
  refine ⟨b, e, ?_⟩
  have z : nIs t = (keyN t).map kV := by rw [nIs_key]; rfl
  rw [← z]
  exact hb
theorem LT.tm {H H' : Hp} {a : Addr} {ts : List (List Nat)} (h : LT H a ts) (e : Tm H H') (ea : H' a = H a) : LT H' a ts := let ⟨xs, h1, h2⟩ := h; ⟨xs, ea.trans h1, TNs.tm e h2⟩
/-! ### d[k], k in d: the key to be read -/
def GetR (H : Hp) (a : Addr) (kvs : List (List Key × V)) (k : List Key) (y : V) : Prop := ∃ b, y = .ref b ∧ Rd H a (.dT kvs) ∧ RT H b (k.map kV)
def tDGetR (td ty : TE) : TE := fun σ H Q => td σ H fun x H1 => ty σ H1 fun y H2 => ∃ a v kvs k b, x = .ref a ∧ y = .ref b ∧ Rd H2 a (.dT kvs) ∧ RT H2 b (k.map kV) ∧ valV kvs k = some v ∧ Q v H2
def tDInR (ty td : TE) : TE := fun σ H Q => ty σ H fun y H1 => td σ H1 fun x H2 => ∃ a kvs k b, x = .ref a ∧ y = .ref b ∧ Rd H2 a (.dT kvs) ∧ RT H2 b (k.map kV) ∧ Q (.bl (valV kvs k).isSome) H2
def tDNotInR (ty td : TE) : TE := fun σ H Q => ty σ H fun y H1 => td σ H1 fun x H2 => ∃ a kvs k b, x = .ref a ∧ y = .ref b ∧ Rd H2 a (.dT kvs) ∧ RT H2 b (k.map kV) ∧ Q (.bl (!(valV kvs k).isSome)) H2
theorem key_rd {P : Program} {w : World} {H : Hp} {h : Heap} {ks : List Key} {a : Addr} (ok : HOk P w H h) (e : RT H a (ks.map kV)) : (tupleKind (mixKind P w)).is h ks a := by
  have z : ObjOk P w H h a (.tup (ks.map kV)) := Rd.ok e ok
  obtain ⟨_, its, r, o, h1, h2, n, h3⟩ := z
  exact ⟨o, its.toArray, n, h1, h2, h3, by simpa using items_are r⟩
section
variable {X : Cx} {o i : Expr} {td ty : TE} {pos : Pos}
theorem pc_dinR (hu : X.A.units + 1 < cLine) (hi : PE X i ty) (ho : PE X o td) : PC X .In i o (tDInR ty td) := by
  refine ⟨fun pins s σ H Q I h => ?_⟩
  refine thn (hi.run pins s σ H _ I h) fun iv s1 ⟨y, H1, I1, ry, q1⟩ => thn (ho.run pins s1 σ H1 _ I1 q1) fun u s2 ⟨x, H2, I2, rx, a, kvs, k, b, ex, ey, hd, hb, q2⟩ => ?_
  subst ex ey
  obtain rfl : u = Value.ref a := rx
  obtain rfl : iv = Value.ref b := ry
  obtain ⟨z, hds, xs, rel, dd⟩ := dt_rd I2.hok hd
  refine wpAny_in_heap (tupleKind_room_in1 hu) (key_rd I2.hok hb) hds dd ?_
  have q := (rel.val k).isSome_eq
  rw [Option.isSome_map] at q
  rw [← q]
  exact ⟨.bl (valV kvs k).isSome, H2, I2.tok _, rfl, q2⟩
theorem pe_dgetR (hu : X.A.units + 1 < cLine) (ho : PE X o td) (hi : PE X i ty) (hs : NoSl i) : PE X (.Subscript o i pos) (tDGetR td ty) := by
  refine ⟨fun pins s σ H Q I h => ?_⟩
  refine subD_of PySem.F.slot_dict_getitem.lookup hs (thn (ho.run pins s σ H _ I h) fun u s1 ⟨x, H1, I1, rx, q1⟩ => thn (hi.run pins s1 σ H1 _ I1 q1) fun iv s2 ⟨y, H2, I2, ry, a, v, kvs, k, b, ex, ey, hd, hb, hv, q2⟩ => ?_)
  subst ex ey
  obtain rfl : u = Value.ref a := rx
  obtain rfl : iv = Value.ref b := ry
  obtain ⟨z, hds, xs, rel, dd⟩ := dt_rd I2.hok hd
  obtain ⟨w', hw, rw'⟩ := RelO.some_of (v := v) (o := (atKey xs k).map (·.2)) (by rw [← hv]; exact rel.val k)
  obtain ⟨p, hp, hp2⟩ := Option.map_eq_some_iff.mp hw
  have ht : s2.TypeIs (.ref a) "dict" := by
    obtain ⟨ob, _, _, h1, h2, _⟩ := dd
    exact ⟨ob, h1, h2.1⟩
  refine ⟨ht, wpAny_getItem_heap (tupleKind_room_in1 hu) (key_rd I2.hok hb) dd hp ?_⟩
  rw [hp2]
  exact ⟨v, H2, I2.tok _, rw', q2⟩
end
/-! ### the mirror's turns, maker by maker -/
theorem grow_app (t w : List Nat) : ∀ (xs ys : List (List Nat)) (p : Nat) (L : List (List Nat × List Nat)), grow t w (xs ++ ys) p L = grow t w ys (p + xs.length) (grow t w xs p L)
  | [], _, _, _ => rfl
  | x :: xs, ys, p, L => by
    show grow t w (xs ++ ys) (p + 1) _ = grow t w ys (p + (xs.length + 1)) (grow t w xs (p + 1) _)
    rw [grow_app t w xs ys (p + 1)]
    congr 1
    omega
theorem grow_next {t w : List Nat} {gs : List (List Nat)} {i : Nat} {g : List Nat} (h : gs[i]? = some g) (L : List (List Nat × List Nat)) :
    grow t w (gs.take (i + 1)) 0 L = if prod t g ∈ (grow t w (gs.take i) 0 L).map (·.1) then grow t w (gs.take i) 0 L else grow t w (gs.take i) 0 L ++ [(prod t g, w ++ [i])] := by
  have hl : i < gs.length := (List.getElem?_eq_some_iff.mp h).1
  have e : gs.take (i + 1) = gs.take i ++ [g] := by rw [List.take_add_one, h]; rfl
  rw [e, grow_app, List.length_take, Nat.min_eq_left (Nat.le_of_lt hl), Nat.zero_add]
  rfl
theorem grow_len (t w : List Nat) : ∀ (gs : List (List Nat)) (p : Nat) (L : List (List Nat × List Nat)), (grow t w gs p L).length ≤ L.length + gs.length
  | [], _, L => Nat.le_refl _
  | g :: gs, p, L => by
    have ih := grow_len t w gs (p + 1) (if prod t g ∈ L.map (·.1) then L else L ++ [(prod t g, w ++ [p])])
    show (grow t w gs (p + 1) _).length ≤ L.length + (gs.length + 1)
    split at ih
    · rename_i h
      rw [if_pos h]
      omega
    · rename_i h
      rw [if_neg h]
      rw [List.length_append] at ih
      have e : [(prod t g, w ++ [p])].length = 1 := rfl
      omega
theorem qq_len_le (gs : List (List Nat)) (n k : Nat) : ∀ i, (qq gs n (k + i)).length ≤ (qq gs n k).length + i * gs.length
  | 0 => by rw [Nat.zero_mul]; exact Nat.le_refl _
  | i + 1 => by
    have ih := qq_len_le gs n k i
    have e : (i + 1) * gs.length = i * gs.length + gs.length := Nat.succ_mul _ _
    show (match (qq gs n (k + i))[k + i]? with
      | none => qq gs n (k + i)
      | some (t, w) => grow t w gs 0 (qq gs n (k + i))).length ≤ _
    split
    · omega
    · rename_i t w _
      have := grow_len t w gs 0 (qq gs n (k + i))
      omega
/-- words[turn] + (place,) -/
theorem catA_tn {K : PySem.W.Frag} {H : Hp} {pw p : Addr} {w : List Nat} {j : Nat} {Q : VK} (hw : RT H pw (nIs w)) (hp : H p = some (.tup [nI j])) (hl : w.length ≤ 1000000) (q : ∀ v H', Same H H' → TN H' v (w ++ [j]) → Q v H') : rCatA K (.ref pw) (.ref p) H Q := by
  refine ⟨pw, p, nIs w, [nI j], rfl, rfl, hw.sq, SqT.of hp, ?_, fun e => ?_, fun _ e => (by cases e), fun _ _ p2 hp2 => ?_⟩
  · rw [nIs_len, sizeLine_eq]
    show w.length + 1 ≤ _
    omega
  · have e : w = [] := by
      cases w with
      | nil => rfl
      | cons a w => cases e
    subst e
    exact q _ _ (Same.refl _) ⟨p, rfl, .inl hp⟩
  · refine q _ _ (same_new hp2) ⟨p2, rfl, .inl ?_⟩
    rw [upd_same]
    unfold nIs
    rw [List.map_append]
    rfl
theorem grow_w (t w : List Nat) (m : Nat) : ∀ (gs : List (List Nat)) (p : Nat) (L : List (List Nat × List Nat)), w.length ≤ m → (∀ x ∈ L, x.2.length ≤ m + 1) → ∀ x ∈ grow t w gs p L, x.2.length ≤ m + 1
  | [], _, _, _, h, x, hx => h x hx
  | g :: gs, p, L, hw, h, x, hx => by
    refine grow_w t w m gs (p + 1) _ hw (fun y hy => ?_) x hx
    split at hy
    · exact h y hy
    · rcases List.mem_append.mp hy with z | z
      · exact h y z
      · rw [List.mem_singleton.mp z, List.length_append]
        show w.length + 1 ≤ m + 1
        omega
theorem qq_w (gs : List (List Nat)) (n : Nat) : ∀ k, ∀ x ∈ qq gs n k, x.2.length ≤ k
  | 0, x, h => by
    rw [List.mem_singleton.mp (show x ∈ [(List.range n, ([] : List Nat))] from h)]
    exact Nat.le_refl 0
  | k + 1, x, h => by
    have ih := qq_w gs n k
    have h' : x ∈ (match (qq gs n k)[k]? with
      | none => qq gs n k
      | some (t, w) => grow t w gs 0 (qq gs n k)) := h
    split at h'
    · exact Nat.le_succ_of_le (ih x h')
    · rename_i t w e
      exact grow_w t w k gs 0 _ (ih _ (List.mem_of_getElem? e)) (fun y hy => Nat.le_succ_of_le (ih y hy)) x h'
section
variable {P : Program} {w : World} {K : PySem.W.Frag} {mg : Str → Option Value} {base : Heap}
/-! ### bracket_of -/
def spBracket : Sp := fun vs H Q _ => ∃ (a b : V) (x y : List Nat) (n : Nat), vs = [a, b] ∧ TN H a x ∧ TN H b y ∧ IsP n x ∧ IsP n y ∧ n ≤ 1000 ∧ ∀ v H', Same H H' → TK H' v (prod (prod x y) (inv (prod y x))) → Q v H'
theorem pr_call {H : Hp} {a b : V} {x y : List Nat} {n : Nat} {Q : VK} (ha : TN H a x) (hb : TN H b y) (hx : IsP n x) (hy : IsP n y) (hn : n ≤ 1000) (q : ∀ v H', Same H H' → TK H' v (prod x y) → Q v H') : spProd [a, b] H Q E0 :=
  ⟨a, b, x, y, rfl, ha, hb, fun i hi => by rw [hy.len]; exact hx.lt i hi, by rw [hx.len]; exact hn, q⟩
/-! ### words_of -/
def Cn (mg : Str → Option Value) (x : Str) (i : Int) : Prop := ∃ t, mg x = some (.int i t)
def Wd (gs : List (List Nat)) (n : Nat) (L : List (List Nat × List Nat)) : Prop := ∃ a, L = qq gs n a ∧ a ≤ L.length ∧ (L.length = a ∨ 240 < L.length)
def spWords : Sp := fun vs H Q _ => ∃ (ms : V) (gs : List (List Nat)) (n : Nat), vs = [ms, nI n] ∧ TT H ms gs ∧ (∀ g ∈ gs, IsP n g) ∧ n ≤ 1000 ∧ gs.length ≤ 1000 ∧
  ∀ d H' L, Same H H' → H d = none → DW H' d L → Wd gs n L → Q (.ref d) H'
/-- the state at the while: behind a positions -/
structure WS (H0 : Hp) (ms st : V) (n : Nat) (gs : List (List Nat)) (d : Addr) (a : Nat) (σ : L2.St) (H : Hp) : Prop where
  sl : ∃ lv x5 x6 x7 x8 x9, σ = [some ms, some (nI n), some st, some (.ref d), some (.ref lv), x5, x6, x7, x8, x9] ∧ LT H lv (((qq gs n a).map (·.1)).drop a)
  sm : Same H0 H
  dw : DW H d (qq gs n a)
  le : a ≤ (qq gs n a).length
  le2 : a ≤ 240
theorem qq_step {gs : List (List Nat)} {n a i : Nat} {M : List (List Nat × List Nat)} (e : qq gs n (a + i) = qq gs n a ++ M) {t w : List Nat} (h : (qq gs n a)[a + i]? = some (t, w)) : qq gs n (a + i + 1) = grow t w gs 0 (qq gs n (a + i)) := by
  have z : (qq gs n (a + i))[a + i]? = some (t, w) := by
    rw [e, List.getElem?_append_left (List.getElem?_eq_some_iff.mp h).1]
    exact h
  show (match (qq gs n (a + i))[a + i]? with
    | none => qq gs n (a + i)
    | some (t, w) => grow t w gs 0 (qq gs n (a + i))) = _
  rw [z]
end
end Lt

set_option linter.all false
set_option Elab.async false
/-! powers of a turn; the whole of the turns -/
namespace Lt
def pw (n : Nat) (t : List Nat) : Nat → List Nat
  | 0 => List.range n
  | k + 1 => prod (pw n t k) t
theorem pw_isP {n : Nat} {t : List Nat} (h : IsP n t) : ∀ k, IsP n (pw n t k)
  | 0 => IsP.still n
  | k + 1 => (pw_isP h k).prod h
theorem pw_one {n : Nat} {t : List Nat} (h : IsP n t) : pw n t 1 = t := prod_still_l h.len
theorem pw_add {n : Nat} {t : List Nat} (h : IsP n t) (i : Nat) : ∀ k, pw n t (i + k) = prod (pw n t i) (pw n t k)
  | 0 => (prod_still_r (pw_isP h i).lt).symm
  | k + 1 => by
    show prod (pw n t (i + k)) t = prod (pw n t i) (prod (pw n t k) t)
    rw [pw_add h i k]
    exact prod_assoc fun j hj => by rw [(pw_isP h k).len]; exact (pw_isP h i).lt j hj
theorem prod_cancel {n : Nat} {a b : List Nat} (ha : IsP n a) (hb : IsP n b) (h : prod a b = a) : b = List.range n := by
  have h1 : prod (prod (inv a) a) b = prod (inv a) (prod a b) := prod_assoc fun i hi => by rw [ha.len]; exact ha.inv.lt i hi
  rw [h, prod_inv_l ha, prod_still_l hb.len] at h1
  exact h1
theorem Mk.prod {gs : List (List Nat)} {n : Nat} (hg : ∀ g ∈ gs, IsP n g) {a b : List Nat} (ha : Mk gs n a) (hb : Mk gs n b) : Mk gs n (prod a b) := by
  induction hb with
  | still => rw [prod_still_r (ha.isP hg).lt]; exact ha
  | @step t g ht hm ih =>
    rw [← prod_assoc (x := a) fun i hi => by rw [(ht.isP hg).len]; exact (ha.isP hg).lt i hi]
    exact .step ih hm
theorem Mk.pw {gs : List (List Nat)} {n : Nat} (hg : ∀ g ∈ gs, IsP n g) {t : List Nat} (h : Mk gs n t) : ∀ k, Mk gs n (pw n t k)
  | 0 => .still
  | k + 1 => (Mk.pw hg h k).prod hg h
/-- two of many places hold the same -/
theorem dup_of {α : Type} [DecidableEq α] (f : Nat → α) : ∀ m, ¬ ((List.range m).map f).Nodup → ∃ i j, i < j ∧ j < m ∧ f i = f j
  | 0, h => absurd List.Pairwise.nil h
  | m + 1, h => by
    by_cases hn : ((List.range m).map f).Nodup
    · rw [List.range_succ, List.map_append] at h
      by_cases hx : f m ∈ (List.range m).map f
      · obtain ⟨i, hi, e⟩ := List.mem_map.mp hx
        exact ⟨i, m, List.mem_range.mp hi, Nat.lt_succ_self m, e⟩
      · exact absurd (nodup_snoc hn hx) h
    · obtain ⟨i, j, h1, h2, e⟩ := dup_of f m hn
      exact ⟨i, j, h1, by omega, e⟩
theorem pw_back {gs : List (List Nat)} {n m : Nat} (hg : ∀ g ∈ gs, IsP n g) (hf : Few gs n m) {t : List Nat} (h : Mk gs n t) : ∃ N, 1 ≤ N ∧ N ≤ m ∧ pw n t N = List.range n := by
  have hnd : ¬ ((List.range (m + 1)).map (Lt.pw n t)).Nodup := fun hnd => by
    have z := hf.le hnd fun x hx => by
      obtain ⟨k, _, e⟩ := List.mem_map.mp hx
      rw [← e]
      exact h.pw hg k
    rw [List.length_map, List.length_range] at z
    omega
  obtain ⟨i, j, hij, hj, e⟩ := dup_of _ _ hnd
  have ht := h.isP hg
  refine ⟨j - i, by omega, by omega, ?_⟩
  have z := pw_add ht i (j - i)
  rw [show i + (j - i) = j by omega, ← e] at z
  exact prod_cancel (pw_isP ht i) (pw_isP ht _) z.symm
/-- the least of some numbers -/
theorem least_of {p : Nat → Prop} [DecidablePred p] : ∀ n, p n → ∃ k, k ≤ n ∧ p k ∧ ∀ j, j < k → ¬ p j := fun n => by
  induction n using Nat.strongRecOn with
  | _ n ih =>
    intro h
    by_cases hx : ∃ j, j < n ∧ p j
    · obtain ⟨j, hj, pj⟩ := hx
      obtain ⟨k, h1, h2, h3⟩ := ih j hj pj
      exact ⟨k, by omega, h2, h3⟩
    · exact ⟨n, Nat.le_refl n, h, fun j hj pj => hx ⟨j, hj, pj⟩⟩
theorem pw_least {gs : List (List Nat)} {n m : Nat} (hg : ∀ g ∈ gs, IsP n g) (hf : Few gs n m) {t : List Nat} (h : Mk gs n t) : ∃ N, 1 ≤ N ∧ N ≤ m ∧ pw n t N = List.range n ∧ ∀ j, 1 ≤ j → j < N → pw n t j ≠ List.range n := by
  obtain ⟨N, h1, h2, h3⟩ := pw_back hg hf h
  obtain ⟨k, hk1, ⟨hk2, hk3⟩, hk4⟩ := least_of (p := fun k => 1 ≤ k ∧ pw n t k = List.range n) N ⟨h1, h3⟩
  exact ⟨k, hk2, by omega, hk3, fun j hj1 hj2 e => hk4 j hj2 ⟨hj1, e⟩⟩
/-- all the words, the lock being small -/
@[irreducible] def LL (gs : List (List Nat)) (n : Nat) : List W := qq gs n 300
theorem LL_eq (gs : List (List Nat)) (n : Nat) : LL gs n = qq gs n 300 := by unfold LL; rfl
theorem LL_of {gs : List (List Nat)} {n m a : Nat} (hf : Few gs n m) (hm : m ≤ 240) (h : (qq gs n a).length = a) : qq gs n a = LL gs n := by
  have := hf.qq a
  rw [LL_eq]
  exact (qq_end' gs n (by omega) (by omega)).symm
theorem LL_len {gs : List (List Nat)} {n m : Nat} (hf : Few gs n m) : (LL gs n).length ≤ m := by
  rw [LL_eq]
  exact hf.qq 300
theorem LL_nd (gs : List (List Nat)) (n : Nat) : ((LL gs n).map (·.1)).Nodup := by
  rw [LL_eq]
  exact qq_nd gs n 300
theorem LL_mem {gs : List (List Nat)} {n m : Nat} (hf : Few gs n m) (hm : m ≤ 240) (t : List Nat) : t ∈ (LL gs n).map (·.1) ↔ Mk gs n t := by
  rw [LL_eq]
  exact qq_full (Nat.le_trans (hf.qq 300) (by omega)) t
end Lt

set_option Elab.async false
set_option linter.all false
set_option maxRecDepth 100000
set_option maxHeartbeats 4000000
namespace Lt
open PySem PySem.Spec PyProof.Rows L2
/-! ### what is a lock -/
def lenOf : PyData → Nat
  | .tuple ds => ds.length
  | _ => 0
def firstBad : List PyData → Nat → Nat → Option Nat
  | [], _, _ => none
  | d :: ds, n, i => if isPermD d n = true then firstBad ds n (i + 1) else some i
def lockBad : PyData → Option (Option Nat)
  | .tuple ds => if 1 ≤ ds.length ∧ ds.length ≤ 4 then (if isTup (ds.headD .none) = true ∧ 2 ≤ lenOf (ds.headD .none) ∧ lenOf (ds.headD .none) ≤ 9 then (firstBad ds (lenOf (ds.headD .none)) 0).map some else some (some 0)) else some none
  | _ => some none
def plV : Option Nat → V
  | none => .non
  | some i => nI i
def Sml (d : PyData) : Prop := ∀ ds, d = .tuple ds → ds.length ≤ 1000 ∧ ∀ e ∈ ds, ∀ es, e = .tuple es → es.length < 64
section
variable {P : Program} {w : World} {K : PySem.W.Frag} {mg : Str → Option Value} {base : Heap} {CL CM CT : Addr}
/-! ### check_lock -/
def spCheck (CL : Addr) : Sp := fun vs H Q E => ∃ (v : V) (d : PyData), vs = [v] ∧ Rp H v d ∧ Sml d ∧ (lockBad d = none → ∀ H', Same H H' → Q .non H') ∧ ∀ pl, lockBad d = some pl → BadF CL "place" (plV pl) H E
end
end Lt

set_option Elab.async false
set_option linter.all false
set_option maxRecDepth 100000
set_option maxHeartbeats 4000000
namespace Lt
open PySem PySem.Spec PyProof.Rows L2
def GL (ls : List (List Nat)) (n : Nat) : Prop := 1 ≤ ls.length ∧ ls.length ≤ 4 ∧ 2 ≤ n ∧ n ≤ 9 ∧ ∀ g ∈ ls, IsP n g
/-- the argument lock: no lock, too great a one, or a lock of which k -/
def LockIn (CL CM : Addr) (v : V) (H : Hp) (E : XK) (k : List (List Nat) → Nat → Prop) : Prop := ∃ d, Rp H v d ∧ Sml d ∧ (∀ pl, lockBad d = some pl → BadF CL "place" (plV pl) H E) ∧
  (lockBad d = none → ∃ ls n, TT H v ls ∧ GL ls n ∧ (∀ L, Wd ls n L → 240 < L.length → BadF CM "most" (.int 240) H E) ∧ k ls n)
theorem LockIn.imp {CL CM : Addr} {v : V} {H : Hp} {E : XK} {k k' : List (List Nat) → Nat → Prop} (h : LockIn CL CM v H E k) (i : ∀ ls n, TT H v ls → GL ls n → k ls n → k' ls n) : LockIn CL CM v H E k' := by
  obtain ⟨d, h1, h2, h3, h4⟩ := h
  refine ⟨d, h1, h2, h3, fun e => ?_⟩
  obtain ⟨ls, n, a, b, c, q⟩ := h4 e
  exact ⟨ls, n, a, b, c, i ls n a b q⟩
theorem numsOf_dT (t : List Nat) : numsOf (dT t) = t.map Int.ofNat := by
  show (t.map dN).map numOf = _
  rw [List.map_map]
  rfl
theorem isNums_dT (t : List Nat) : isNums (dT t) = true := by
  show (t.map dN).all isNum = true
  rw [List.all_map]
  exact List.all_eq_true.mpr fun _ _ => rfl
theorem ofNat_inj : ∀ x y : Nat, Int.ofNat x = Int.ofNat y → x = y := fun _ _ e => Int.ofNat.inj e
theorem perm_ofNat {a b : List Nat} (h : (a.map Int.ofNat).Perm (b.map Int.ofNat)) : a.Perm b := by
  have z := h.map Int.toNat
  rw [List.map_map, List.map_map] at z
  have e : ∀ l : List Nat, l.map (Int.toNat ∘ Int.ofNat) = l := fun l => (List.map_congr_left (g := id) fun _ _ => rfl).trans (List.map_id l)
  rw [e, e] at z
  exact z
theorem isPermD_dT (t : List Nat) (n : Nat) : isPermD (dT t) n = decide (IsP n t) := by
  unfold isPermD
  rw [isNums_dT, Bool.true_and, numsOf_dT]
  exact decide_eq_decide.mpr ⟨fun h => perm_ofNat h, fun h => List.Perm.map _ h⟩
theorem firstBad_good {n : Nat} : ∀ (ls : List (List Nat)) (i : Nat), (∀ g ∈ ls, IsP n g) → firstBad (ls.map dT) n i = none
  | [], _, _ => rfl
  | g :: ls, i, h => by
    show (if isPermD (dT g) n = true then firstBad (ls.map dT) n (i + 1) else some i) = none
    rw [isPermD_dT, decide_eq_true (h g List.mem_cons_self), if_pos rfl]
    exact firstBad_good ls (i + 1) fun x hx => h x (List.mem_cons_of_mem _ hx)
theorem lockBad_good {ls : List (List Nat)} {n : Nat} (h : GL ls n) : lockBad (.tuple (ls.map dT)) = none := by
  obtain ⟨h1, h2, h3, h4, h5⟩ := h
  cases ls with
  | nil => exact absurd h1 (by decide)
  | cons g ls =>
    have hg := (h5 g List.mem_cons_self).len
    show (if 1 ≤ ((g :: ls).map dT).length ∧ ((g :: ls).map dT).length ≤ 4 then (if isTup (dT g) = true ∧ 2 ≤ lenOf (dT g) ∧ lenOf (dT g) ≤ 9 then (firstBad ((g :: ls).map dT) (lenOf (dT g)) 0).map some else some (some 0)) else some none) = none
    have e : lenOf (dT g) = n := by
      show (g.map dN).length = n
      rw [List.length_map, hg]
    rw [if_pos ⟨by rw [List.length_map]; exact h1, by rw [List.length_map]; exact h2⟩, e, if_pos ⟨rfl, h3, h4⟩, firstBad_good _ _ h5]
    rfl
theorem sml_good {ls : List (List Nat)} {n : Nat} (h : GL ls n) : Sml (.tuple (ls.map dT)) := by
  obtain ⟨h1, h2, h3, h4, h5⟩ := h
  intro ds e
  injection e with e
  subst e
  refine ⟨by rw [List.length_map]; omega, fun x hx es ee => ?_⟩
  obtain ⟨g, hg, rfl⟩ := List.mem_map.mp hx
  injection ee with ee
  subst ee
  rw [List.length_map, (h5 g hg).len]
  omega
theorem Few.wd {ls : List (List Nat)} {n m : Nat} (h : Few ls n m) (hm : m ≤ 240) {L : List (List Nat × List Nat)} (hL : Wd ls n L) : ∃ a, L = Lt.qq ls n a ∧ L.length = a ∧ L.length ≤ m := by
  obtain ⟨a, rfl, h1, h2⟩ := hL
  have h3 := h.qq a
  exact ⟨a, rfl, by omega, h3⟩
theorem lockIn_good {CL CM : Addr} {v : V} {H : Hp} {E : XK} {k : List (List Nat) → Nat → Prop} {ls : List (List Nat)} {n m : Nat} (ht : TT H v ls) (hg : GL ls n) (hf : Few ls n m) (hm : m ≤ 240) (q : k ls n) : LockIn CL CM v H E k :=
  ⟨_, ht.rp, sml_good hg, fun pl e => (by rw [lockBad_good hg] at e; cases e), fun _ => ⟨ls, n, ht, hg, fun L hL h => by
    obtain ⟨a, _, _, z⟩ := hf.wd hm hL
    omega, q⟩⟩
theorem TT.head {H : Hp} {v : V} {ls : List (List Nat)} {n : Nat} (h : TT H v ls) (hg : GL ls n) : ∃ a xs b, v = .ref a ∧ H a = some (.tup xs) ∧ Paired (TN H) xs ls ∧ atI xs 0 = some (.ref b) ∧ ∃ t, RT H b (nIs t) ∧ t.length = n := by
  obtain ⟨a, xs, rfl, ha, p⟩ := h
  cases p with
  | nil => exact absurd hg.1 (by decide)
  | @cons x t xr tr r rr =>
    obtain ⟨b, rfl, hb⟩ := r
    exact ⟨a, _, b, rfl, ha, .cons ⟨b, rfl, hb⟩ rr, atI_nat (j := 0) rfl, t, hb, (hg.2.2.2.2 t List.mem_cons_self).len⟩
section
variable {P : Program} {w : World} {K : PySem.W.Frag} {mg : Str → Option Value} {base : Heap} {CL CM CT : Addr}
/-! ### made_words -/
def spMade (CL CM : Addr) : Sp := fun vs H Q E => ∃ v, vs = [v] ∧ LockIn CL CM v H E (fun ls n => ∀ d H' L, Same H H' → H d = none → DW H' d L → Wd ls n L → L.length ≤ 240 → Q (.ref d) H')
/-! ### is_turn, are_turns, check_turn -/
def keyI (ns : List Int) : List Key := ns.map Sum.inl
theorem keyN_I (t : List Nat) : keyN t = keyI (t.map Int.ofNat) := by
  unfold keyN keyI
  rw [List.map_map]
  rfl
theorem keyI_inj {s t : List Int} (h : keyI s = keyI t) : s = t := by
  unfold keyI at h
  exact (List.map_inj_right (fun x y e => by injection e)).mp h
abbrev numL (L : List (List Nat × List Nat)) : List (List Int) := L.map fun x : List Nat × List Nat => x.1.map Int.ofNat
theorem dw_isSomeK {H : Hp} {ns : List Int} : ∀ {kvs : List (List Key × V)} {L : List (List Nat × List Nat)}, Paired (DE H) kvs L → (valV kvs (keyI ns)).isSome = decide (ns ∈ numL L)
  | _, _, .nil => by simp [valV_nil]
  | p :: ps, q :: qs, .cons r s => by
    have ep : p.1 = keyI (q.1.map Int.ofNat) := by rw [r.1, keyN_I]
    show _ = decide (ns ∈ (q.1.map Int.ofNat) :: numL qs)
    by_cases e : p.1 = keyI ns
    · have e2 : q.1.map Int.ofNat = ns := keyI_inj (ep.symm.trans e)
      rw [valV_pos e, e2, decide_eq_true List.mem_cons_self]
      rfl
    · rw [valV_neg e, dw_isSomeK s]
      refine decide_eq_decide.mpr ⟨fun h => List.mem_cons_of_mem _ h, fun h => ?_⟩
      rcases List.mem_cons.mp h with z | z
      · rw [z] at e
        exact absurd ep e
      · exact z
def isTurnD (L : List (List Nat × List Nat)) (d : PyData) : Bool := isNums d && decide (numsOf d ∈ numL L)
theorem isTurnD_dT (L : List (List Nat × List Nat)) (t : List Nat) : isTurnD L (dT t) = decide (t ∈ L.map (·.1)) := by
  unfold isTurnD
  rw [isNums_dT, Bool.true_and, numsOf_dT]
  refine decide_eq_decide.mpr ⟨fun h => ?_, fun h => ?_⟩
  · obtain ⟨x, hx, e⟩ := List.mem_map.mp h
    rw [← (List.map_inj_right ofNat_inj).mp e]
    exact List.mem_map.mpr ⟨x, hx, rfl⟩
  · obtain ⟨x, hx, e⟩ := List.mem_map.mp h
    exact List.mem_map.mpr ⟨x, hx, by rw [e]⟩
def areTurnsD (L : List (List Nat × List Nat)) : PyData → Bool
  | .tuple ds => ds.all (isTurnD L)
  | _ => false
end
end Lt


set_option Elab.async false
set_option linter.all false
set_option maxRecDepth 100000
set_option maxHeartbeats 4000000
namespace Lt
open PySem PySem.Spec PyProof.Rows L2
section
variable {P : Program} {w : World} {K : PySem.W.Frag} {mg : Str → Option Value} {base : Heap} {CL CM CT : Addr}
def spIsTurn : Sp := fun vs H Q _ => ∃ (m : Addr) (L : List (List Nat × List Nat)) (v : V) (d : PyData), vs = [.ref m, v] ∧ DW H m L ∧ Rp H v d ∧ (∀ ds, d = .tuple ds → ds.length ≤ 1000) ∧ ∀ H', Same H H' → Q (.bl (isTurnD L d)) H'
def spAreTurns : Sp := fun vs H Q _ => ∃ (m : Addr) (L : List (List Nat × List Nat)) (v : V) (d : PyData), vs = [.ref m, v] ∧ DW H m L ∧ Rp H v d ∧ Sml d ∧ ∀ H', Same H H' → Q (.bl (areTurnsD L d)) H'
end
end Lt

set_option Elab.async false
set_option linter.all false
set_option maxRecDepth 100000
set_option maxHeartbeats 1000000
namespace Lt
open PySem PySem.Spec PyProof.Rows L2
section
variable {P : Program} {w : World} {K : PySem.W.Frag} {mg : Str → Option Value} {base : Heap} {CT : Addr}
def spCheckTurn (CT : Addr) : Sp := fun vs H Q E => ∃ (m : Addr) (L : List (List Nat × List Nat)) (v : V) (d : PyData), vs = [.ref m, v] ∧ DW H m L ∧ Rp H v d ∧ (∀ ds, d = .tuple ds → ds.length ≤ 1000) ∧ (isTurnD L d = true → ∀ H', Same H H' → Q .non H') ∧ (isTurnD L d = false → Bad0 CT H E)
end
end Lt

set_option Elab.async false
set_option linter.all false
set_option maxRecDepth 100000
set_option maxHeartbeats 1000000
/-! is_step, are_bits -/
namespace Lt
open PySem PySem.Spec PyProof.Rows L2
/-- an int from 0 to k less 1 -/
def ownD (k : Nat) : PyData → Bool
  | .int i => decide (0 ≤ i) && decide (i < (k : Int))
  | _ => false
def stepD (L : List (List Nat × List Nat)) (k : Nat) : PyData → Bool
  | .tuple [a, b, c] => ownD k a && isTurnD L b && isTurnD L c
  | _ => false
/-- no long tuple within -/
def Sml3 (d : PyData) : Prop := ∀ ds, d = .tuple ds → ds.length ≤ 1000 ∧ ∀ e ∈ ds, ∀ es, e = .tuple es → es.length ≤ 1000
def bitD (d : PyData) : Bool := isNum d && decide (numOf d = 0 ∨ numOf d = 1)
def bitsD : PyData → Bool
  | .tuple ds => ds.all bitD
  | _ => false
theorem stepD_len {L : List (List Nat × List Nat)} {k : Nat} {ds : List PyData} (h : ds.length ≠ 3) : stepD L k (.tuple ds) = false := by
  match ds with
  | [] => rfl
  | [_] => rfl
  | [_, _] => rfl
  | [_, _, _] => exact absurd rfl h
  | _ :: _ :: _ :: _ :: _ => rfl
theorem three {H : Hp} {xs : List V} {ds : List PyData} (h : RpAll H xs ds) (h3 : ds.length = 3) : ∃ x1 x2 x3 a1 a2 a3, xs = [x1, x2, x3] ∧ ds = [a1, a2, a3] ∧ Rp H x1 a1 ∧ Rp H x2 a2 ∧ Rp H x3 a3 := by
  match ds, xs, h, h3 with
  | [a1, a2, a3], [x1, x2, x3], .cons r1 (.cons r2 (.cons r3 .nil)), _ => exact ⟨x1, x2, x3, a1, a2, a3, rfl, rfl, r1, r2, r3⟩
theorem stepD_no {L : List (List Nat × List Nat)} {k : Nat} {d : PyData} (h : isTup d = false) : stepD L k d = false := by
  cases d with
  | tuple ds => cases h
  | _ => rfl
theorem stepD_3 {L : List (List Nat × List Nat)} {k : Nat} {a b c : PyData} : stepD L k (.tuple [a, b, c]) = (ownD k a && isTurnD L b && isTurnD L c) := rfl
section
variable {P : Program} {w : World} {K : PySem.W.Frag} {mg : Str → Option Value} {base : Heap}
def spIsStep : Sp := fun vs H Q _ => ∃ (m : Addr) (L : List (List Nat × List Nat)) (k : Nat) (v : V) (d : PyData), vs = [.ref m, nI k, v] ∧ DW H m L ∧ Rp H v d ∧ Sml3 d ∧ ∀ H', Same H H' → Q (.bl (stepD L k d)) H'
/-! ### are_bits -/
def spAreBits : Sp := fun vs H Q _ => ∃ (v : V) (d : PyData), vs = [v] ∧ Rp H v d ∧ (∀ ds, d = .tuple ds → ds.length ≤ 1000) ∧ ∀ H', Same H H' → Q (.bl (bitsD d)) H'
theorem num_V {H : Hp} {v : V} {d : PyData} (h : Rp H v d) (hn : isNum d = true) : v = .int (numOf d) := by
  cases h <;> first | rfl | cases hn
theorem bitsD_nums {d : PyData} (h : isNums d = false) : bitsD d = false := by
  cases d with
  | tuple ds =>
    have h : ds.all isNum = false := h
    show ds.all bitD = false
    rw [List.all_eq_false] at h ⊢
    obtain ⟨x, hx, hn⟩ := h
    refine ⟨x, hx, fun z => hn ?_⟩
    unfold bitD at z
    rw [Bool.and_eq_true] at z
    exact z.1
  | _ => rfl
theorem nums_tup {d : PyData} (h : isNums d = true) : ∃ ds, d = .tuple ds ∧ ds.all isNum = true := by
  cases d with
  | tuple ds => exact ⟨ds, rfl, h⟩
  | _ => cases h
theorem in01 (i : Int) : inV (.int i) [.int 0, .int 1] = decide (i = 0 ∨ i = 1) := by
  show (((0 : Int) == i) || (((1 : Int) == i) || false)) = _
  rw [Bool.or_false, Bool.decide_or]
  congr 1
  · by_cases h : i = 0
    · subst h; rfl
    · rw [decide_eq_false h]; exact beq_eq_false_iff_ne.mpr (fun e => h e.symm)
  · by_cases h : i = 1
    · subst h; rfl
    · rw [decide_eq_false h]; exact beq_eq_false_iff_ne.mpr (fun e => h e.symm)
end
end Lt

set_option Elab.async false
set_option linter.all false
set_option maxRecDepth 100000
set_option maxHeartbeats 1000000
/-! class Dial -/
namespace Lt
open PySem PySem.Spec PyProof.Rows L2
def dF (m l : Addr) : List (Str × V) := [("_made", .ref m), ("_stood", .ref l)]
theorem dF_made (m l : Addr) : (dF m l).lookup ("_made" : Str) = some (.ref m) := rfl
theorem dF_stood (m l : Addr) : (dF m l).lookup ("_stood" : Str) = some (.ref l) := rfl
/-- a dial at p of the class at C: m its turns, l what it stood at -/
structure DialAt (H : Hp) (C p m l : Addr) (ls : List (List Nat)) (n : Nat) (past : List (List Nat)) : Prop where
  ins : ∃ dx, H p = some (.ins C dx (dF m l))
  made : DW H m (LL ls n)
  stood : ∃ xs, H l = some (.lst xs) ∧ Paired (TN H) xs past
  ok : ∀ t ∈ past, IsP n t
  ne : past ≠ []
theorem DialAt.same {H H' : Hp} {C p m l : Addr} {ls : List (List Nat)} {n : Nat} {past : List (List Nat)} (h : DialAt H C p m l ls n past) (s : Same H H') : DialAt H' C p m l ls n past :=
  ⟨let ⟨dx, e⟩ := h.ins; ⟨dx, s _ _ e⟩, h.made.same s, let ⟨xs, e, q⟩ := h.stood; ⟨xs, s _ _ e, TNs.tm (.of s) q⟩, h.ok, h.ne⟩
/-- its list has changed -/
theorem DialAt.put {H : Hp} {C p m l : Addr} {ls : List (List Nat)} {n : Nat} {past past' : List (List Nat)} {xs : List V} (h : DialAt H C p m l ls n past) (hx : Paired (TN H) xs past') (ok : ∀ t ∈ past', IsP n t) (ne : past' ≠ []) : DialAt (upd H l (.lst xs)) C p m l ls n past' := by
  obtain ⟨⟨dx, e⟩, hm, ⟨ys, hl, _⟩, _, _⟩ := h
  have tm : Tm H (upd H l (.lst xs)) := Tm.lst hl
  refine ⟨⟨dx, (upd_ne (ne_of e hl (fun z => nomatch z))).trans e⟩, ?_, ⟨xs, upd_same, TNs.tm tm hx⟩, ok, ne⟩
  obtain ⟨kvs, h1, h2⟩ := id hm
  exact hm.tm tm (upd_ne (ne_of h1 hl (fun z => nomatch z)))
theorem last_app {α : Type} {xs : List α} (h : xs ≠ []) : ∃ ys y, xs = ys ++ [y] := ⟨xs.dropLast, xs.getLast h, (List.dropLast_concat_getLast h).symm⟩
theorem paired_end {α β : Type} {F : α → β → Prop} : ∀ {xs : List α} {ys : List β} {y : β}, Paired F xs (ys ++ [y]) → ∃ xs' x, xs = xs' ++ [x] ∧ Paired F xs' ys ∧ F x y
  | _, [], _, .cons r .nil => ⟨[], _, rfl, .nil, r⟩
  | _, _ :: _, _, .cons r t => by
    obtain ⟨xs', x, rfl, p, q⟩ := paired_end t
    exact ⟨_ :: xs', x, rfl, .cons r p, q⟩
section
variable (P : Program) (w : World) (K : PySem.W.Frag) (mg : Str → Option Value) (base : Heap)
/-- the method m of the class at C keeps the promise sp -/
def HasM (CX : CXT) (k : Nat) (C : Addr) (m : Str) (ps : List Str) (sp : Sp) : Prop :=
  ∃ (f : Addr) (fd : FuncData), Meth K C m f ∧ Binds K fd ps [] ∧ FnOk P w K mg base CX k f fd ps sp
/-- a property of it -/
def HasP (CX : CXT) (k : Nat) (C : Addr) (m : Str) (sp : Sp) : Prop :=
  ∃ (p f : Addr) (fd : FuncData), PropOf K C m p f ∧ Binds K fd ["self"] [] ∧ FnOk P w K mg base CX k f fd ["self"] sp
/-- its __init__ -/
def HasI (CX : CXT) (k : Nat) (C : Addr) (x : Str) (ps : List Str) (sp : Sp) : Prop :=
  ∃ (f : Addr) (fd : FuncData), mg x = some (.ref C) ∧ L2.Mk K C f ∧ Binds K fd ps [] ∧ FnOk P w K mg base CX k f fd ps sp
structure MethF (C : Addr) (m q : Str) (st : Stmt) (ps : List Str) : Prop where
  f : ∃ (f : Addr) (fd : FuncData), Meth K C m f ∧ Binds K fd ps [] ∧ Fun K m q st f fd
structure PropF (C : Addr) (m q : Str) (st : Stmt) : Prop where
  f : ∃ (p f : Addr) (fd : FuncData), PropOf K C m p f ∧ Binds K fd ["self"] [] ∧ Fun K m q st f fd
structure InitF (C : Addr) (x : Str) (st : Stmt) (ps : List Str) : Prop where
  f : ∃ (f : Addr) (fd : FuncData), mg x = some (.ref C) ∧ L2.Mk K C f ∧ Binds K fd ps [] ∧ Fun K "__init__" (x ++ ".__init__") st f fd
end
section
variable {P : Program} {w : World} {K : PySem.W.Frag} {mg : Str → Option Value} {base : Heap}
theorem MethF.ok {C : Addr} {m q : Str} {st : Stmt} {N ps : List Str} {k : Nat} {sp : Sp} (T : MethF K C m q st ps) (S : FnScope N ps (defScope st)) (len : ∀ vs H Q E, sp vs H Q E → vs.length = ps.length)
    (hbody : ∀ (f : Addr) (cdv : Value) (A : Around) (outer : List Env) (s : Shared) (H : Hp) (vs : List V) (Q : VK) (E : XK), Room k (A.deeper (envOfC q (defScope st) s.heap.objs.size f cdv)) → sp vs H Q E →
      ∃ t, PSs (cxOf CX0 P w K mg base N q (defScope st) f cdv A outer s H E).nox (defBody st) t ∧ t { nx := fun _ H' => Q .non H', rt := Q } (start N vs) H) : HasM P w K mg base CX0 (k + 1) C m ps sp := by
  obtain ⟨f, fd, hm, b, F⟩ := T.f
  exact ⟨f, fd, hm, b, F.ok S len fun cdv A outer s H vs Q E hr h => hbody f cdv A outer s H vs Q E hr h⟩
theorem MethF.okX {C : Addr} {m q : Str} {st : Stmt} {N ps : List Str} {k : Nat} {sp : Sp} (T : MethF K C m q st ps) (S : FnScope N ps (defScope st)) (len : ∀ vs H Q E, sp vs H Q E → vs.length = ps.length)
    (hbody : ∀ (f : Addr) (cdv : Value) (A : Around) (outer : List Env) (s : Shared) (H : Hp) (vs : List V) (Q : VK) (E : XK), Room k (A.deeper (envOfC q (defScope st) s.heap.objs.size f cdv)) → sp vs H Q E →
      ∃ t, PSs (cxOf (L2.CX P w) P w K mg base N q (defScope st) f cdv A outer s H E) (defBody st) t ∧ t { nx := fun _ H' => Q .non H', rt := Q } (start N vs) H) : HasM P w K mg base (L2.CX P w) (k + 1) C m ps sp := by
  obtain ⟨f, fd, hm, b, F⟩ := T.f
  exact ⟨f, fd, hm, b, F.okX S len fun cdv A outer s H vs Q E hr h => hbody f cdv A outer s H vs Q E hr h⟩
theorem PropF.ok {C : Addr} {m q : Str} {st : Stmt} {N : List Str} {k : Nat} {sp : Sp} (T : PropF K C m q st) (S : FnScope N ["self"] (defScope st)) (len : ∀ vs H Q E, sp vs H Q E → vs.length = 1)
    (hbody : ∀ (f : Addr) (cdv : Value) (A : Around) (outer : List Env) (s : Shared) (H : Hp) (vs : List V) (Q : VK) (E : XK), Room k (A.deeper (envOfC q (defScope st) s.heap.objs.size f cdv)) → sp vs H Q E →
      ∃ t, PSs (cxOf CX0 P w K mg base N q (defScope st) f cdv A outer s H E).nox (defBody st) t ∧ t { nx := fun _ H' => Q .non H', rt := Q } (start N vs) H) : HasP P w K mg base CX0 (k + 1) C m sp := by
  obtain ⟨p, f, fd, hm, b, F⟩ := T.f
  exact ⟨p, f, fd, hm, b, F.ok S len fun cdv A outer s H vs Q E hr h => hbody f cdv A outer s H vs Q E hr h⟩
theorem InitF.okX {C : Addr} {x : Str} {st : Stmt} {N ps : List Str} {k : Nat} {sp : Sp} (T : InitF K mg C x st ps) (S : FnScope N ps (defScope st)) (len : ∀ vs H Q E, sp vs H Q E → vs.length = ps.length)
    (hbody : ∀ (f : Addr) (cdv : Value) (A : Around) (outer : List Env) (s : Shared) (H : Hp) (vs : List V) (Q : VK) (E : XK), Room k (A.deeper (envOfC (x ++ ".__init__") (defScope st) s.heap.objs.size f cdv)) → sp vs H Q E →
      ∃ t, PSs (cxOf (L2.CX P w) P w K mg base N (x ++ ".__init__") (defScope st) f cdv A outer s H E) (defBody st) t ∧ t { nx := fun _ H' => Q .non H', rt := Q } (start N vs) H) : HasI P w K mg base (L2.CX P w) (k + 1) C x ps sp := by
  obtain ⟨f, fd, hg, hm, b, F⟩ := T.f
  exact ⟨f, fd, hg, hm, b, F.okX S len fun cdv A outer s H vs Q E hr h => hbody f cdv A outer s H vs Q E hr h⟩
end
section
variable {X : Cx} {CX : CXT}
/-- calls of these, with what they raise -/
theorem pe_hasM {k : Nat} {C : Addr} {m : Str} {ps : List Str} {sp : Sp} {o e : Expr} {es : List Expr} {ta : TE} {t : TA} {ap pos : Pos} {E : XK} {pl : Sem Bool} (h : HasM X.prog X.w X.K X.mg X.base CX k C m ps sp) (c : Cls X.K C) (hr : Room k X.A) (hx : Passes CX X E) (ho : PE X o ta) (ha : PA X (e :: es) t)
    (he : starEach (e :: es) X.env = (false, eval e X.env) :: starEach es X.env := by rfl) (hpl : (backTo pos (starEach es X.env)).any (·.1) = false := by rfl)
    (ht : eval (.Call (.Attribute o m ap) (e :: es) [] pos) X.env = (do let ov ← eval o X.env; standAt ap.atName; let (f, first) ← holding [ov] (getMethod ov m pl); callWith pos f first (backTo pos (starEach (e :: es) X.env)) (backToKw pos (keywordEach [] X.env))) := by rfl) :
    PE X (.Call (.Attribute o m ap) (e :: es) [] pos) (tMeth C m sp [] E ta t) := by
  obtain ⟨f, fd, hm, hb, F⟩ := h
  exact pe_meth ho c hm F hr hb .nil hx ha he hpl ht
theorem pe_hasM0 {k : Nat} {C : Addr} {m : Str} {ps : List Str} {sp : Sp} {o : Expr} {ta : TE} {ap pos : Pos} {E : XK} {pl : Sem Bool} (h : HasM X.prog X.w X.K X.mg X.base CX k C m ps sp) (c : Cls X.K C) (hr : Room k X.A) (hx : Passes CX X E) (ho : PE X o ta)
    (ht : eval (.Call (.Attribute o m ap) [] [] pos) X.env = (do let ov ← eval o X.env; standAt ap.atName; let (f, first) ← holding [ov] (getMethod ov m pl); callWith pos f first (backTo pos (starEach [] X.env)) (backToKw pos (keywordEach [] X.env))) := by rfl) :
    PE X (.Call (.Attribute o m ap) [] [] pos) (tMeth C m sp [] E ta tNil) := by
  obtain ⟨f, fd, hm, hb, F⟩ := h
  exact pe_meth0 ho c hm F hr hb .nil hx ht
theorem pe_hasP {k : Nat} {C : Addr} {m : Str} {sp : Sp} {o : Expr} {ta : TE} {pos : Pos} {E : XK} (h : HasP X.prog X.w X.K X.mg X.base CX k C m sp) (c : Cls X.K C) (hr : Room (k + 1) X.A) (hx : Passes CX X.nox E) (ho : PE X o ta)
    (hab : attributeBase o m X.env (eval o X.env) = eval o X.env := by rfl) : PE X (.Attribute o m pos) (tProp C sp [] E ta) := by
  obtain ⟨p, f, fd, hm, hb, F⟩ := h
  exact pe_prop ho c hm F hr hb .nil hx hab
theorem pe_hasI {k : Nat} {C : Addr} {x : Str} {ps : List Str} {sp : Sp} {e : Expr} {es : List Expr} {t : TA} {p pos : Pos} {E : XK} (h : HasI X.prog X.w X.K X.mg X.base CX k C x ps sp) (hr : Room (k + 1) X.A) (hg : Gl X x) (hx : Passes CX X E) (ha : PA X (e :: es) t)
    (hdb : (x == ("__debug__" : Str)) = false := by decide) (he : starEach (e :: es) X.env = (false, eval e X.env) :: starEach es X.env := by rfl) (hpl : (backTo pos (starEach es X.env)).any (·.1) = false := by rfl) : PE X (.Call (.Name x p) (e :: es) [] pos) (tMake C sp [] E t) := by
  obtain ⟨f, fd, hm, hk, hb, F⟩ := h
  exact pe_make hk F hr hg hm hb .nil hx ha hdb he hpl
end
end Lt

set_option Elab.async false
set_option linter.all false
set_option maxRecDepth 100000
set_option maxHeartbeats 1000000
namespace Lt
open PySem PySem.Spec PyProof.Rows L2
/-! ### the row of draws -/
/-- all but the object at r is as it was -/
def StepR (r : Addr) (H H' : Hp) : Prop := ∀ a o, a ≠ r → H a = some o → H' a = some o
theorem StepR.refl (r : Addr) (H : Hp) : StepR r H H := fun _ _ _ h => h
theorem StepR.trans {r : Addr} {H H1 H2 : Hp} (a : StepR r H H1) (b : StepR r H1 H2) : StepR r H H2 := fun c o hc h => b c o hc (a c o hc h)
theorem StepR.of {r : Addr} {H H' : Hp} (e : Same H H') : StepR r H H' := fun a o _ h => e a o h
theorem StepR.put (r : Addr) (H : Hp) (o : HO) : StepR r H (upd H r o) := fun a u h e => by rw [upd_ne h]; exact e
structure Row4 (K : PySem.W.Frag) (H : Hp) (r sc : Addr) (ns : List Int) (a b c : Int) : Prop where
  at_ : H r = some (.lst [.ref sc, .int a, .int b, .int c])
  sc : SqL K H sc (ns.map V.int)
  a0 : 0 ≤ a
  b0 : 0 ≤ b
  b1 : b < 2147483647
def RowAt (K : PySem.W.Frag) (H : Hp) (r sc : Addr) (ns : List Int) : Prop := ∃ a b c, Row4 K H r sc ns a b c
theorem StepR.tm {K : PySem.W.Frag} {r sc : Addr} {ns : List Int} {H H' : Hp} (s : StepR r H H') (h : RowAt K H r sc ns) : Tm H H' := by
  obtain ⟨x, b, c, R⟩ := h
  exact ⟨fun a xs e => s a _ (ne_of e R.at_ (fun z => nomatch z)) e, fun a o xs e => s a _ (ne_of e R.at_ (fun z => nomatch z)) e⟩
theorem sq_upd {K : PySem.W.Frag} {H : Hp} {r sc x : Addr} {o : HO} {ns : List Int} {ys : List V} (hr : H r = some (.lst (.ref x :: ys))) (h : SqL K H sc (ns.map V.int)) : SqL K (upd H r o) sc (ns.map V.int) := by
  have key : ∀ u, H sc = some u → u = .lst (ns.map V.int) ∨ (∃ ob, u = .frz ob (.lst (ns.map V.int))) → upd H r o sc = some u := fun u hu hc => by
    refine (upd_ne (ne_of hu hr fun z => ?_)).trans hu
    rcases hc with e | ⟨ob, e⟩
    · rw [e] at z
      injection z with z
      cases ns with
      | nil => cases z
      | cons n ns => cases z
    · rw [e] at z
      cases z
  rcases h with (h | ⟨ob, h⟩) | h
  · exact .inl (.inl (key _ h (.inl rfl)))
  · exact .inl (.inr ⟨ob, key _ h (.inr ⟨ob, rfl⟩)⟩)
  · exact .inr h
theorem Row4.put {K : PySem.W.Frag} {H : Hp} {r sc : Addr} {ns : List Int} {a b c a' b' c' : Int} (h : Row4 K H r sc ns a b c) (h1 : 0 ≤ a') (h2 : 0 ≤ b') (h3 : b' < 2147483647) : Row4 K (upd H r (.lst [.ref sc, .int a', .int b', .int c'])) r sc ns a' b' c' :=
  ⟨upd_same, sq_upd h.at_ h.sc, h1, h2, h3⟩
theorem RowAt.step {K : PySem.W.Frag} {H H' : Hp} {r sc : Addr} {ns : List Int} (h : RowAt K H r sc ns) (s : Same H H') : RowAt K H' r sc ns := by
  obtain ⟨a, b, c, R⟩ := h
  exact ⟨a, b, c, s _ _ R.at_, Same.seq s R.sc, R.a0, R.b0, R.b1⟩
theorem RowAt.sq {K : PySem.W.Frag} {H : Hp} {r sc : Addr} {ns : List Int} (h : RowAt K H r sc ns) : SqL K H sc (ns.map V.int) := let ⟨_, _, _, R⟩ := h; R.sc
theorem RowAt.ne {K : PySem.W.Frag} {H : Hp} {r sc l : Addr} {ns : List Int} (h : RowAt K H r sc ns) (hl : H l = none) : r ≠ l := let ⟨_, _, _, R⟩ := h; ne_of_none R.at_ hl
/-- an object that was not there at H0, where the row stood, may change -/
theorem RowAt.mut {K : PySem.W.Frag} {H0 H : Hp} {r sc l : Addr} {o : HO} {ns : List Int} (h0 : RowAt K H0 r sc ns) (hl : H0 l = none) (h : RowAt K H r sc ns) : RowAt K (upd H l o) r sc ns := by
  have hr := h0.ne hl
  have s0 := h0.sq
  obtain ⟨a, b, c, R⟩ := h
  refine ⟨a, b, c, (upd_ne hr).trans R.at_, ?_, R.a0, R.b0, R.b1⟩
  rcases s0 with (s0 | ⟨ob, s0⟩) | s0
  · have hne : sc ≠ l := ne_of_none s0 hl
    rcases R.sc with (z | ⟨ob, z⟩) | z
    · exact .inl (.inl ((upd_ne hne).trans z))
    · exact .inl (.inr ⟨ob, (upd_ne hne).trans z⟩)
    · exact .inr z
  · have hne : sc ≠ l := ne_of_none s0 hl
    rcases R.sc with (z | ⟨ob, z⟩) | z
    · exact .inl (.inl ((upd_ne hne).trans z))
    · exact .inl (.inr ⟨ob, (upd_ne hne).trans z⟩)
    · exact .inr z
  · exact .inr s0
theorem StepR.mut {r l : Addr} {H0 H : Hp} {o : HO} (s : StepR r H0 H) (hl : H0 l = none) : StepR r H0 (upd H l o) := fun a u ha e => by
  rw [upd_ne (ne_of_none e hl)]
  exact s a u ha e
theorem StepR.free {r l : Addr} {H0 H : Hp} (s : StepR r H0 H) (hr : r ≠ l) (hl : H l = none) : H0 l = none := by
  cases e : H0 l with
  | none => rfl
  | some o =>
    rw [s l o (Ne.symm hr) e] at hl
    cases hl
section
variable {P : Program} {w : World} {K : PySem.W.Frag} {mg : Str → Option Value} {base : Heap}
def spTaken (K : PySem.W.Frag) : Sp := fun vs H Q _ => ∃ (r sc : Addr) (ns : List Int) (m : Nat), vs = [.ref r, nI m] ∧ RowAt K H r sc ns ∧ 1 ≤ m ∧ m ≤ 1000 ∧ ∀ x H', x < m → StepR r H H' → RowAt K H' r sc ns → Q (nI x) H'
theorem sc_law_taken : FnScope ["row", "many", "found", "cell"] ["row", "many"] (defScope s_law_taken) := ⟨rfl, rfl, rfl, by decide +kernel, rfl, by decide +kernel, by decide +kernel⟩
theorem fmod_nat {i : Int} {m : Nat} (h : 1 ≤ m) : ∃ x : Nat, x < m ∧ Int.fmod i (m : Int) = (x : Int) := by
  have h0 : (0 : Int) < (m : Int) := by omega
  rw [Int.fmod_eq_emod_of_nonneg i (Int.le_of_lt h0)]
  have h1 := Int.emod_nonneg i (show (m : Int) ≠ 0 by omega)
  have h2 := Int.emod_lt_of_pos i h0
  exact ⟨(i % m).toNat, by omega, by omega⟩
theorem has_law_taken (T : Top K mg "_law_taken" s_law_taken ["row", "many"]) (B : Bi mg) : Has P w K mg base CX0 1 "_law_taken" ["row", "many"] (spTaken K) := by
  refine T.ok sc_law_taken (fun vs H Q E h => ?_) (fun f cdv A outer s H vs Q E hr h => ?_)
  · obtain ⟨r, sc, ns, m, rfl, _⟩ := h
    rfl
  · obtain ⟨r, sc, ns, m, rfl, ⟨a, b, c, R⟩, hm1, hm2, q⟩ := h
    refine ⟨_, pss_cons (ps_if (pt_cmpR op_gt (pe_ix ix_list (pv 0) pe_int (fun _ _ => rfl)) pe_int (nomark _))
        (pss_cons (ps_set (i := 2) sc_law_taken.nd rfl (Or.inl rfl) (pe_op op_modN (pe_callTy call_int1 (by rfl) B.int PyProof.Rows.boot_int (pa_cons (pe_ix ix_list (pv 0) pe_int (fun _ _ => rfl)) pa_nil)) (pv 1)))
        (pss_cons (ps_asg (pe_op op_fdivN (pe_ix ix_list (pv 0) pe_int (fun _ _ => rfl)) (pv 1)) (pg_sub (pv 0) pe_int set_list))
        (pss_one (ps_ret (pv 2))))) pss_nil)
      (pss_cons (ps_asg (pe_op op_add (pe_ix ix_list (pv 0) pe_int (fun _ _ => rfl)) pe_int) (pg_sub (pv 0) pe_int set_list))
      (pss_cons (ps_if (pt_cmpR op_gt (pe_ix ix_list (pv 0) pe_int (fun _ _ => rfl)) (pe_callB call_len_seq (by rfl) B.len PySem.boot_len (pa_cons (pe_ix ix_list (pv 0) pe_int (fun _ _ => rfl)) pa_nil)) (nomark _))
        (pss_cons (ps_asg (pe_op op_modN (pe_callTy call_int1 (by rfl) B.int PyProof.Rows.boot_int (pa_cons (pe_op op_add (pe_op op_mul (pe_ix ix_list (pv 0) pe_int (fun _ _ => rfl)) pe_int) pe_int) pa_nil)) pe_int) (pg_sub (pv 0) pe_int set_list))
        (pss_one (ps_ret (pe_op op_modN (pe_callTy call_int1 (by rfl) B.int PyProof.Rows.boot_int (pa_cons (pe_op op_fdivN (pe_ix ix_list (pv 0) pe_int (fun _ _ => rfl)) pe_int) pa_nil)) (pv 1))))) pss_nil)
      (pss_cons (ps_set (i := 3) sc_law_taken.nd rfl (Or.inl rfl) (pe_ix ix_list (pe_ix ix_list (pv 0) pe_int (fun _ _ => rfl)) (pe_op op_sub (pe_ix ix_list (pv 0) pe_int (fun _ _ => rfl)) pe_int) (fun _ _ => rfl)))
      (pss_cons (ps_asg (pe_op op_modN (pe_callTy call_int1 (by rfl) B.int PyProof.Rows.boot_int (pa_cons (pe_op op_add (pe_op op_add (pe_op op_mul (pe_ix ix_list (pv 0) pe_int (fun _ _ => rfl)) pe_int) (pv 3)) pe_int) pa_nil)) pe_int) (pg_sub (pv 0) pe_int set_list))
      (pss_cons (ps_if (pt_cmpR op_ge (pv 3) (pe_op op_pow pe_int pe_int) (nomark _))
        (pss_one (ps_asg (pe_op op_fdivN (pv 3) (pv 1)) (pg_sub (pv 0) pe_int set_list))) pss_nil)
      (pss_one (ps_ret (pe_op op_modN (pe_callTy call_int1 (by rfl) B.int PyProof.Rows.boot_int (pa_cons (pv 3) pa_nil)) (pv 1))))))))), ?_⟩
    have hm0 : (m : Int) ≠ 0 := by omega
    have hmb : ((m : Int)).natAbs < 1073741824 := by omega
    have rd : ∀ {H a b c}, Row4 K H r sc ns a b c → SqL K H r [.ref sc, .int a, .int b, .int c] := fun R => SqL.of R.at_
    have a00 := R.a0
    have b00 := R.b0
    have b11 := R.b1
    have fin : ∀ i H', StepR r H H' → RowAt K H' r sc ns → Q (.int (Int.fmod i m)) H' := fun i H' st ra => by
      obtain ⟨x, hx, ex⟩ := fmod_nat (i := i) hm1
      rw [ex]
      exact q x H' hx st ra
    refine ⟨_, rfl, r, _, 3, .int c, rfl, rfl, rd R, rfl, c, 0, rfl, rfl, _, rfl, ite2 (fun hc => ?_) (fun hc => ?_)⟩
    · refine ⟨_, rfl, r, _, 3, .int c, rfl, rfl, rd R, rfl, .inl ⟨_, rfl, _, rfl, c, m, rfl, rfl, hm0, ?_⟩⟩
      refine ⟨_, rfl, r, _, 3, .int c, rfl, rfl, rd R, rfl, _, rfl, c, m, rfl, rfl, ⟨hm0, hmb⟩, _, rfl, r, _, 3, 3, rfl, rfl, R.at_, rfl, ?_⟩
      exact ⟨_, rfl, fin c _ (StepR.put _ _ _) ⟨a, b, _, R.put a00 b00 b11⟩⟩
    · have R1 := R.put (a' := a + 1) (b' := b) (c' := c) (by omega) b00 b11
      refine ⟨_, rfl, r, _, 1, .int a, rfl, rfl, rd R, rfl, a, 1, rfl, rfl, _, rfl, r, _, 1, 1, rfl, rfl, R.at_, rfl, ?_⟩
      refine ⟨_, rfl, r, _, 1, .int (a + 1), rfl, rfl, rd R1, rfl, _, rfl, r, _, 0, .ref sc, rfl, rfl, rd R1, rfl, sc, ns.map V.int, rfl, .inl R1.sc, a + 1, _, rfl, rfl, _, rfl, ite2 (fun h2 => ?_) (fun h2 => ?_)⟩
      · obtain ⟨y, hy, ey⟩ := fmod_nat (i := b * 48271 + 11) (m := 2147483647) (by decide)
        have ey' : Int.fmod (b * 48271 + 11) 2147483647 = (y : Int) := ey
        have R2 := R1.put (a' := a + 1) (b' := Int.fmod (b * 48271 + 11) 2147483647) (c' := c) (by omega) (by omega) (by omega)
        refine ⟨_, rfl, r, _, 2, .int b, rfl, rfl, rd R1, rfl, b, 48271, rfl, rfl, .inl ⟨by omega, by omega⟩, b * 48271, 11, rfl, rfl, .inl ⟨_, rfl, b * 48271 + 11, 2147483647, rfl, rfl, (show (2147483647 : Int) ≠ 0 by decide), _, rfl, r, _, 2, 2, rfl, rfl, R1.at_, rfl, ?_⟩⟩
        refine ⟨_, rfl, r, _, 2, .int _, rfl, rfl, rd R2, rfl, _, 7, rfl, rfl, ⟨by decide, by decide⟩, .inl ⟨_, rfl, _, rfl, _, m, rfl, rfl, hm0, ?_⟩⟩
        exact fin _ _ ((StepR.put _ _ _).trans (StepR.put _ _ _)) ⟨_, _, _, R2⟩
      · have h2 : ¬ (((ns.map V.int).length : Int) < a + 1) := fun z => h2 (decide_eq_true z)
        rw [List.length_map] at h2
        have hlt : a.toNat < ns.length := by omega
        have hat : atI (ns.map V.int) (a + 1 - 1) = some (.int ns[a.toNat]) := by
          have e : a + 1 - 1 = ((a.toNat : Nat) : Int) := by omega
          rw [e]
          refine atI_nat ?_
          rw [List.getElem?_map, List.getElem?_eq_getElem hlt]
          rfl
        generalize ns[a.toNat] = z at hat
        refine ⟨_, rfl, r, _, 0, .ref sc, rfl, rfl, rd R1, rfl, _, rfl, r, _, 1, .int (a + 1), rfl, rfl, rd R1, rfl, a + 1, 1, rfl, rfl, sc, _, a + 1 - 1, .int z, rfl, rfl, R1.sc, hat, ?_⟩
        obtain ⟨y, hy, ey⟩ := fmod_nat (i := b * 48271 + z + 11) (m := 2147483647) (by decide)
        have ey' : Int.fmod (b * 48271 + z + 11) 2147483647 = (y : Int) := ey
        have R2 := R1.put (a' := a + 1) (b' := Int.fmod (b * 48271 + z + 11) 2147483647) (c' := c) (by omega) (by omega) (by omega)
        refine ⟨_, rfl, r, _, 2, .int b, rfl, rfl, rd R1, rfl, b, 48271, rfl, rfl, .inl ⟨by omega, by omega⟩, _, rfl, b * 48271, z, rfl, rfl, b * 48271 + z, 11, rfl, rfl, .inl ⟨_, rfl, b * 48271 + z + 11, 2147483647, rfl, rfl, (show (2147483647 : Int) ≠ 0 by decide), _, rfl, r, _, 2, 2, rfl, rfl, R1.at_, rfl, ?_⟩⟩
        refine ⟨_, rfl, 10, 18, rfl, rfl, ⟨by decide, by decide, by decide⟩, z, _, rfl, rfl, _, rfl, ite2 (fun h3 => ?_) (fun h3 => ?_)⟩
        · refine ⟨_, rfl, _, rfl, z, m, rfl, rfl, ⟨hm0, hmb⟩, _, rfl, r, _, 3, 3, rfl, rfl, R2.at_, rfl, ?_⟩
          refine ⟨_, rfl, .inl ⟨_, rfl, _, rfl, _, m, rfl, rfl, hm0, ?_⟩⟩
          exact fin _ _ (((StepR.put _ _ _).trans (StepR.put _ _ _)).trans (StepR.put _ _ _)) ⟨_, _, _, R2.put (by omega) (by omega) (by omega)⟩
        · refine ⟨_, rfl, .inl ⟨_, rfl, _, rfl, _, m, rfl, rfl, hm0, ?_⟩⟩
          exact fin _ _ ((StepR.put _ _ _).trans (StepR.put _ _ _)) ⟨_, _, _, R2⟩
end
end Lt

set_option Elab.async false
set_option linter.all false
set_option maxRecDepth 100000
set_option maxHeartbeats 2000000
/-! lambdas in a body: made (with defaults or without), held by a name, called -/
namespace LmX
open PySem PySem.Spec PyProof.Rows L2 LamX NdefX
/-- the words of a lambda; the body stands beside -/
abbrev lmFd (F : NF) (e : Expr) (dV doc pm ctv : Value) : FuncData := PySem.W.kdv_fn F.name F.qual F.params (.expr e) F.scope F.cl dV doc pm (.ref F.c) ctv
def LmO (f : Addr) (F : NF) (e : Expr) (dV : Value) : HO :=
  .ext fun h => ∃ (od : Option Addr) (sl : Array (Option Value)) (doc pm ctv : Value), h.get? f = some (⟨.type "function", od, .func (lmFd F e dV doc pm ctv), sl⟩ : Obj)
theorem lmO_at {P : Program} {w : World} {H : Hp} {h : Heap} {f : Addr} {F : NF} {e : Expr} {dV : Value} (ok : HOk P w H h) (x : H f = some (LmO f F e dV)) :
    ∃ (od : Option Addr) (sl : Array (Option Value)) (doc pm ctv : Value), h.get? f = some (⟨.type "function", od, .func (lmFd F e dV doc pm ctv), sl⟩ : Obj) := (ok f _ x).1
abbrev lmF (q : Str) (params : Arguments) (scope : Scope) (cells : List (Str × Addr)) (c : Addr) : NF := ⟨"<lambda>", q, params, [], scope, cloFrom cells scope.names [], c⟩
section
variable {X : Cx} {pins : List (Addr × Obj)} {σ : L2.St} {H : Hp} {s : Shared}
theorem lm_laid {F : NF} {e : Expr} {dV doc pm ctv : Value} {t' : Nat} (I : Inv X pins σ H s) :
    Inv X pins σ (upd H s.heap.objs.size (LmO s.heap.objs.size F e dV)) { s with heap := s.heap.push { cls := .type "function", data := .func (lmFd F e dV doc pm ctv) }, toks := t' } := by
  have g : (s.heap.push ({ cls := .type "function", data := .func (lmFd F e dV doc pm ctv) } : Obj)).get? s.heap.objs.size = some { cls := .type "function", data := .func (lmFd F e dV doc pm ctv) } := Heap.get?_push_size _ rfl
  exact I.laid (fun _ _ q => Heap.get?_push_of_some _ q) (Nat.le_refl _) ⟨⟨none, #[], doc, pm, ctv, g⟩, ⟨_, g⟩, fun _ _ ⟨od, sl, d, p, t, z⟩ k => ⟨od, sl, d, p, t, k _ z⟩⟩
theorem lm_tail {T : List (Addr × Str)} {c P : Addr} {params : Arguments} {body : Expr} {scope : Scope} {pos : Pos} {dV : Value} {E Q : Value → Shared → Prop} (I : Inv X pins σ H s) (B : TabB X.base X.mg c P) (hc : X.env.code = .ref c)
    (hm : (P, X.env.qual ++ "<lambda>") ∈ T) (hu : ∀ p ∈ T, p.1 = P → p.2 = X.env.qual ++ "<lambda>") (hT : Tabs T H) (hf : ∀ y ∈ scope.names, y.2 = .free → ∃ c, X.env.cells.lookup y.1 = some c)
    (h : ∀ (f c' : Addr) (H1 : Hp) (s' : Shared), Inv X pins σ H1 s' → ExtN H H1 → Tabs T H1 → H f = none → H1 f = some (LmO f (lmF (X.env.qual ++ "<lambda>") params scope X.env.cells c') body dV) → H1 c' = some (CodeO c' (X.env.qual ++ "<lambda>")) → Q (.ref f) s') :
    wpAny (model X.prog X.w) X.A (makeTail "<lambda>" (X.env.qual ++ "<lambda>") params (.expr body) scope X.env dV .none none pos pos.line) Q E s := by
  obtain ⟨ps, tP, tr, am⟩ := hT _ hm
  have bmP := B.bm.keeps I.bk
  have gP : s.heap.get? P = some { cls := .none, data := .fields ps } := I.hok P _ tP
  rcases hk : codeAmong pos ps.toList with _ | cv
  · refine PySem.W.kdv_makeTail (closure_ok hf) I.ok.glob (I.mod.glob.keeps I.bk) hc (B.code.keeps I.bk) gP tr hk B.gP bmP fun c' ctv doc h' tk kx kge klt ⟨c2, oc, vs, t, e2, o2, d2, v2⟩ kt => ?_
    cases e2
    have frC : H c' = none := I.hok.fresh kge
    have J := inv_table (t' := tk) (more := #[rawInt pos.line, rawInt pos.col, .ref c']) I tP (fun b o nb q => kx b o nb q) kt kge ⟨oc, vs, t, o2, d2, v2⟩
    have ext : ExtN H (upd (upd H P (.tbl (ps ++ #[rawInt pos.line, rawInt pos.col, .ref c']))) c' (CodeO c' (X.env.qual ++ "<lambda>"))) := fun b o q nt => by
      have nP : b ≠ P := fun z => nt ps (Option.some.inj ((q.symm.trans (z ▸ rfl)).trans tP))
      exact (upd_ne (ne_of_none q frC)).trans ((upd_ne nP).trans q)
    have tabs : Tabs T (upd (upd H P (.tbl (ps ++ #[rawInt pos.line, rawInt pos.col, .ref c']))) c' (CodeO c' (X.env.qual ++ "<lambda>"))) := fun p hp => by
      have lst : (ps ++ #[rawInt pos.line, rawInt pos.col, .ref c']).toList = ps.toList ++ [rawInt pos.line, rawInt pos.col, .ref c'] := Array.toList_append ..
      rcases Classical.em (p.1 = P) with hb | hb
      · rw [hu p hp hb, hb]
        refine ⟨_, (upd_ne (ne_of_none tP frC)).trans upd_same, lst ▸ PySem.TriplesOk_snoc _ _ _ _ tr, fun p' cw hw => ?_⟩
        rcases among_app _ tr (lst ▸ hw) with z | z
        · exact (am p' cw z).imp fun c0 q => ⟨q.1, ext _ _ q.2 codeO_ne⟩
        · exact ⟨c', z, upd_same⟩
      · obtain ⟨qs, a1, a2, a3⟩ := hT p hp
        exact ⟨qs, (upd_ne (ne_of_none a1 frC)).trans ((upd_ne hb).trans a1), a2, fun p' cw hw => (a3 p' cw hw).imp fun c0 q => ⟨q.1, ext _ _ q.2 codeO_ne⟩⟩
    have new := J.hok.fresh (Nat.le_refl _)
    refine h h'.objs.size c' _ _ (lm_laid (F := lmF (X.env.qual ++ "<lambda>") params scope X.env.cells c') (t' := tk) J) (fun b o q nt => ?_) (tabs.ext fun b o q => ?_) (I.hok.fresh (Nat.le_trans kge (Nat.le_of_lt klt))) upd_same ?_
    · exact (upd_ne (ne_of_none (ext b o q nt) new)).trans (ext b o q nt)
    · exact (upd_ne (ne_of_none q new)).trans q
    · exact (upd_ne (Nat.ne_of_lt klt)).trans upd_same
  · obtain ⟨c', e, hco⟩ := am pos cv hk
    subst e
    refine PySem.W.kdv_makeTailHit (closure_ok hf) I.ok.glob (I.mod.glob.keeps I.bk) hc (B.code.keeps I.bk) gP tr hk bmP fun ctv doc h' tk kx ksz => ?_
    have J : Inv X pins σ H { s with heap := h', toks := tk } := I.kept kx
    have new : H h'.objs.size = none := J.hok.fresh (Nat.le_refl _)
    have st : ∀ b o, H b = some o → upd H h'.objs.size (LmO h'.objs.size (lmF (X.env.qual ++ "<lambda>") params scope X.env.cells c') body dV) b = some o := fun b o q => (upd_ne (ne_of_none q new)).trans q
    exact h h'.objs.size c' _ _ (lm_laid (F := lmF (X.env.qual ++ "<lambda>") params scope X.env.cells c') (t' := tk) J) (fun b o q _ => st b o q) (hT.ext st) new upd_same (st _ _ hco)
end
/-- lambda: body -/
def tLm0 (T : List (Addr × Str)) (mk : Addr → NF) (e : Expr) : TE := fun _ H Q => Tabs T H ∧ ∀ (f c' : Addr) (H1 : Hp), ExtN H H1 → Tabs T H1 → H f = none → H1 f = some (LmO f (mk c') e .none) → H1 c' = some (CodeO c' (mk c').qual) → Q (.ref f) H1
/-- lambda x=d: body -/
def tLm1 (T : List (Addr × Str)) (mk : Addr → NF) (e : Expr) (td : TE) : TE := fun σ H Q => td σ H fun v H0 => Tabs T H0 ∧ ∀ (p f c' : Addr) (H1 : Hp), ExtN H0 H1 → Tabs T H1 → H0 f = none → H1 f = some (LmO f (mk c') e (.ref p)) → H1 p = some (.tup [v]) → H1 c' = some (CodeO c' (mk c').qual) → Q (.ref f) H1
section
variable {X : Cx} {T : List (Addr × Str)} {c P : Addr} {params : Arguments} {body : Expr} {scope : Scope} {pos : Pos}
theorem lm_has (ok : X.Ok) (hf : ∀ y ∈ scope.names, y.2 = .free → X.env.scope.names.lookup y.1 = some .cell ∨ X.env.scope.names.lookup y.1 = some .free) : ∀ y ∈ scope.names, y.2 = .free → ∃ c, X.env.cells.lookup y.1 = some c :=
  fun y hy e => (hf y hy e).elim (fun z => ok.has _ (.inl z)) fun z => ok.has _ (.inr z)
theorem pe_lm0 (B : TabB X.base X.mg c P) (hc : X.env.code = .ref c) (hm : (P, X.env.qual ++ "<lambda>") ∈ T) (hu : ∀ p ∈ T, p.1 = P → p.2 = X.env.qual ++ "<lambda>")
    (hf : ∀ y ∈ scope.names, y.2 = .free → X.env.scope.names.lookup y.1 = some .cell ∨ X.env.scope.names.lookup y.1 = some .free) (hd : defaultsOf params X.env = ([], [])) :
    PE X (.Lambda params body scope pos) (tLm0 T (lmF (X.env.qual ++ "<lambda>") params scope X.env.cells) body) := by
  refine ⟨fun pins s σ H Q I h => PySem.W.kla_eval hd ?_⟩
  rw [makeFunction_eq]
  simp only [List.zip_nil_right, List.filterMap_nil, List.isEmpty_nil, if_true, pure_bind]
  exact lm_tail I B hc hm hu h.1 (lm_has I.ok hf) fun f c' H1 s' J k1 k2 k3 k4 k5 => ⟨V.ref f, H1, J, rfl, h.2 f c' H1 k1 k2 k3 k4 k5⟩
theorem pe_lm1 {d : Expr} {td : TE} (B : TabB X.base X.mg c P) (hc : X.env.code = .ref c) (hm : (P, X.env.qual ++ "<lambda>") ∈ T) (hu : ∀ p ∈ T, p.1 = P → p.2 = X.env.qual ++ "<lambda>")
    (hf : ∀ y ∈ scope.names, y.2 = .free → X.env.scope.names.lookup y.1 = some .cell ∨ X.env.scope.names.lookup y.1 = some .free) (hd : params.defaults = [d]) (hk : params.kw_defaults = []) (pd : PE X d td) :
    PE X (.Lambda params body scope pos) (tLm1 T (lmF (X.env.qual ++ "<lambda>") params scope X.env.cells) body td) := by
  refine ⟨fun pins s σ H Q I h => PySem.W.kdv_lam (by rw [hd]; rfl) hk ?_⟩
  rw [hd]
  refine PySem.W.kdv_all1 (thn (pd.run pins s σ H _ I h) fun u s1 ⟨v, H0, J, r, hT, q⟩ => PySem.W.kdv_all0 ?_)
  rw [makeFunction_eq]
  simp only [List.zip_nil_right, List.filterMap_nil, List.isEmpty_nil, List.isEmpty_cons, if_true, Bool.false_eq_true, if_false, pure_bind]
  refine wpAny_bind (wpAny_newTextTuple ?_)
  have fr : H0 s1.heap.objs.size = none := J.hok.fresh (Nat.le_refl _)
  have J2 := J.laid (t' := s1.toks) (h' := s1.heap.push { cls := .type "tuple", data := .seq [u].toArray }) (fun _ _ q => Heap.get?_push_of_some _ q) (Nat.le_refl _) (show ObjOk X.prog X.w _ _ _ (.tup [v]) from ⟨by rw [sizeLine_eq]; exact Nat.le_of_ble_eq_true rfl, [u], .cons r .nil, IsTup.new _ _⟩)
  have st : ∀ b o, H0 b = some o → upd H0 s1.heap.objs.size (.tup [v]) b = some o := fun b o e => (upd_ne (ne_of_none e fr)).trans e
  refine lm_tail J2 B hc hm hu (hT.ext st) (lm_has J2.ok hf) fun f c' H1 s' J3 k1 k2 k3 k4 k5 => ⟨V.ref f, H1, J3, rfl, q _ f c' H1 (fun b o e nt => k1 b o (st b o e) nt) k2 ?_ k4 (k1 _ _ upd_same fun _ z => by cases z) k5⟩
  unfold upd at k3
  split at k3
  · cases k3
  · exact k3
/-- x(), x a name that holds a function -/
theorem pe_ap0 {R : Addr → TE} {i : Nat} {x : Str} {p : Pos} (hrun : ∀ (f : Addr) (pins : List (Addr × Obj)) (s : Shared) (σ : L2.St) (H : Hp) (Q : VK), Inv X pins σ H s → R f σ H Q → PySem.W.FnAt f s.heap ∧ wpAny (model X.prog X.w) X.A (call (.ref f) []) (EP X pins σ Q) X.xe s)
    (hN : X.N[i]? = some x) (hv : Vis X.env.scope x) (hd : (x == ("__debug__" : Str)) = false := by decide) (hcd : (x == ("__classdict__" : Str)) = false := by decide) :
    PE X (.Call (.Name x p) [] [] pos) (fun σ H Q => ∃ f, σ[i]? = some (some (.ref f)) ∧ R f σ H Q) := by
  refine ⟨fun pins s σ H Q I ⟨f, hs, hR⟩ => wpAny_Call_Name_kw (thn ((pe_var (pos := p) hN hv hd hcd).run pins s σ H (fun v H1 => v = .ref f ∧ H1 = H) I ⟨.ref f, hs, rfl, rfl⟩) fun u s1 ⟨v, H1, J, r, e1, e2⟩ => ?_)⟩
  subst e1 e2
  obtain rfl : u = Value.ref f := r
  obtain ⟨fa, rn⟩ := hrun f pins s1 σ _ Q J hR
  exact PySem.W.callWith_F0 fa rn
/-- a lambda's run -/
theorem lm_run {CX : CXT} {pins : List (Addr × Obj)} {s : Shared} {σ : L2.St} {H : Hp} {Q : VK} {E : XK} {k : Nat} {f : Addr} {F : NF} {e : Expr} {dV : Value} {N ps fr : List Str} {us : List Value} {vs : List V} {js : List Nat} {tb : TE} (I : Inv X pins σ H s)
    (S : NScope N ps fr F.scope) (hf : H f = some (LmO f F e dV)) (hc : H F.c = some (CodeO F.c F.qual)) (hb : ∀ doc pm ctv, BindsTo s (lmFd F e dV doc pm ctv) ⟨[], []⟩ (ps.zip us)) (r : Vals vs us) (hl : vs.length = ps.length) (cp : Caps X F.cl fr js)
    (hr : Room (k + 1) X.A) (hx : PassesAt CX X σ E) (hbody : Room k (X.A.deeper (envF F f s.heap.objs.size)) → PE (ncx CX X.prog X.w X.K X.mg X.base N F f X.A X.stack s H E) e tb) (ht : tb (startF N vs (js.map (slotAt σ))) H Q) :
    PySem.W.FnAt f s.heap ∧ wpAny (model X.prog X.w) X.A (call (.ref f) []) (EP X pins σ Q) X.xe s := by
  obtain ⟨od, sl, doc, pm, ctv, ho⟩ := lmO_at I.hok hf
  refine ⟨⟨_, od, _, sl, ho⟩, ?_⟩
  have C := cells_of I cp
  have rc : codeAny (model X.prog X.w) X.A (.call (.ref f) ⟨[], []⟩) (CR CX X.stack X.prog X.w H s Q E) s := by
    refine PySem.W.kla_callFunE hr.depth ho rfl S.co S.gen rfl (codeO_at I.hok hc) (hb doc pm ctv _ _ _ _ ?_)
    refine wpAny_newFunctionEnv S.nocell (fun ⟨n, _⟩ hy => S.par n (List.of_mem_zip hy).1) (fun h₁ hns hsb => ⟨I.nolimit.fresh _ hsb, ?_⟩) S.kind
    show codeAny _ _ (.expr e (envF F f s.heap.objs.size)) _ _
    have kp : ∀ b o, s.heap.get? b = some o → h₁.get? b = some o := fun b o q => hsb.extBut b o (Nat.ne_of_lt (Heap.lt_size q)) (Heap.get?_push_of_some _ q)
    have J := inv_startN (CX := CX) (E := E) (f := f) (tk := s.toks + (ps.zip us).length) S hr.hd I.env0 hl r C hns kp
    refine PySem.W.kla_codeExpr (wpAny_mono ((hbody (hr.deeper _)).run [] _ _ H Q J ht) (fun v s' ⟨w', H', J', rv, q⟩ => ?_) fun e s' q => q)
    exact ⟨w', H', J'.os, J'.bare, J'.base, J'.hok, rv, q⟩
  refine wpAny_call (codeAny_mono rc fun o s' q => ?_)
  rcases o with e | fl
  · exact hx pins H s e s' I q
  · cases fl with
    | ret u => exact I.after q
    | next => exact q.elim
    | brk => exact q.elim
    | cont => exact q.elim
end
end LmX

set_option Elab.async false
set_option linter.all false
set_option maxRecDepth 100000
set_option maxHeartbeats 4000000
/-! several clauses «except X as n», one name n for all -/
namespace MaX
open PySem PySem.Spec PyProof.Rows L2
abbrev Cl := Value × (Addr → Value → Option Addr → TS)
/-- what the clauses wish of an error of the body -/
def wMA (K : PySem.W.Frag) (i : Nat) (Wo : WX) (D : Ends) : List Cl → WX
  | [] => Wo
  | u :: r => wAs K u.1 i u.2 (wMA K i Wo D r) D
inductive HAs (X : Cx) (n : Str) : List ExceptHandler → List Cl → Prop
  | nil : HAs X n [] []
  | cons {x : Str} {c : Value} {ts : Addr → Value → Option Addr → TS} {b : Stmt} {bs : List Stmt} {np q : Pos} {hds : List ExceptHandler} {l : List Cl} (hc : Names X x c)
      (su : ∀ (a : Addr) (o : Obj) (k : Value) (d : Option Addr) (pn : List (Addr × Obj)), Zc k d o → (∃ vs, o.data = .fields vs) → PSs (X.suite a ((a, o) :: pn)) (b :: bs) (ts a k d)) (r : HAs X n hds l) :
      HAs X n (.ExceptHandler (some (.Name x np)) (some n) (b :: bs) q :: hds) ((c, ts) :: l)
section
variable {X : Cx} {n : Str} {i : Nat} {bd : List Stmt} {h0 : ExceptHandler} {hds : List ExceptHandler} {l : List Cl} {p : Pos} {tb : WX → TS} {Wo : WX}
theorem ps_try_asM (hs : X.stack = X.env :: X.outer) (hf : X.env.frame = some X.env.locals) (hN : X.N.Nodup) (hi : X.N[i]? = some n) (hn : X.env.kindOf n = some .local) (tk : Takes X Wo)
    (hb : ∀ (W : WX) (pn : List (Addr × Obj)) (xe : Value → Shared → Prop), Takes (X.tr pn xe) W → PassesOwn (model X.prog X.w) X.A X.env xe → PSs (X.tr pn xe) bd (tb W)) (hh : HAs X n (h0 :: hds) l) :
    PS X (.Try bd (h0 :: hds) [] [] p) (fun D σ H => tb (wMA X.K i Wo D l) D σ H) := by
  refine ⟨fun pi s σ H D I h => wpAny_Try_except ?_⟩
  have ok := I.ok
  have frm : X.A.frames = some (X.env :: X.outer) := ok.frames.trans (congrArg some hs)
  have lo : Loc X.env.scope n := .inl hn
  refine wpAny_mono ((hb (wMA X.K i Wo D l) (X.pn ++ pi) (fun er s1 => wpAny (model X.prog X.w) X.A (noteFrame er X.env) (fun _ s2 => wpAny (model X.prog X.w) X.A (setFlight er none) (fun _ s3 => wpAny (model X.prog X.w) X.A (handleBy er X.env (h0 :: hds)) (SP X pi D) X.xe s3) X.xe s2) X.xe s1)
    (fun u t xx => ?_) PassesOwn.looking).run [] s σ H D (I.toTry _) h) (fun fl s1 hsp => ?_) (fun _ _ he => he)
  · obtain ⟨a, B, sJ, qs, σ1, H1, k, d, rfl, J0, nb, up, sk, na, os, ag, w⟩ := xx
    have J := J0.ofTry (X := X) ok
    have sk1 : Sky B (X.env :: X.outer) a (Zc k d) X.env.locals t.heap := hs ▸ sk
    show wpAny _ X.A (noteFrame (.ref a) X.env) _ _ _
    refine Sky.land Zc.steady frm hf sk1 fun h3 f3 u3 => ?_
    have J3 : Inv X pi σ1 H1 { t with heap := h3 } := J.landed nb f3.1 (up.trans u3) os ag
    obtain ⟨o3, v3, e3, z3, d3⟩ := f3.there
    have nfr : a ∉ frs (X.env :: X.outer) := fun hm => by
      obtain ⟨_, o', e', g⟩ := f3.2.2.1.mem hm
      cases e3.symm.trans e'
      exact g _ d3
    have nL : a ≠ X.env.locals := fun z => nfr (List.mem_filterMap.mpr ⟨X.env, .head _, hf.trans (congrArg some z.symm)⟩)
    have nF : a ∉ X.fs := fun hm => let ⟨e, he, g⟩ := List.mem_filterMap.mp hm; nfr (List.mem_filterMap.mpr ⟨e, .tail _ he, g⟩)
    have S3 := J3.suite e3 d3 na nL nF
    have go : ∀ {hs' : List ExceptHandler} {l' : List Cl}, HAs X n hs' l' → wMA X.K i Wo D l' k d σ1 H1 → wpAny (model X.prog X.w) X.A (handleBy (.ref a) X.env hs') (SP X pi D) X.xe { t with heap := h3 } := by
      intro hs' l' hk
      induction hk with
      | nil =>
        refine fun w => wpAny_handleBy_nil ?_
        obtain ⟨_, _, _, o, vs, T, _, _, he, _, hd, g1, _⟩ := id f3
        unfold PySem.passOn
        refine wpAny_bind (wpAny_field he hd g1 ?_)
        have nn : ¬ ((Value.ref T == Value.none) = true) := by simp
        rw [if_neg nn]
        have fin : wpAny (model X.prog X.w) X.A (setFlight (.ref a) X.env.frame) (fun _ s4 => wpAny (model X.prog X.w) X.A (throw (.ref a) : Sem Flow) (SP X pi D) X.xe s4) X.xe { t with heap := h3 } := hf ▸ HandSPX.setFlight_upZ f3 fun h4 g4 u4 => wpAny_throw (tk _ _ ⟨a, B, sJ, pi, σ1, H1, k, d, rfl, J, nb, (up.trans u3).trans u4, .inr (.inr (hs ▸ g4)), na, os, ag, w⟩)
        first | exact wpAny_bind fin | exact wpAny_bind (wpAny_pure (wpAny_bind fin))
      | @cons x c ts b bs np q hds2 l2 hc su r ih =>
        rintro ⟨bb, hb1, yes, no⟩
        refine wpAny_handleBy_cons (codeAny_handlers_test ?_) (fun q => nomatch q)
        have LM := PySem.W.exm_one (M := model X.prog X.w) (e := a) J3.kIn (fun A Q E s g q => wpAny_typeOf_ref (g _ _ e3) (z3.1.symm ▸ q)) hb1
        have tst : ∀ {Q : Value → Shared → Prop} {E : Value → Shared → Prop}, Q c { t with heap := h3 } → wpAny (model X.prog X.w) (X.A.mark (some (.ref a))) (eval (.Name x np) X.env) Q E { t with heap := h3 } := fun {Q E} g => by
          rcases hc with ⟨hg, dbg, hm | ⟨hm, hv, nnm⟩⟩
          · exact ld_glob (X := X.suite a ((a, o3) :: (X.pn ++ pi))) S3 hg hm g dbg
          · exact ld_blt (X := X.suite a ((a, o3) :: (X.pn ++ pi))) S3 hg hm hv g nnm dbg
        refine tst (LM.here ?_)
        cases bb with
        | false => exact ih (no rfl)
        | true =>
          refine codeAny_handlers_suite_as (HandSPX.lands_againZ f3 fun h4 f4 u4 => ?_)
          have J4 : Inv X pi σ1 H1 { t with heap := h4 } := J.landed nb f4.1 ((up.trans u3).trans u4) os ag
          obtain ⟨o4, v4, e4, z4, d4⟩ := f4.there
          refine store_ok (X := X.suite a ((a, o4) :: (X.pn ++ pi))) (v := .ref a) (J4.suite e4 d4 na nL nF) hN hi lo rfl (fun s5 S5 => ?_) (.inr hn)
          refine wpAny_mono ((su a o4 k d (X.pn ++ pi) z4 ⟨_, d4⟩).run [] s5 _ H1 _ S5 (yes rfl a na)) (fun f s6 g6 => ?_) (fun _ _ z => z.elim)
          have fin : ∀ {σ6 : L2.St} {H6 : Hp} {Q : Shared → Prop}, Inv (X.suite a ((a, o4) :: (X.pn ++ pi))) [] σ6 H6 s6 → (∀ s7, Inv X pi (σ6.set i none) H6 s7 → Q s7) →
              wpAny (model X.prog X.w) X.A (do bindName X.env n .none; unbindBehindTheSuite X.env n q) (fun _ s7 => Q s7) X.xe s6 := fun {_ _ _} S6 hq => gone_ok (S6.unsuite ok) hN hi hn hq
          cases f with
          | next => exact let ⟨_, _, S6, g⟩ := g6; fin S6 fun s7 J7 => ⟨_, _, J7, g⟩
          | brk => exact let ⟨_, _, S6, g⟩ := g6; fin S6 fun s7 J7 => ⟨_, _, J7, g⟩
          | cont => exact let ⟨_, _, S6, g⟩ := g6; fin S6 fun s7 J7 => ⟨_, _, J7, g⟩
          | ret u => exact let ⟨_, _, _, S6, rv, g⟩ := g6; fin S6 fun s7 J7 => ⟨_, _, _, J7, rv, g⟩
    exact go hh w
  · cases fl with
    | next => exact let ⟨σ', H', J', g⟩ := hsp; wpAny_execs_nil ⟨σ', H', J'.ofTry ok, g⟩
    | brk => exact let ⟨σ', H', J', g⟩ := hsp; ⟨σ', H', J'.ofTry ok, g⟩
    | cont => exact let ⟨σ', H', J', g⟩ := hsp; ⟨σ', H', J'.ofTry ok, g⟩
    | ret u => exact let ⟨v, σ', H', J', rv, g⟩ := hsp; ⟨v, σ', H', J'.ofTry ok, rv, g⟩
end
end MaX

set_option Elab.async false
set_option linter.all false
set_option maxRecDepth 100000
set_option maxHeartbeats 2000000
/-! lambdas of a law, the loop over them -/
namespace Lt
open PySem PySem.Spec PyProof.Rows L2 NdefX LamX LmX MaX
def lamP : Expr → Arguments
  | .Lambda a _ _ _ => a
  | _ => ⟨[], [], none, [], [], none, []⟩
def lamS : Expr → Scope
  | .Lambda _ _ s _ => s
  | _ => { kind := .function, names := [], isGenerator := false, isCoroutine := false, more := [] }
def lamB : Expr → Expr
  | .Lambda _ b _ _ => b
  | e => e
def noX : Expr := .Constant .none 0 ⟨0, 0, 0, 0⟩
/-- the i-th of a list, the first argument of a call, the right side of a sum -/
def itemX (i : Nat) : Expr → Expr
  | .List es _ => es.getD i noX
  | .Tuple es _ _ => es.getD i noX
  | _ => noX
def argX (i : Nat) : Expr → Expr
  | .Call _ es _ _ => es.getD i noX
  | _ => noX
def rightX : Expr → Expr
  | .BinOp _ _ r _ => r
  | _ => noX
/-- the value of an assignment, of an expression's statement, what a for goes over -/
def valX : Stmt → Expr
  | .Assign _ v _ => v
  | .Expr v _ => v
  | .For _ it _ _ _ => it
  | .If t _ _ _ => t
  | .Return (some v) _ => v
  | _ => noX
abbrev q_lam : Str := "law.<locals>." ++ "<lambda>"
theorem lmO_is {f : Addr} {F : NF} {e : Expr} {dV : Value} : (∀ xs, LmO f F e dV ≠ .lst xs) ∧ (∀ ps, LmO f F e dV ≠ .tbl ps) := ⟨fun xs z => (by unfold LmO at z; cases z), fun xs z => (by unfold LmO at z; cases z)⟩
theorem codeO_is {c : Addr} {q : Str} : (∀ xs, CodeO c q ≠ .lst xs) ∧ (∀ ps, CodeO c q ≠ .tbl ps) := ⟨fun xs z => (by unfold CodeO at z; cases z), fun xs z => (by unfold CodeO at z; cases z)⟩
theorem extN_tm {H H' : Hp} (e : ExtN H H') : Tm H H' := ⟨fun _ _ h => e _ _ h (fun _ z => nomatch z), fun _ _ _ h => e _ _ h (fun _ z => nomatch z)⟩
theorem extN_of {H H' : Hp} (e : Same H H') : ExtN H H' := fun a o h _ => e a o h
theorem RowAt.extN {K : PySem.W.Frag} {H H' : Hp} {r sc : Addr} {ns : List Int} (h : RowAt K H r sc ns) (e : ExtN H H') : RowAt K H' r sc ns := by
  obtain ⟨a, b, c, R⟩ := h
  refine ⟨a, b, c, e _ _ R.at_ (fun _ z => nomatch z), ?_, R.a0, R.b0, R.b1⟩
  rcases R.sc with (z | ⟨ob, z⟩) | z
  · exact .inl (.inl (e _ _ z (fun _ z => nomatch z)))
  · exact .inl (.inr ⟨ob, e _ _ z (fun _ z => nomatch z)⟩)
  · exact .inr z
theorem stepR_tml {l : Addr} {H H' : Hp} {xs : List V} (s : StepR l H H') (h : H l = some (.lst xs)) : Tm H H' :=
  ⟨fun a ys e => s a _ (ne_of e h (fun z => nomatch z)) e, fun a o ys e => s a _ (ne_of e h (fun z => nomatch z)) e⟩
/-- all but what is at a and at b stays -/
def Kp2 (a b : Addr) (H H' : Hp) : Prop := ∀ c o, c ≠ a → c ≠ b → H c = some o → H' c = some o
theorem Kp2.refl (a b : Addr) (H : Hp) : Kp2 a b H H := fun _ _ _ _ h => h
theorem Kp2.trans {a b : Addr} {H H1 H2 : Hp} (x : Kp2 a b H H1) (y : Kp2 a b H1 H2) : Kp2 a b H H2 := fun c o h1 h2 h => y c o h1 h2 (x c o h1 h2 h)
theorem Kp2.of {a b : Addr} {H H' : Hp} (e : Same H H') : Kp2 a b H H' := fun c o _ _ h => e c o h
theorem Kp2.l {a b : Addr} {H H' : Hp} (e : StepR a H H') : Kp2 a b H H' := fun c o h _ => e c o h
theorem Kp2.r {a b : Addr} {H H' : Hp} (e : StepR b H H') : Kp2 a b H H' := fun c o _ h => e c o h
theorem Kp2.tm {a b : Addr} {H H' : Hp} {xs ys : List V} (s : Kp2 a b H H') (h1 : H a = some (.lst xs)) (h2 : H b = some (.lst ys)) : Tm H H' :=
  ⟨fun c zs e => s c _ (ne_of e h1 (fun z => nomatch z)) (ne_of e h2 (fun z => nomatch z)) e, fun c o zs e => s c _ (ne_of e h1 (fun z => nomatch z)) (ne_of e h2 (fun z => nomatch z)) e⟩
/-- what is no list stays -/
theorem Kp2.at_ {a b c : Addr} {H H' : Hp} {xs ys : List V} {o : HO} (s : Kp2 a b H H') (h1 : H a = some (.lst xs)) (h2 : H b = some (.lst ys)) (h : H c = some o) (n : ∀ zs, o ≠ .lst zs) : H' c = some o :=
  s c o (ne_of h h1 (n _)) (ne_of h h2 (n _)) h
/-- a list elsewhere may change -/
theorem RowAt.far {K : PySem.W.Frag} {H H' : Hp} {l r sc : Addr} {ns : List Int} (h : RowAt K H r sc ns) (hr : r ≠ l) (hs : sc ≠ l) (s : StepR l H H') : RowAt K H' r sc ns := by
  obtain ⟨a, b, c, R⟩ := h
  refine ⟨a, b, c, s _ _ hr R.at_, ?_, R.a0, R.b0, R.b1⟩
  rcases R.sc with (z | ⟨ob, z⟩) | z
  · exact .inl (.inl (s _ _ hs z))
  · exact .inl (.inr ⟨ob, s _ _ hs z⟩)
  · exact .inr z
/-- .. or the script stands in what the top has written -/
theorem RowAt.far' {K : PySem.W.Frag} {H0 H H' : Hp} {l r sc : Addr} {ns : List Int} (h0 : RowAt K H0 r sc ns) (hl : H0 l = none) (h : RowAt K H r sc ns) (s : StepR l H H') : RowAt K H' r sc ns := by
  have hr := h0.ne hl
  have s0 := h0.sq
  obtain ⟨a, b, c, R⟩ := h
  refine ⟨a, b, c, s _ _ hr R.at_, ?_, R.a0, R.b0, R.b1⟩
  rcases s0 with (s0 | ⟨ob, s0⟩) | s0
  · have hs : sc ≠ l := ne_of_none s0 hl
    rcases R.sc with (z | ⟨ob, z⟩) | z
    · exact .inl (.inl (s _ _ hs z))
    · exact .inl (.inr ⟨ob, s _ _ hs z⟩)
    · exact .inr z
  · have hs : sc ≠ l := ne_of_none s0 hl
    rcases R.sc with (z | ⟨ob, z⟩) | z
    · exact .inl (.inl (s _ _ hs z))
    · exact .inl (.inr ⟨ob, s _ _ hs z⟩)
    · exact .inr z
  · exact .inr s0
theorem dflt_of {X : Cx} {pins : List (Addr × Obj)} {σ : L2.St} {H : Hp} {s : Shared} {p : Addr} {v : V} (I : Inv X pins σ H s) (h : H p = some (.tup [v])) : ∃ u o n, RelV v u ∧ s.heap.get? p = some o ∧ o.data = .seq #[u] n := by
  obtain ⟨_, its, r, o, ho, _, n, hd⟩ := I.hok p _ h
  cases r with
  | cons r t =>
    cases t
    exact ⟨_, o, n, r, ho, hd⟩
theorem exm_not {K : PySem.W.Frag} {S T : Addr} (h1 : PySem.W.subIn K (.ref S) (.type "BaseException") = some true) (h2 : PySem.W.isClsIn K S = true) (h3 : PySem.W.typeIn K (.ref S) = some (.type "type")) (h4 : PySem.W.subIn K (.ref T) (.ref S) = some false) : PySem.W.exmOne K (.ref T) (.ref S) = some false := by
  have i2 : (PySem.W.clsIn K S).isSome = true := h2
  have a : (if ((PySem.W.clsIn K S).isSome && PySem.W.typeIn K (.ref S) == some (.type "type")) = true then PySem.W.subIn K (.ref T) (.ref S) else none) = some false := by
    rw [if_pos (by rw [i2, h3]; rfl)]
    exact h4
  have b : (PySem.W.subIn K (.ref S) (.type "BaseException") == some true) = true := by
    rw [h1]
    rfl
  exact (if_pos b).trans a
theorem Tabs.rowX {K : PySem.W.Frag} {H H' : Hp} {r sc : Addr} {ns : List Int} {T : List (Addr × Str)} (ra : RowAt K H r sc ns) (s : StepR r H H') (h : Tabs T H) : Tabs T H' := fun p hp => by
  obtain ⟨x, y, z, R⟩ := ra
  obtain ⟨ps, h1, h2, h3⟩ := h p hp
  refine ⟨ps, s _ _ (ne_of h1 R.at_ (fun z => nomatch z)) h1, h2, fun pos cv hc => ?_⟩
  obtain ⟨c, e1, e2⟩ := h3 pos cv hc
  exact ⟨c, e1, s _ _ (ne_of e2 R.at_ (codeO_is.1 _)) e2⟩
end Lt

set_option Elab.async false
set_option linter.all false
set_option maxRecDepth 100000
set_option maxHeartbeats 2000000
namespace Lt
open PySem PySem.Spec PyProof.Rows L2 NdefX LamX LmX
/-- a name of a text -/
def Cs (mg : Str → Option Value) (x z : Str) : Prop := ∃ t, mg x = some (.str z t)
/-- a name of a tuple of texts -/
def Ct (K : PySem.W.Frag) (mg : Str → Option Value) (x : Str) (zs : List Str) : Prop := ∃ J : Addr, mg x = some (.ref J) ∧ ∀ H, SqT K H J (zs.map V.str)
def clsB : Stmt → List Stmt
  | .ClassDef _ _ _ b _ _ _ _ _ _ _ => b
  | _ => []
def initS (st : Stmt) : Stmt := (clsB st).getD 0 (.Pass ⟨0, 0, 0, 0⟩)
section
variable {P : Program} {w : World} {K : PySem.W.Frag} {mg : Str → Option Value} {base : Heap}
/-- a class's own line: an error is what «except» of its class names -/
theorem exm_own {S : Addr} (h1 : PySem.W.subIn K (.ref S) (.type "BaseException") = some true) (h2 : PySem.W.isClsIn K S = true) (h3 : PySem.W.typeIn K (.ref S) = some (.type "type")) (h4 : PySem.W.subIn K (.ref S) (.ref S) = some true) : PySem.W.exmOne K (.ref S) (.ref S) = some true := by
  have i2 : (PySem.W.clsIn K S).isSome = true := h2
  have a : (if ((PySem.W.clsIn K S).isSome && PySem.W.typeIn K (.ref S) == some (.type "type")) = true then PySem.W.subIn K (.ref S) (.ref S) else none) = some true := by
    rw [if_pos (by rw [i2, h3]; rfl)]
    exact h4
  have b : (PySem.W.subIn K (.ref S) (.type "BaseException") == some true) = true := by
    rw [h1]
    rfl
  exact (if_pos b).trans a
structure ErrFs (K : PySem.W.Frag) (mg : Str → Option Value) (x fld : Str) (C : Addr) (st : Stmt) : Prop where
  g : mg x = some (.ref C)
  cls : ∃ nm q N bs bm sn sub ab col dd k0 k1 k2 k3 k5, K.lookup C = some (excClassObj nm q C N bs bm true sn sub ab col dd k0 k1 k2 k3 k5 "ValueError.__new__") ∧ PySem.HandSPX.refsVE bm = true
  sa : PySem.W.findIn K (.ref C) "__setattr__" = some (some (.builtin "object.__setattr__"))
  ga : PySem.W.findIn K (.ref C) "__getattribute__" = some (some (.builtin "BaseException.__getattribute__"))
  gg : PySem.W.findIn K (.ref C) "__getattr__" = some none
  no : PySem.W.findIn K (.ref C) fld = some none
  kC : PySem.W.keepIn K (.ref C) = true
  eC : PySem.W.subIn K (.ref C) (.type "BaseException") = some true
  tC : PySem.W.typeIn K (.ref C) = some (.type "type")
  hC : PySem.W.hasDictIn K C = true
  iC : PySem.W.isClsIn K C = true
  sC : PySem.W.subIn K (.ref C) (.ref C) = some true
  init : ∃ fI fd, PySem.W.findIn K (.ref C) "__init__" = some (some (.ref fI)) ∧ PySem.W.typeIn K (.ref fI) = some (.type "function") ∧ Binds K fd ["self", fld] [] ∧ Fun K "__init__" (x ++ ".__init__") (initS st) fI fd
theorem ErrFs.errI {x fld : Str} {C : Addr} {st : Stmt} (F : ErrFs K mg x fld C st) (ok : ∀ {fI fd}, Fun K "__init__" (x ++ ".__init__") (initS st) fI fd → FnOk P w K mg base CX0 1 fI fd ["self", fld] (spInit K fld)) : ErrI P w K mg base x fld C := by
  obtain ⟨fI, fd, h1, h2, h3, h4⟩ := F.init
  exact ⟨⟨F.cls, F.sa, F.eC, F.tC, F.kC⟩, F.g, F.no, ⟨fI, fd, h1, h2, h3, ok h4⟩, ⟨F.ga, F.gg, F.eC, F.hC⟩, exm_own F.eC F.iC F.tC F.sC⟩
end
theorem top_mk {K : PySem.W.Frag} {h : Heap} {mg : Str → Option Value} {x : Str} {st : Stmt} {ps : List Str} {f : Addr} {oc kV doc pm cdv ct : Value} {od an : Option Addr} {osl : Array (Option Value)} (X : K.In h) (G : h.Ns mainGlobals mg)
    (a : PySem.W.nsIn K mainGlobals x = some (some (.ref f))) (l : K.lookup f = some ⟨oc, od, .func (PySem.W.fnOf x x (defArgs st) (defBody st) (defScope st) .none kV doc pm an cdv ct), osl⟩) (c : PySem.W.codeIn K cdv x = true) (k : PySem.W.keepIn K (.ref f) = true)
    (hb : ∀ (kV doc pm : Value) (an : Option Addr) (cdv ct : Value) (us : List Value), us.length = ps.length → bindArgs (PySem.W.fnOf x x (defArgs st) (defBody st) (defScope st) .none kV doc pm an cdv ct) ⟨us, []⟩ = pure (ps.zip us)) : Top K mg x st ps :=
  ⟨f, _, PySem.W.mg_of X G a, fun_mk l c k, (fun_mk l c k).binds hb⟩
abbrev TopX {K : PySem.W.Frag} {h : Heap} (_ : K.In h) (mg : Str → Option Value) (x : Str) (st : Stmt) (ps : List Str) : Prop := Top K mg x st ps
abbrev CtX {K : PySem.W.Frag} {h : Heap} (_ : K.In h) (mg : Str → Option Value) (x : Str) (zs : List Str) : Prop := Ct K mg x zs
abbrev ErrX {K : PySem.W.Frag} {h : Heap} (_ : K.In h) (mg : Str → Option Value) (x fld : Str) (C : Addr) (st : Stmt) : Prop := ErrFs K mg x fld C st
abbrev NoX {K : PySem.W.Frag} {h : Heap} (_ : K.In h) (mg : Str → Option Value) (x : Str) (C : Addr) : Prop := Err0 K mg x C
theorem cn_mk {K : PySem.W.Frag} {h : Heap} {mg : Str → Option Value} {x : Str} {i : Int} {v : Value} (X : K.In h) (G : h.Ns mainGlobals mg) (a : PySem.W.nsIn K mainGlobals x = some (some v)) (b : ∃ t, v = .int i t) : Cn mg x i := by
  obtain ⟨t, rfl⟩ := b
  exact ⟨t, PySem.W.mg_of X G a⟩
theorem cs_mk {K : PySem.W.Frag} {h : Heap} {mg : Str → Option Value} {x z : Str} {v : Value} (X : K.In h) (G : h.Ns mainGlobals mg) (a : PySem.W.nsIn K mainGlobals x = some (some v)) (b : ∃ t, v = .str z t) : Cs mg x z := by
  obtain ⟨t, rfl⟩ := b
  exact ⟨t, PySem.W.mg_of X G a⟩
theorem ct_mk {K : PySem.W.Frag} {h : Heap} {mg : Str → Option Value} {x : Str} {zs : List Str} {J : Addr} {o : Obj} (X : K.In h) (G : h.Ns mainGlobals mg) (a : PySem.W.nsIn K mainGlobals x = some (some (.ref J))) (l : K.lookup J = some o)
    (b : ∃ (its : Array Value) (n : Nat), o.cls = .type "tuple" ∧ o.data = .seq its n ∧ its.size ≤ sizeLine ∧ Vals (zs.map V.str) its.toList) : Ct K mg x zs := by
  obtain ⟨its, n, h1, h2, h3, h4⟩ := b
  exact ⟨J, PySem.W.mg_of X G a, fun H => .inr ⟨o, its, n, l, h1, h2, h3, h4⟩⟩
theorem init_mk {K : PySem.W.Frag} {x fld : Str} {C fI : Addr} {st : Stmt} {oc kV doc pm cdv ct : Value} {od an : Option Addr} {osl : Array (Option Value)} (a : PySem.W.findIn K (.ref C) "__init__" = some (some (.ref fI))) (t : PySem.W.typeIn K (.ref fI) = some (.type "function"))
    (l : K.lookup fI = some ⟨oc, od, .func (PySem.W.fnOf "__init__" (x ++ ".__init__") (defArgs (initS st)) (defBody (initS st)) (defScope (initS st)) .none kV doc pm an cdv ct), osl⟩) (c : PySem.W.codeIn K cdv (x ++ ".__init__") = true) (k : PySem.W.keepIn K (.ref fI) = true)
    (hb : ∀ (kV doc pm : Value) (an : Option Addr) (cdv ct : Value) (us : List Value), us.length = (["self", fld] : List Str).length → bindArgs (PySem.W.fnOf "__init__" (x ++ ".__init__") (defArgs (initS st)) (defBody (initS st)) (defScope (initS st)) .none kV doc pm an cdv ct) ⟨us, []⟩ = pure ((["self", fld] : List Str).zip us)) :
    ∃ fI fd, PySem.W.findIn K (.ref C) "__init__" = some (some (.ref fI)) ∧ PySem.W.typeIn K (.ref fI) = some (.type "function") ∧ Binds K fd ["self", fld] [] ∧ Fun K "__init__" (x ++ ".__init__") (initS st) fI fd :=
  ⟨fI, _, a, t, (fun_mk l c k).binds hb, fun_mk l c k⟩
theorem err_mk {K : PySem.W.Frag} {h : Heap} {mg : Str → Option Value} {x fld : Str} {C N : Addr} {st : Stmt} {nm q : Str} {bs bm sub : List Value} {sn : List Str} {ab : Bool} {col : Option Bool} {dd : Option Addr} {k0 k1 k2 k3 k5 : Option Value} (X : K.In h) (G : h.Ns mainGlobals mg)
    (a : PySem.W.nsIn K mainGlobals x = some (some (.ref C))) (xL : K.lookup C = some (excClassObj nm q C N bs bm true sn sub ab col dd k0 k1 k2 k3 k5 "ValueError.__new__")) (rv : PySem.HandSPX.refsVE bm = true)
    (sa : PySem.W.findIn K (.ref C) "__setattr__" = some (some (.builtin "object.__setattr__"))) (ga : PySem.W.findIn K (.ref C) "__getattribute__" = some (some (.builtin "BaseException.__getattribute__"))) (gg : PySem.W.findIn K (.ref C) "__getattr__" = some none) (no : PySem.W.findIn K (.ref C) fld = some none)
    (kC : PySem.W.keepIn K (.ref C) = true) (eC : PySem.W.subIn K (.ref C) (.type "BaseException") = some true) (tC : PySem.W.typeIn K (.ref C) = some (.type "type")) (hC : PySem.W.hasDictIn K C = true) (iC : PySem.W.isClsIn K C = true) (sC : PySem.W.subIn K (.ref C) (.ref C) = some true)
    {fI : Addr} {oc kV doc pm cdv ct : Value} {od an : Option Addr} {osl : Array (Option Value)} (i1 : PySem.W.findIn K (.ref C) "__init__" = some (some (.ref fI))) (i2 : PySem.W.typeIn K (.ref fI) = some (.type "function"))
    (i3 : K.lookup fI = some ⟨oc, od, .func (PySem.W.fnOf "__init__" (x ++ ".__init__") (defArgs (initS st)) (defBody (initS st)) (defScope (initS st)) .none kV doc pm an cdv ct), osl⟩) (i4 : PySem.W.codeIn K cdv (x ++ ".__init__") = true) (i5 : PySem.W.keepIn K (.ref fI) = true)
    (hb : ∀ (kV doc pm : Value) (an : Option Addr) (cdv ct : Value) (us : List Value), us.length = (["self", fld] : List Str).length → bindArgs (PySem.W.fnOf "__init__" (x ++ ".__init__") (defArgs (initS st)) (defBody (initS st)) (defScope (initS st)) .none kV doc pm an cdv ct) ⟨us, []⟩ = pure ((["self", fld] : List Str).zip us)) : ∃ C, ErrFs K mg x fld C st :=
  ⟨C, PySem.W.mg_of X G a, ⟨_, _, _, _, _, _, _, _, _, _, _, _, _, _, _, xL, rv⟩, sa, ga, gg, no, kC, eC, tC, hC, iC, sC, init_mk i1 i2 i3 i4 i5 hb⟩
theorem no_mk {K : PySem.W.Frag} {h : Heap} {mg : Str → Option Value} {x : Str} {C : Addr} (X : K.In h) (G : h.Ns mainGlobals mg) (a : PySem.W.nsIn K mainGlobals x = some (some (.ref C)))
    (qx : PySem.W.excIn K C [.type "ValueError", .type "Exception", .type "BaseException", .type "object"] "ValueError.__new__" = true) (kC : PySem.W.keepIn K (.ref C) = true) (eC : PySem.W.subIn K (.ref C) (.type "BaseException") = some true) (tC : PySem.W.typeIn K (.ref C) = some (.type "type")) (iC : PySem.W.isClsIn K C = true)
    (sC : PySem.W.subIn K (.ref C) (.ref C) = some true) : ∃ C, Err0 K mg x C := ⟨C, qx, PySem.W.mg_of X G a, kC, eC, tC, exm_own eC iC tC sC⟩
abbrev ErrE {K : PySem.W.Frag} {h : Heap} (_ : K.In h) (mg : Str → Option Value) (x fld : Str) (st : Stmt) : Prop := ∃ C, ErrFs K mg x fld C st
abbrev NoE {K : PySem.W.Frag} {h : Heap} (_ : K.In h) (mg : Str → Option Value) (x : Str) : Prop := ∃ C, Err0 K mg x C

/-! ### methods, properties, __init__ -/
theorem meth_mk {K : PySem.W.Frag} {C f : Addr} {m q : Str} {st : Stmt} {ps : List Str} {oc kV doc pm cdv ct : Value} {od an : Option Addr} {osl : Array (Option Value)} (a : PySem.W.findIn K (.ref C) m = some (some (.ref f))) (i : PySem.W.isFn K (.ref f) = true)
    (l : K.lookup f = some ⟨oc, od, .func (PySem.W.fnOf m q (defArgs st) (defBody st) (defScope st) .none kV doc pm an cdv ct), osl⟩) (c : PySem.W.codeIn K cdv q = true) (k : PySem.W.keepIn K (.ref f) = true)
    (hb : ∀ (kV doc pm : Value) (an : Option Addr) (cdv ct : Value) (us : List Value), us.length = ps.length → bindArgs (PySem.W.fnOf m q (defArgs st) (defBody st) (defScope st) .none kV doc pm an cdv ct) ⟨us, []⟩ = pure (ps.zip us)) : MethF K C m q st ps :=
  ⟨⟨f, _, ⟨a, i, k⟩, (fun_mk l c k).binds hb, fun_mk l c k⟩⟩
theorem prop_mk {K : PySem.W.Frag} {C p f : Addr} {m q : Str} {st : Stmt} {rest : List Value} {oc kV doc pm cdv ct : Value} {od an : Option Addr} {osl : Array (Option Value)} (a : PySem.W.findIn K (.ref C) m = some (some (.ref p)))
    (g : PySem.W.specialIn K (.ref p) "__get__" = some (some (.builtin "property.__get__"))) (t : PySem.W.takesIn K (.ref p) = some true) (rc : PySem.W.recIn K p "property" = some (.ref f :: rest))
    (l : K.lookup f = some ⟨oc, od, .func (PySem.W.fnOf m q (defArgs st) (defBody st) (defScope st) .none kV doc pm an cdv ct), osl⟩) (c : PySem.W.codeIn K cdv q = true) (k : PySem.W.keepIn K (.ref f) = true)
    (hb : ∀ (kV doc pm : Value) (an : Option Addr) (cdv ct : Value) (us : List Value), us.length = (["self"] : List Str).length → bindArgs (PySem.W.fnOf m q (defArgs st) (defBody st) (defScope st) .none kV doc pm an cdv ct) ⟨us, []⟩ = pure ((["self"] : List Str).zip us)) : PropF K C m q st :=
  ⟨⟨p, f, _, ⟨a, g, t, rest, rc⟩, (fun_mk l c k).binds hb, fun_mk l c k⟩⟩
theorem cinit_mk {K : PySem.W.Frag} {mg : Str → Option Value} {C f : Addr} {x : Str} {st : Stmt} {ps : List Str} {oc kV doc pm cdv ct : Value} {od an : Option Addr} {osl : Array (Option Value)} (g : mg x = some (.ref C)) (mk : PySem.W.makesIn K C = true) (kc : PySem.W.keepIn K (.ref C) = true) (a : PySem.W.findIn K (.ref C) "__init__" = some (some (.ref f))) (i : PySem.W.isFn K (.ref f) = true)
    (l : K.lookup f = some ⟨oc, od, .func (PySem.W.fnOf "__init__" (x ++ ".__init__") (defArgs st) (defBody st) (defScope st) .none kV doc pm an cdv ct), osl⟩) (c : PySem.W.codeIn K cdv (x ++ ".__init__") = true) (k : PySem.W.keepIn K (.ref f) = true)
    (hb : ∀ (kV doc pm : Value) (an : Option Addr) (cdv ct : Value) (us : List Value), us.length = ps.length → bindArgs (PySem.W.fnOf "__init__" (x ++ ".__init__") (defArgs st) (defBody st) (defScope st) .none kV doc pm an cdv ct) ⟨us, []⟩ = pure (ps.zip us)) : InitF K mg C x st ps :=
  ⟨⟨f, _, g, ⟨mk, a, i, kc⟩, (fun_mk l c k).binds hb, fun_mk l c k⟩⟩
/-- the class at C stands under x -/
structure ClsA (K : PySem.W.Frag) (mg : Str → Option Value) (x : Str) (C : Addr) : Prop where
  g : mg x = some (.ref C)
  cl : Cls K C
  mks : PySem.W.makesIn K C = true
  kc : PySem.W.keepIn K (.ref C) = true
theorem cls_mk {K : PySem.W.Frag} {h : Heap} {mg : Str → Option Value} {x : Str} {C : Addr} (X : K.In h) (G : h.Ns mainGlobals mg) (a : PySem.W.nsIn K mainGlobals x = some (some (.ref C)))
    (pg : PySem.W.plainGet K C Str.empty = true) (hd : PySem.W.hasDictIn K C = true) (po : PySem.W.plainOver K C = true) (sa : PySem.W.findIn K (.ref C) "__setattr__" = some (some (.builtin "object.__setattr__"))) (mk : PySem.W.makesIn K C = true) (kc : PySem.W.keepIn K (.ref C) = true) : ∃ C, ClsA K mg x C :=
  ⟨C, ⟨PySem.W.mg_of X G a, ⟨pg, hd, po, sa⟩, mk, kc⟩⟩
theorem one_ref {K : PySem.W.Frag} {h : Heap} {mg : Str → Option Value} {x : Str} {C D : Addr} (X : K.In h) (G : h.Ns mainGlobals mg) (g : mg x = some (.ref C)) (a : PySem.W.nsIn K mainGlobals x = some (some (.ref D))) : D = C := by
  have e := (PySem.W.mg_of X G a).symm.trans g
  cases e
  rfl
theorem noattr_mk {K : PySem.W.Frag} {h : Heap} {mg : Str → Option Value} {x f : Str} {C D : Addr} (X : K.In h) (G : h.Ns mainGlobals mg) (g : mg x = some (.ref C)) (a : PySem.W.nsIn K mainGlobals x = some (some (.ref D))) (n : PySem.W.findIn K (.ref D) f = some none) : NoAttr K C f := one_ref X G g a ▸ n
theorem meth_at {K : PySem.W.Frag} {h : Heap} {mg : Str → Option Value} {x : Str} {C D f : Addr} {m q : Str} {st : Stmt} {ps : List Str} {oc kV doc pm cdv ct : Value} {od an : Option Addr} {osl : Array (Option Value)} (X : K.In h) (G : h.Ns mainGlobals mg) (g : mg x = some (.ref C)) (a0 : PySem.W.nsIn K mainGlobals x = some (some (.ref D)))
    (a : PySem.W.findIn K (.ref D) m = some (some (.ref f))) (i : PySem.W.isFn K (.ref f) = true) (l : K.lookup f = some ⟨oc, od, .func (PySem.W.fnOf m q (defArgs st) (defBody st) (defScope st) .none kV doc pm an cdv ct), osl⟩) (c : PySem.W.codeIn K cdv q = true) (k : PySem.W.keepIn K (.ref f) = true)
    (hb : ∀ (kV doc pm : Value) (an : Option Addr) (cdv ct : Value) (us : List Value), us.length = ps.length → bindArgs (PySem.W.fnOf m q (defArgs st) (defBody st) (defScope st) .none kV doc pm an cdv ct) ⟨us, []⟩ = pure (ps.zip us)) : MethF K C m q st ps := one_ref X G g a0 ▸ meth_mk a i l c k hb
theorem prop_at {K : PySem.W.Frag} {h : Heap} {mg : Str → Option Value} {x : Str} {C D p f : Addr} {m q : Str} {st : Stmt} {rest : List Value} {oc kV doc pm cdv ct : Value} {od an : Option Addr} {osl : Array (Option Value)} (X : K.In h) (G : h.Ns mainGlobals mg) (g : mg x = some (.ref C)) (a0 : PySem.W.nsIn K mainGlobals x = some (some (.ref D)))
    (a : PySem.W.findIn K (.ref D) m = some (some (.ref p))) (gt : PySem.W.specialIn K (.ref p) "__get__" = some (some (.builtin "property.__get__"))) (t : PySem.W.takesIn K (.ref p) = some true) (rc : PySem.W.recIn K p "property" = some (.ref f :: rest))
    (l : K.lookup f = some ⟨oc, od, .func (PySem.W.fnOf m q (defArgs st) (defBody st) (defScope st) .none kV doc pm an cdv ct), osl⟩) (c : PySem.W.codeIn K cdv q = true) (k : PySem.W.keepIn K (.ref f) = true)
    (hb : ∀ (kV doc pm : Value) (an : Option Addr) (cdv ct : Value) (us : List Value), us.length = (["self"] : List Str).length → bindArgs (PySem.W.fnOf m q (defArgs st) (defBody st) (defScope st) .none kV doc pm an cdv ct) ⟨us, []⟩ = pure ((["self"] : List Str).zip us)) : PropF K C m q st := one_ref X G g a0 ▸ prop_mk a gt t rc l c k hb
theorem cinit_at {K : PySem.W.Frag} {h : Heap} {mg : Str → Option Value} {C D f : Addr} {x : Str} {st : Stmt} {ps : List Str} {oc kV doc pm cdv ct : Value} {od an : Option Addr} {osl : Array (Option Value)} (X : K.In h) (G : h.Ns mainGlobals mg) (A : ClsA K mg x C) (a0 : PySem.W.nsIn K mainGlobals x = some (some (.ref D))) (a : PySem.W.findIn K (.ref D) "__init__" = some (some (.ref f))) (i : PySem.W.isFn K (.ref f) = true)
    (l : K.lookup f = some ⟨oc, od, .func (PySem.W.fnOf "__init__" (x ++ ".__init__") (defArgs st) (defBody st) (defScope st) .none kV doc pm an cdv ct), osl⟩) (c : PySem.W.codeIn K cdv (x ++ ".__init__") = true) (k : PySem.W.keepIn K (.ref f) = true)
    (hb : ∀ (kV doc pm : Value) (an : Option Addr) (cdv ct : Value) (us : List Value), us.length = ps.length → bindArgs (PySem.W.fnOf "__init__" (x ++ ".__init__") (defArgs st) (defBody st) (defScope st) .none kV doc pm an cdv ct) ⟨us, []⟩ = pure (ps.zip us)) : InitF K mg C x st ps := cinit_mk A.g A.mks A.kc (one_ref X G A.g a0 ▸ a) i l c k hb
abbrev NoAttrX {K : PySem.W.Frag} {h : Heap} (_ : K.In h) (C : Addr) (f : Str) : Prop := NoAttr K C f
abbrev ExmNoX {K : PySem.W.Frag} {h : Heap} (_ : K.In h) (C D : Addr) : Prop := PySem.W.exmOne K (.ref C) (.ref D) = some false
abbrev ClsE {K : PySem.W.Frag} {h : Heap} (_ : K.In h) (mg : Str → Option Value) (x : Str) : Prop := ∃ C, ClsA K mg x C
abbrev InitFX {K : PySem.W.Frag} {h : Heap} (_ : K.In h) (mg : Str → Option Value) (C : Addr) (x : Str) (st : Stmt) (ps : List Str) : Prop := InitF K mg C x st ps
abbrev PropFX {K : PySem.W.Frag} {h : Heap} (_ : K.In h) (C : Addr) (m q : Str) (st : Stmt) : Prop := PropF K C m q st
abbrev MethFX {K : PySem.W.Frag} {h : Heap} (_ : K.In h) (C : Addr) (m q : Str) (st : Stmt) (ps : List Str) : Prop := MethF K C m q st ps
/-- one error is no other -/
theorem exm_no {K : PySem.W.Frag} {h : Heap} {mg : Str → Option Value} {x y : Str} {C1 C2 S T : Addr} (X : K.In h) (G : h.Ns mainGlobals mg) (e1 : mg x = some (.ref C1)) (e2 : mg y = some (.ref C2)) (a1 : PySem.W.nsIn K mainGlobals x = some (some (.ref T))) (a2 : PySem.W.nsIn K mainGlobals y = some (some (.ref S)))
    (h1 : PySem.W.subIn K (.ref S) (.type "BaseException") = some true) (h2 : PySem.W.isClsIn K S = true) (h3 : PySem.W.typeIn K (.ref S) = some (.type "type")) (h4 : PySem.W.subIn K (.ref T) (.ref S) = some false) : PySem.W.exmOne K (.ref C1) (.ref C2) = some false := by
  rw [← one_ref X G e1 a1, ← one_ref X G e2 a2]
  exact exm_not h1 h2 h3 h4
/-! ### a law with lambdas -/
def spLam (K : PySem.W.Frag) (Pt : Addr) : Sp := fun vs H Q _ => ∃ (l : Addr) (ns : List Int), vs = [.ref l] ∧ SqL K H l (ns.map V.int) ∧ Tabs [(Pt, q_lam)] H ∧ ∀ H', Q (.bl true) H'
theorem lam_fn {P : Program} {w : World} {K : PySem.W.Frag} {mg : Str → Option Value} {base : Heap} {c Pt : Addr} {lvl : Nat} {N : List Str} {st : Stmt} (S : FnScope N ["script"] (defScope st)) {fa : Addr} {oc dV kV doc pm ct : Value} {an od : Option Addr} {osl : Array (Option Value)}
    (lk : K.lookup fa = some ⟨oc, od, .func (PySem.W.fnOf "law" "law" (defArgs st) (defBody st) (defScope st) dV kV doc pm an (.ref c) ct), osl⟩) (hcd : PySem.W.codeIn K (.ref c) "law" = true)
    (hall : ∀ (A : Around) (outer : List Env) (s0 : Shared) (H0 : Hp) (E0' : XK), Room lvl (cxOf CX0 P w K mg base N "law" (defScope st) fa (.ref c) A outer s0 H0 E0').A → ∃ t, PSs (cxOf CX0 P w K mg base N "law" (defScope st) fa (.ref c) A outer s0 H0 E0') (defBody st) t ∧ ∀ (D : Ends) (H : Hp) (vs : List V) (Q : VK), D.rt = Q → spLam K Pt vs H Q C8.E0 → t D (start N vs) H) :
    FnOk P w K mg base CX0 (lvl + 1) fa (PySem.W.fnOf "law" "law" (defArgs st) (defBody st) (defScope st) dV kV doc pm an (.ref c) ct) ["script"] (spLam K Pt) := by
  refine fn_of lk hcd S (fun vs H Q E h => ?_) fun A outer s H vs Q E hr h => ?_
  · obtain ⟨l, ns, rfl, _⟩ := h
    rfl
  · obtain ⟨t, ht, qt⟩ := hall A outer s H E hr
    exact ⟨t, ht, qt _ H vs Q rfl h⟩
theorem lam_at {l : PySem.W.OpenLaw} {w : World} {K : PySem.W.Frag} {h : Heap} {mg : Str → Option Value} {lvl : Nat} {fa f c Pt : Addr} {oc kV doc pm ct e : Value} {an od dd : Option Addr} {osl sl : Array (Option Value)} {vs : Array Value} {N : List Str} {st : Stmt} (S : FnScope N ["script"] (defScope st)) (X : K.In h) (hfa : mg "law" = some (.ref fa)) (own : OwnTab K fa h)
    (G : h.Ns mainGlobals mg) (a : PySem.W.nsIn K mainGlobals "law" = some (some (.ref f)))
    (lk : K.lookup f = some ⟨oc, od, .func (PySem.W.fnOf "law" "law" (defArgs st) (defBody st) (defScope st) .none kV doc pm an (.ref c) ct), osl⟩) (hcd : PySem.W.codeIn K (.ref c) "law" = true)
    (lc : K.lookup c = some ⟨e, dd, .fields vs, sl⟩) (lp : vs[11]? = some (.ref Pt)) (hh : ∀ K' : PySem.W.Frag, K'.lookup c = some ⟨e, dd, .fields vs, sl⟩ → PySem.W.codeHdIn K' c Pt = true) (np : K.lookup Pt = none) (hb : ∀ s u, BindsTo s (PySem.W.fnOf "law" "law" (defArgs st) (defBody st) (defScope st) .none kV doc pm an (.ref c) ct) ⟨[u], []⟩ [("script", u)])
    (hall : ∀ (base : Heap), TabB base mg c Pt → ∀ (A : Around) (outer : List Env) (s0 : Shared) (H0 : Hp) (E0' : XK), Room lvl (cxOf CX0 l.prog w K mg base N "law" (defScope st) f (.ref c) A outer s0 H0 E0').A → ∃ t, PSs (cxOf CX0 l.prog w K mg base N "law" (defScope st) f (.ref c) A outer s0 H0 E0') (defBody st) t ∧ ∀ (D : Ends) (H : Hp) (vs : List V) (Q : VK), D.rt = Q → spLam K Pt vs H Q C8.E0 → t D (start N vs) H) :
    LawAtS l w K CX0 (lvl + 1) 63 "script" mg fa h := by
  have ef := hfa.symm.trans (PySem.W.mg_of X G a)
  cases ef
  refine ⟨_, [(c, Pt)], spLam K Pt, fun p hp => ?_, fun p hp => ?_, fun p hp => ?_, hb, fun H a ns _ _ hH hS => ⟨a, ns, rfl, hS, fun p hp => ?_, fun _ => rfl⟩, fun base _ _ hB => lam_fn S lk hcd (hall base (hB _ List.mem_cons_self))⟩
  · rw [List.mem_singleton.mp hp]
    exact own c Pt _ _ e dd vs sl lk rfl rfl lc lp
  · rw [List.mem_singleton.mp hp]
    exact np
  · rw [List.mem_singleton.mp hp]
    exact PySem.W.codeHd_of_K X (hh K lc)
  · rw [List.mem_singleton.mp hp]
    exact TabS.nil (hH _ List.mem_cons_self)
end Lt

set_option Elab.async false
set_option linter.all false
set_option maxRecDepth 100000
set_option maxHeartbeats 1000000
namespace Lt
open PySem PySem.Spec PyProof.Rows L2 NdefX LamX LmX
section
variable {P : Program} {w : World} {K : PySem.W.Frag} {mg : Str → Option Value} {base : Heap}
theorem init_BadSign {fI : Addr} {fd : FuncData} (F : Fun K "__init__" "BadSign.__init__" (initS s_BadSign) fI fd) : FnOk P w K mg base CX0 1 fI fd ["self", "place"] (spInit K "place") := by
  refine F.ok (N := ["self", "place"]) ⟨rfl, rfl, rfl, by decide +kernel, rfl, by decide +kernel, by decide +kernel⟩ (fun vs H Q E h => ?_) (fun cdv A outer s H vs Q E hr h => ?_)
  · obtain ⟨a, C, v, rfl, _⟩ := h
    rfl
  · obtain ⟨a, C, v, rfl, ox, no, ha, q⟩ := h
    exact ⟨_, pss_one (ps_ost (pv 0) (pv 1)), _, rfl, _, rfl, a, C, rfl, ox, no, .inl ⟨ha, fun dx h1 h2 => q dx h1 h2⟩⟩
end
/-- what the top leaves, but the law -/
structure TopFs (K : PySem.W.Frag) (mg : Str → Option Value) (C_BadSign : Addr) (C_BadTask : Addr) (C_BadNumber : Addr) (C_BadString : Addr) : Prop where
  bi : Bi mg
  b_sum : mg "sum" = none
  b_zip : mg "zip" = none
  b_max : mg "max" = none
  c_MOST_INPUTS : Cn mg "MOST_INPUTS" 6
  c_MOST_AROUND : Cn mg "MOST_AROUND" 20
  c_RUN_SIGNS : Cs mg "RUN_SIGNS" "abcdefghijklmnopqrstuvwxyz0123456789"
  c_JOINERS : Ct K mg "JOINERS" ["and", "or", "xor"]
  e_BadSign : ErrFs K mg "BadSign" "place" C_BadSign s_BadSign
  e_BadTask : Err0 K mg "BadTask" C_BadTask
  e_BadNumber : Err0 K mg "BadNumber" C_BadNumber
  e_BadString : Err0 K mg "BadString" C_BadString
  n_BadNumber_BadTask : PySem.W.exmOne K (.ref C_BadNumber) (.ref C_BadTask) = some false
  n_BadString_BadTask : PySem.W.exmOne K (.ref C_BadString) (.ref C_BadTask) = some false
  n_BadString_BadNumber : PySem.W.exmOne K (.ref C_BadString) (.ref C_BadNumber) = some false
  f_is_number : Top K mg "is_number" s_is_number ["value"]
  f_are_numbers : Top K mg "are_numbers" s_are_numbers ["value"]
  f_table_of : Top K mg "table_of" s_table_of ["inputs", "text"]
  f_all_of : Top K mg "all_of" s_all_of ["inputs"]
  f_polynomial : Top K mg "polynomial" s_polynomial ["prime", "table"]
  f_degree : Top K mg "degree" s_degree ["prime", "table"]
  f_check_inputs : Top K mg "check_inputs" s_check_inputs ["inputs"]
  f_check_prime : Top K mg "check_prime" s_check_prime ["prime"]
  f_check_table : Top K mg "check_table" s_check_table ["table"]
  f_inputs_of : Top K mg "inputs_of" s_inputs_of ["table"]
  f_input_table : Top K mg "input_table" s_input_table ["inputs", "own"]
  f_bits_of : Top K mg "bits_of" s_bits_of ["table"]
  f_part_of : Top K mg "part_of" s_part_of ["place"]
  f_factors_of : Top K mg "factors_of" s_factors_of ["prime", "table"]
  f_formula_tree : Top K mg "formula_tree" s_formula_tree ["inputs", "text"]
  f_placed_words : Top K mg "placed_words" s_placed_words ["text"]
  f_tree_from : Top K mg "tree_from" s_tree_from ["names", "words", "at", "around"]
  f_expected : Top K mg "expected" s_expected ["words", "at", "wanted"]
  f_worth_of : Top K mg "worth_of" s_worth_of ["tree", "leaves", "every"]
  f_law_taken : Top K mg "_law_taken" s_law_taken ["row", "many"]
  f_law_pick : Top K mg "_law_pick" s_law_pick ["row", "things"]
  f_law_alike : Top K mg "_law_alike" s_law_alike ["found", "due"]
  f_law_tree : Top K mg "_law_tree" s_law_tree ["row", "inputs", "deep"]
  f_law_text : Top K mg "_law_text" s_law_text ["row", "tree"]
  f_law_worth : Top K mg "_law_worth" s_law_worth ["tree", "bits"]
  f_law_bits : Top K mg "_law_bits" s_law_bits ["inputs"]
  f_law_parts : Top K mg "_law_parts" s_law_parts ["prime", "table"]
end Lt

set_option Elab.async false
set_option linter.all false
set_option maxRecDepth 100000
set_option maxHeartbeats 1000000
/-! formulas: words, what may stand, and the parser -/
namespace Lt
open PySem PySem.Spec PyProof.Rows L2
abbrev Tok := Nat × Str
def wNot : Str := "not"
def wOp : Str := "("
def wCl : Str := ")"
def wVoid : Str := ""
def joins : List Str := ["and", "or", "xor"]
inductive Nd
  | E
  | W
  | C
deriving DecidableEq
/-- what is wanted behind a word, none where it cannot stand -/
def stp (ns : List Str) : List Nd → Str → Option (List Nd)
  | [], _ => none
  | .E :: r, w => if w = wNot then some (.E :: r) else if w = wOp then some (.E :: .W :: .E :: .C :: r) else if w ∈ ns then some r else none
  | .W :: r, w => if w ∈ joins then some r else none
  | .C :: r, w => if w = wCl then some r else none
theorem stp_E {ns : List Str} {r : List Nd} {w : Str} : stp ns (.E :: r) w = if w = wNot then some (.E :: r) else if w = wOp then some (.E :: .W :: .E :: .C :: r) else if w ∈ ns then some r else none := rfl
theorem stp_W {ns : List Str} {r : List Nd} {w : Str} : stp ns (.W :: r) w = if w ∈ joins then some r else none := rfl
theorem stp_C {ns : List Str} {r : List Nd} {w : Str} : stp ns (.C :: r) w = if w = wCl then some r else none := rfl
/-- how many words stand, and what is wanted then -/
def mach (ns : List Str) : List Nd → List Str → Nat × List Nd
  | u, [] => (0, u)
  | u, w :: ws => match stp ns u w with
    | none => (0, u)
    | some u' => ((mach ns u' ws).1 + 1, (mach ns u' ws).2)
theorem mach_none {ns : List Str} {u : List Nd} {w : Str} {ws : List Str} (h : stp ns u w = none) : mach ns u (w :: ws) = (0, u) := by
  unfold mach
  rw [h]
theorem mach_some {ns : List Str} {u u' : List Nd} {w : Str} {ws : List Str} (h : stp ns u w = some u') : mach ns u (w :: ws) = ((mach ns u' ws).1 + 1, (mach ns u' ws).2) := by
  rw [mach, h]
/-- the parser: the words behind a formula, or the place of the word that cannot stand -/
def prs (ns : List Str) : Nat → Nat → List Tok → Except Nat (List Tok)
  | 0, _, _ => .error 0
  | _ + 1, _, [] => .error 0
  | f + 1, ar, (p, w) :: r =>
    if 20 < ar then .error p else if w ∈ ns then .ok r else if w = wNot then prs ns f (ar + 1) r else if w ≠ wOp then .error p else
      match prs ns f (ar + 1) r with
      | .error e => .error e
      | .ok [] => .error 0
      | .ok ((p2, w2) :: r2) => if w2 ∉ joins then .error p2 else
        match prs ns f (ar + 1) r2 with
        | .error e => .error e
        | .ok [] => .error 0
        | .ok ((p4, w4) :: r4) => if w4 ≠ wCl then .error p4 else .ok r4
def isOpen (w : Str) : Bool := decide (w = wNot) || decide (w = wOp)
def opens (ts : List Tok) : Nat := (ts.filter fun t => isOpen t.2).length
theorem opens_cons (t : Tok) (ts : List Tok) : opens (t :: ts) = (if isOpen t.2 = true then 1 else 0) + opens ts := by
  unfold opens
  rw [List.filter_cons]
  by_cases h : isOpen t.2 = true
  · rw [if_pos h, if_pos h, List.length_cons, Nat.add_comm]
  · rw [if_neg h, if_neg h, Nat.zero_add]
/-- behind all words stands the void one -/
def Ends1 (ts : List Tok) : Prop := ∃ r e, ts = r ++ [(e, wVoid)]
theorem Ends1.tl {t : Tok} {ts : List Tok} (h : Ends1 (t :: ts)) (ne : t.2 ≠ wVoid) : Ends1 ts := by
  obtain ⟨r, e, hr⟩ := h
  cases r with
  | nil =>
    injection hr with h1 _
    rw [h1] at ne
    exact absurd rfl ne
  | cons a r =>
    injection hr with _ h2
    exact ⟨r, e, h2⟩
theorem Ends1.ne {ts : List Tok} (h : Ends1 ts) : ts ≠ [] := by
  obtain ⟨r, e, rfl⟩ := h
  simp
/-- the names of inputs -/
structure Nms (ns : List Str) : Prop where
  noNot : wNot ∉ ns
  noOp : wOp ∉ ns
  noVoid : wVoid ∉ ns
theorem words_ne : wNot ≠ wVoid ∧ wOp ≠ wVoid ∧ wCl ≠ wVoid ∧ wVoid ∉ joins ∧ wNot ≠ wOp := by decide +kernel
/-- what the parser says, put against what may stand -/
def Agr (ns : List Str) (u : List Nd) (ts : List Tok) : Except Nat (List Tok) → Prop
  | .error p => ∃ t, ts[(mach ns (.E :: u) (ts.map (·.2))).1]? = some t ∧ t.1 = p ∧ (mach ns (.E :: u) (ts.map (·.2))).2 ≠ []
  | .ok r => Ends1 r ∧ ∃ k, r = ts.drop k ∧ opens r ≤ opens ts ∧ mach ns (.E :: u) (ts.map (·.2)) = (k + (mach ns u (r.map (·.2))).1, (mach ns u (r.map (·.2))).2)
theorem drop_get {α : Type} {l r : List α} {k n : Nat} {x : α} (h : r = l.drop k) (g : r[n]? = some x) : l[k + n]? = some x := by
  rw [h, List.getElem?_drop] at g
  exact g
theorem drop_tl {α : Type} {l r : List α} {k : Nat} {x : α} (h : x :: r = l.drop k) : r = l.drop (k + 1) := by
  have e : (l.drop k).tail = r := by rw [← h]; rfl
  rw [← e, List.tail_drop]
theorem m1 (x : Tok) (r : List Tok) : (x :: r).map (·.2) = x.2 :: r.map (·.2) := rfl
theorem isOpen_not {w : Str} (h : w = wNot) : isOpen w = true := by unfold isOpen; rw [decide_eq_true h]; rfl
theorem isOpen_op {w : Str} (h : w = wOp) : isOpen w = true := by unfold isOpen; rw [decide_eq_true h, Bool.or_true]
/-- the parser and what may stand -/
theorem prs_mach {ns : List Str} (N : Nms ns) : ∀ (f ar : Nat) (ts : List Tok) (u : List Nd), Ends1 ts → opens ts < f → ar + opens ts ≤ 20 → Agr ns u ts (prs ns f ar ts)
  | 0, _, _, _, _, h, _ => absurd h (Nat.not_lt_zero _)
  | f + 1, ar, [], _, h, _, _ => absurd rfl h.ne
  | f + 1, ar, (p, w) :: r, u, he, ho, ha => by
    rw [opens_cons] at ho ha
    rw [prs, if_neg (show ¬ 20 < ar by omega)]
    by_cases h1 : w ∈ ns
    · rw [if_pos h1]
      have n1 : w ≠ wNot := fun e => N.noNot (e ▸ h1)
      have n2 : w ≠ wOp := fun e => N.noOp (e ▸ h1)
      have n3 : w ≠ wVoid := fun e => N.noVoid (e ▸ h1)
      refine ⟨he.tl n3, 1, rfl, by rw [opens_cons]; omega, ?_⟩
      rw [m1, mach_some (u' := u) (by rw [stp_E, if_neg n1, if_neg n2, if_pos h1]), Nat.add_comm]
    · rw [if_neg h1]
      by_cases h2 : w = wNot
      · rw [if_pos h2]
        have hop := isOpen_not h2
        rw [if_pos hop] at ho ha
        have ih := prs_mach N f (ar + 1) r u (he.tl (by rw [h2]; exact words_ne.1)) (by omega) (by omega)
        have st : mach ns (.E :: u) (((p, w) :: r).map (·.2)) = ((mach ns (.E :: u) (r.map (·.2))).1 + 1, (mach ns (.E :: u) (r.map (·.2))).2) := by
          rw [m1, mach_some (u' := .E :: u) (by rw [stp_E, if_pos h2])]
        cases hp : prs ns f (ar + 1) r with
        | error e =>
          rw [hp] at ih
          obtain ⟨t, h3, h4, h5⟩ := ih
          refine ⟨t, ?_, h4, ?_⟩
          · rw [st]; exact h3
          · rw [st]; exact h5
        | ok r1 =>
          rw [hp] at ih
          obtain ⟨h3, k, h4, h5, h6⟩ := ih
          refine ⟨h3, k + 1, h4, by rw [opens_cons, if_pos hop]; omega, ?_⟩
          rw [st, h6]
          exact Prod.ext (Nat.add_right_comm _ _ _) rfl
      · rw [if_neg h2]
        by_cases h3 : w = wOp
        · rw [if_neg (fun z => z h3)]
          have hop := isOpen_op h3
          rw [if_pos hop] at ho ha
          have e1 := he.tl (show w ≠ wVoid by rw [h3]; exact words_ne.2.1)
          have ih := prs_mach N f (ar + 1) r (.W :: .E :: .C :: u) e1 (by omega) (by omega)
          have st : mach ns (.E :: u) (((p, w) :: r).map (·.2)) = ((mach ns (.E :: .W :: .E :: .C :: u) (r.map (·.2))).1 + 1, (mach ns (.E :: .W :: .E :: .C :: u) (r.map (·.2))).2) := by
            rw [m1, mach_some (u' := .E :: .W :: .E :: .C :: u) (by rw [stp_E, if_neg h2, if_pos h3])]
          cases hp : prs ns f (ar + 1) r with
          | error e =>
            rw [hp] at ih
            obtain ⟨t, h4, h5, h6⟩ := ih
            refine ⟨t, ?_, h5, ?_⟩
            · rw [st]; exact h4
            · rw [st]; exact h6
          | ok r1 =>
            rw [hp] at ih
            obtain ⟨e2, k, h4, h5, h6⟩ := ih
            rw [h6] at st
            cases r1 with
            | nil => exact absurd rfl e2.ne
            | cons t2 r2 =>
              obtain ⟨p2, w2⟩ := t2
              dsimp only
              by_cases h7 : w2 ∈ joins
              · rw [if_neg (fun z => z h7)]
                have e3 := e2.tl (show w2 ≠ wVoid from fun e => words_ne.2.2.2.1 (e ▸ h7))
                have o3 : opens r2 ≤ opens ((p2, w2) :: r2) := by rw [opens_cons]; omega
                have ih2 := prs_mach N f (ar + 1) r2 (.C :: u) e3 (by omega) (by omega)
                rw [m1 (p2, w2) r2, mach_some (u' := .E :: .C :: u) (by rw [stp_W, if_pos h7])] at st
                have k2 := drop_tl h4
                cases hp2 : prs ns f (ar + 1) r2 with
                | error e =>
                  rw [hp2] at ih2
                  obtain ⟨t, h8, h9, h10⟩ := ih2
                  refine ⟨t, ?_, h9, ?_⟩
                  · rw [st]
                    have := drop_get k2 h8
                    show ((p, w) :: r)[k + (_ + 1) + 1]? = _
                    rw [List.getElem?_cons_succ, ← Nat.add_assoc, Nat.add_right_comm]
                    exact this
                  · rw [st]; exact h10
                | ok r3 =>
                  rw [hp2] at ih2
                  obtain ⟨e4, k3, h8, h9, h10⟩ := ih2
                  rw [h10] at st
                  cases r3 with
                  | nil => exact absurd rfl e4.ne
                  | cons t4 r4 =>
                    obtain ⟨p4, w4⟩ := t4
                    dsimp only
                    have k4 : (p4, w4) :: r4 = r.drop (k + 1 + k3) := by rw [h8, k2, List.drop_drop]
                    by_cases h11 : w4 = wCl
                    · rw [if_neg (fun z => z h11)]
                      rw [m1 (p4, w4) r4, mach_some (u' := u) (by rw [stp_C, if_pos h11])] at st
                      have o4 : opens r4 ≤ opens ((p4, w4) :: r4) := by rw [opens_cons]; omega
                      refine ⟨e4.tl (show w4 ≠ wVoid by rw [h11]; exact words_ne.2.2.1), k + 1 + k3 + 1 + 1, drop_tl k4, by rw [opens_cons]; omega, ?_⟩
                      rw [st]
                      refine Prod.ext ?_ rfl
                      show k + (k3 + (_ + 1) + 1) + 1 = k + 1 + k3 + 1 + 1 + _
                      omega
                    · rw [if_pos h11]
                      rw [m1 (p4, w4) r4, mach_none (by rw [stp_C, if_neg h11])] at st
                      refine ⟨(p4, w4), ?_, rfl, ?_⟩
                      · rw [st]
                        have := drop_get (n := 0) k4 rfl
                        show ((p, w) :: r)[k + (k3 + 0 + 1) + 1]? = _
                        rw [List.getElem?_cons_succ, show k + (k3 + 0 + 1) = k + 1 + k3 + 0 by omega]
                        exact this
                      · rw [st]; exact List.cons_ne_nil _ _
              · rw [if_pos h7]
                rw [m1 (p2, w2) r2, mach_none (by rw [stp_W, if_neg h7])] at st
                refine ⟨(p2, w2), ?_, rfl, ?_⟩
                · rw [st]
                  have := drop_get (n := 0) h4 rfl
                  show ((p, w) :: r)[k + 0 + 1]? = _
                  rw [List.getElem?_cons_succ]
                  exact this
                · rw [st]; exact List.cons_ne_nil _ _
        · rw [if_pos h3]
          have st : mach ns (.E :: u) (((p, w) :: r).map (·.2)) = (0, .E :: u) := by
            rw [m1, mach_none (by rw [stp_E, if_neg h2, if_neg h3, if_neg h1])]
          refine ⟨(p, w), ?_, rfl, ?_⟩
          · rw [st]; rfl
          · rw [st]; exact List.cons_ne_nil _ _
end Lt

set_option Elab.async false
set_option linter.all false
set_option maxRecDepth 100000
set_option maxHeartbeats 1000000
/-! the words of a text -/
namespace Lt
open PySem PySem.Spec PyProof.Rows L2
def runS : Str := "abcdefghijklmnopqrstuvwxyz0123456789"
/-- text[a:b] -/
def cut (T : List Nat) (a b : Nat) : Str := ⟨((T.drop a).take (b - a)).toArray⟩
def flush (T : List Nat) (st : List Tok × Nat) (p : Nat) : List Tok := if st.2 < p then st.1 ++ [(st.2, cut T st.2 p)] else st.1
def lexStep (T : List Nat) (st : List Tok × Nat) (p c : Nat) : List Tok × Nat :=
  if c ∈ runS.cps.toList then st else (if c = 32 then flush T st p else flush T st p ++ [(p, ⟨#[c]⟩)], p + 1)
def lexFrom (T : List Nat) : List Tok × Nat → Nat → List Nat → List Tok × Nat
  | st, _, [] => st
  | st, p, c :: cs => lexFrom T (lexStep T st p c) (p + 1) cs
theorem lex_nil {T : List Nat} {st : List Tok × Nat} {p : Nat} : lexFrom T st p [] = st := by rw [lexFrom]
theorem lex_cons {T : List Nat} {st : List Tok × Nat} {p c : Nat} {cs : List Nat} : lexFrom T st p (c :: cs) = lexFrom T (lexStep T st p c) (p + 1) cs := by rw [lexFrom]
theorem lex_app {T : List Nat} : ∀ {a b : List Nat} {st : List Tok × Nat} {p : Nat}, lexFrom T st p (a ++ b) = lexFrom T (lexFrom T st p a) (p + a.length) b
  | [], b, st, p => by rw [List.nil_append, lex_nil]; rfl
  | c :: a, b, st, p => by
    rw [List.cons_append, lex_cons, lex_cons, lex_app (a := a), List.length_cons, Nat.add_assoc, Nat.add_comm 1 a.length]
theorem flush_at {T : List Nat} {F : List Tok} {p : Nat} : flush T (F, p) p = F := by
  unfold flush
  rw [if_neg (Nat.lt_irrefl _)]
theorem lex_sp {T : List Nat} {st : List Tok × Nat} {p : Nat} : lexFrom T st p [32] = (flush T st p, p + 1) := by
  rw [lex_cons, lex_nil]
  unfold lexStep
  rw [if_neg (show (32 : Nat) ∉ runS.cps.toList by decide +kernel), if_pos rfl]
theorem lex_sps {T : List Nat} : ∀ {n : Nat} {st : List Tok × Nat} {p : Nat}, lexFrom T st p (List.replicate (n + 1) 32) = (flush T st p, p + (n + 1))
  | 0, st, p => lex_sp
  | n + 1, st, p => by
    rw [show List.replicate (n + 1 + 1) 32 = [32] ++ List.replicate (n + 1) 32 from rfl, lex_app, lex_sp, lex_sps, List.length_singleton, flush_at, Nat.add_assoc p, Nat.add_comm 1]
theorem lex_run {T : List Nat} : ∀ {w : List Nat} {st : List Tok × Nat} {p : Nat}, (∀ c ∈ w, c ∈ runS.cps.toList) → lexFrom T st p w = st
  | [], st, p, _ => lex_nil
  | c :: w, st, p, h => by
    rw [lex_cons]
    unfold lexStep
    rw [if_pos (h c (List.mem_cons_self ..)), lex_run fun x hx => h x (List.mem_cons_of_mem _ hx)]
def wX0 : Str := "X0"
/-- the program's words of one word of the law -/
def flat (t : Tok) : List Tok := if t.2 = wX0 then [(t.1, ("X" : Str)), (t.1 + 1, ("0" : Str))] else [t]
/-- what words there are -/
def WdT (w : Str) : Prop := (w.cps.toList ≠ [] ∧ ∀ c ∈ w.cps.toList, c ∈ runS.cps.toList) ∨ (∃ c, w = ⟨#[c]⟩ ∧ c ∉ runS.cps.toList ∧ c ≠ 32) ∨ w = wX0
theorem cut_at {A w B : List Nat} : cut (A ++ w ++ B) A.length (A.length + w.length) = ⟨w.toArray⟩ := by
  unfold cut
  rw [List.append_assoc, List.drop_left, Nat.add_sub_cancel_left, List.take_left]
theorem lex_word {A B : List Nat} {w : Str} {F : List Tok} (h : WdT w) :
    let T := A ++ w.cps.toList ++ B
    flush T (lexFrom T (F, A.length) A.length w.cps.toList) (A.length + w.cps.toList.length) = F ++ flat (A.length, w) := by
  dsimp only
  rcases h with ⟨h1, h2⟩ | ⟨c, rfl, h1, h2⟩ | rfl
  · rw [lex_run h2]
    unfold flush
    rw [if_pos (Nat.lt_add_of_pos_right (List.length_pos_iff.mpr h1)), cut_at]
    unfold flat
    have n : w ≠ wX0 := fun e => by
      subst e
      exact absurd (h2 88 (by decide +kernel)) (by decide +kernel)
    rw [if_neg n]
  · show flush (A ++ [c] ++ B) (lexFrom (A ++ [c] ++ B) (F, A.length) A.length [c]) (A.length + 1) = _
    rw [lex_cons, lex_nil]
    unfold lexStep
    rw [if_neg h1, if_neg h2, flush_at, flush_at]
    unfold flat
    have n : (⟨#[c]⟩ : Str) ≠ wX0 := fun e => by
      have h5 : (1 : Nat) = wX0.cps.size := congrArg (fun z : Str => z.cps.size) e
      exact absurd h5 (by decide +kernel)
    rw [if_neg n]
  · have e0 : wX0.cps.toList = [88, 48] := by decide +kernel
    rw [e0]
    rw [lex_cons, lex_cons, lex_nil]
    have s1 : lexStep (A ++ [88, 48] ++ B) (F, A.length) A.length 88 = (F ++ [(A.length, ⟨#[88]⟩)], A.length + 1) := by
      unfold lexStep
      rw [if_neg (show (88 : Nat) ∉ runS.cps.toList by decide +kernel), if_neg (by decide), flush_at]
    rw [s1]
    have s2 : lexStep (A ++ [88, 48] ++ B) (F ++ [(A.length, ⟨#[88]⟩)], A.length + 1) (A.length + 1) 48 = (F ++ [(A.length, ⟨#[88]⟩)], A.length + 1) := by
      unfold lexStep
      rw [if_pos (show (48 : Nat) ∈ runS.cps.toList by decide +kernel)]
    rw [s2]
    unfold flush flat
    rw [if_pos rfl, if_pos (show A.length + 1 < A.length + [88, 48].length from Nat.lt_succ_self _)]
    have c1 := cut_at (A := A ++ [88]) (w := [48]) (B := B)
    have e1 : A ++ [88] ++ [48] ++ B = A ++ [88, 48] ++ B := by simp
    rw [e1, List.length_append] at c1
    show F ++ [(A.length, ⟨#[88]⟩)] ++ [(A.length + 1, cut (A ++ [88, 48] ++ B) (A.length + [88].length) (A.length + [88].length + [48].length))] = _
    rw [c1, List.append_assoc]
    have x1 : ("X" : Str) = ⟨#[88]⟩ := by decide +kernel
    have x2 : ("0" : Str) = ⟨[48].toArray⟩ := by decide +kernel
    rw [x1, x2]
    rfl
/-- a text as the law makes it, and its words with their places -/
inductive Bt : List Nat → List Tok → Prop
  | nil : Bt [] []
  | snoc {T : List Nat} {P : List Tok} {w : Str} {n : Nat} : Bt T P → WdT w → Bt (T ++ List.replicate (n + 1) 32 ++ w.cps.toList) (P ++ [(T.length + (n + 1), w)])
theorem Bt.lex {T : List Nat} {P : List Tok} (h : Bt T P) : ∀ R, flush (T ++ R) (lexFrom (T ++ R) ([], 0) 0 T) T.length = P.flatMap flat := by
  induction h with
  | nil => intro R; rw [lex_nil]; rfl
  | @snoc T P w n h hw ih =>
    intro R
    rw [lex_app, lex_app, lex_sps]
    have e1 : T ++ List.replicate (n + 1) 32 ++ w.cps.toList ++ R = T ++ (List.replicate (n + 1) 32 ++ w.cps.toList ++ R) := by simp only [List.append_assoc]
    have e2 := ih (List.replicate (n + 1) 32 ++ w.cps.toList ++ R)
    rw [← e1] at e2
    rw [Nat.zero_add, e2]
    have l1 : (T ++ List.replicate (n + 1) 32).length = T.length + (n + 1) := by rw [List.length_append, List.length_replicate]
    have := lex_word (A := T ++ List.replicate (n + 1) 32) (B := R) (F := P.flatMap flat) hw
    dsimp only at this
    rw [l1] at this
    rw [Nat.zero_add, l1, List.length_append, l1, this, List.flatMap_append]
    rw [List.flatMap_cons, List.flatMap_nil, List.append_nil]
/-- and with one more space behind, or none -/
theorem Bt.all {T : List Nat} {P : List Tok} (h : Bt T P) (m : Nat) (hm : m < 2) : flush (T ++ List.replicate m 32) (lexFrom (T ++ List.replicate m 32) ([], 0) 0 (T ++ List.replicate m 32)) (T ++ List.replicate m 32).length = P.flatMap flat := by
  match m, hm with
  | 0, _ =>
    have := h.lex []
    rw [show List.replicate 0 32 = [] from rfl, List.append_nil] at *
    exact this
  | 1, _ =>
    have := h.lex [32]
    show flush (T ++ [32]) (lexFrom (T ++ [32]) ([], 0) 0 (T ++ [32])) (T ++ [32]).length = _
    rw [lex_app, lex_sp, Nat.zero_add, this, List.length_append]
    exact flush_at
/-! ### the law's words and the program's -/
/-- X0 and its first sign can't stand, nor the void word -/
theorem stp_bad {ns : List Str} (h1 : wX0 ∉ ns) : ∀ u, stp ns u wX0 = none
  | [] => rfl
  | .E :: r => by rw [stp_E, if_neg (by decide +kernel), if_neg (by decide +kernel), if_neg h1]
  | .W :: r => by rw [stp_W, if_neg (by decide +kernel)]
  | .C :: r => by rw [stp_C, if_neg (by decide +kernel)]
theorem stp_badX {ns : List Str} (h1 : ("X" : Str) ∉ ns) : ∀ u, stp ns u ("X" : Str) = none
  | [] => rfl
  | .E :: r => by rw [stp_E, if_neg (by decide +kernel), if_neg (by decide +kernel), if_neg h1]
  | .W :: r => by rw [stp_W, if_neg (by decide +kernel)]
  | .C :: r => by rw [stp_C, if_neg (by decide +kernel)]
theorem stp_void {ns : List Str} (h1 : wVoid ∉ ns) : ∀ u, stp ns u wVoid = none
  | [] => rfl
  | .E :: r => by rw [stp_E, if_neg (by decide +kernel), if_neg (by decide +kernel), if_neg h1]
  | .W :: r => by rw [stp_W, if_neg (by decide +kernel)]
  | .C :: r => by rw [stp_C, if_neg (by decide +kernel)]
/-- the words as the program has them -/
def toks (P : List Tok) (e : Nat) : List Tok := P.flatMap flat ++ [(e, wVoid)]
theorem toks_cons {t : Tok} {P : List Tok} {e : Nat} : toks (t :: P) e = flat t ++ toks P e := by
  unfold toks
  rw [List.flatMap_cons, List.append_assoc]
theorem toks_mach {ns : List Str} (N : Nms ns) (h1 : wX0 ∉ ns) (h2 : ("X" : Str) ∉ ns) (e : Nat) : ∀ (P : List Tok) (u : List Nd),
    mach ns u ((toks P e).map (·.2)) = mach ns u (P.map (·.2)) ∧
    (mach ns u (P.map (·.2))).1 ≤ P.length ∧
    ∀ t, (toks P e)[(mach ns u (P.map (·.2))).1]? = some t →
      if (mach ns u (P.map (·.2))).1 < P.length then P[(mach ns u (P.map (·.2))).1]?.map (·.1) = some t.1 ∧ (mach ns u (P.map (·.2))).1 < (toks P e).length - 1
      else t.1 = e ∧ (mach ns u (P.map (·.2))).1 = (toks P e).length - 1
  | [], u => by
    have a : mach ns u ((toks [] e).map (·.2)) = (0, u) := mach_none (stp_void N.noVoid u)
    have b : mach ns u (([] : List Tok).map (·.2)) = (0, u) := by rw [List.map_nil, mach]
    refine ⟨a.trans b.symm, by rw [b]; exact Nat.le_refl _, fun t ht => ?_⟩
    rw [b] at ht ⊢
    rw [if_neg (show ¬ ((0 : Nat), u).1 < ([] : List Tok).length from Nat.lt_irrefl _)]
    injection ht with ht
    exact ⟨by rw [← ht], rfl⟩
  | t0 :: P, u => by
    cases hs : stp ns u t0.2 with
    | none =>
      have b : mach ns u ((t0 :: P).map (·.2)) = (0, u) := mach_none hs
      rw [b]
      rw [toks_cons]
      unfold flat
      by_cases hx : t0.2 = wX0
      · rw [if_pos hx]
        refine ⟨mach_none (stp_badX h2 u), Nat.zero_le _, fun t ht => ?_⟩
        injection ht with ht
        rw [if_pos (show ((0 : Nat), u).1 < (t0 :: P).length from Nat.succ_pos _)]
        refine ⟨by rw [← ht]; rfl, ?_⟩
        show 0 < ([_, _] ++ toks P e).length - 1
        rw [List.length_append]
        exact Nat.lt_of_lt_of_le Nat.zero_lt_one (by simp only [List.length_cons, List.length_nil]; omega)
      · rw [if_neg hx]
        refine ⟨mach_none hs, Nat.zero_le _, fun t ht => ?_⟩
        injection ht with ht
        rw [if_pos (show ((0 : Nat), u).1 < (t0 :: P).length from Nat.succ_pos _)]
        refine ⟨by rw [← ht]; rfl, ?_⟩
        unfold toks
        simp only [List.length_append, List.length_cons, List.length_nil]
        omega
    | some u' =>
      have hx : t0.2 ≠ wX0 := fun z => by rw [z, stp_bad h1] at hs; cases hs
      obtain ⟨i1, i2, i3⟩ := toks_mach N h1 h2 e P u'
      have b : mach ns u ((t0 :: P).map (·.2)) = ((mach ns u' (P.map (·.2))).1 + 1, (mach ns u' (P.map (·.2))).2) := mach_some hs
      have ft : toks (t0 :: P) e = t0 :: toks P e := by rw [toks_cons]; unfold flat; rw [if_neg hx]; rfl
      rw [b, ft]
      refine ⟨by rw [m1, mach_some hs, i1], Nat.succ_le_succ i2, fun t ht => ?_⟩
      have ht' : (toks P e)[(mach ns u' (P.map (·.2))).1]? = some t := ht
      have i4 := i3 t ht'
      have pos : 0 < (toks P e).length := by unfold toks; simp only [List.length_append, List.length_cons, List.length_nil]; omega
      by_cases hl : (mach ns u' (P.map (·.2))).1 < P.length
      · rw [if_pos hl] at i4
        rw [if_pos (show (mach ns u' (P.map (·.2))).1 + 1 < (t0 :: P).length from Nat.succ_lt_succ hl)]
        refine ⟨i4.1, ?_⟩
        have := i4.2
        simp only [List.length_cons]
        omega
      · rw [if_neg hl] at i4
        rw [if_neg (show ¬ (mach ns u' (P.map (·.2))).1 + 1 < (t0 :: P).length from fun z => hl (Nat.lt_of_succ_lt_succ z))]
        refine ⟨i4.1, ?_⟩
        have := i4.2
        simp only [List.length_cons]
        omega
end Lt

set_option Elab.async false
set_option linter.all false
set_option maxRecDepth 100000
set_option maxHeartbeats 4000000
/-! enumerate over a str, in a for -/
namespace L2
open PySem PySem.Spec PyProof.Rows
/-- the signs of a str, each in a new pair with its place -/
def Ites (x : Str) : It :=
  ⟨fun i _ => i < x.cps.size, fun i H v H' => ∃ T c, v = .ref T ∧ H T = none ∧ H' = upd H T (.tup [.int (i : Nat), .str ⟨#[c]⟩]) ∧ x.cps[i]? = some c, fun i _ => x.cps.size = i⟩
theorem turn_enumS {P : Program} {w : World} {K : PySem.W.Frag} {elts : List Expr} {kk : Nat} {tpos : Pos} (x : Str) (t : Tok) (e it : Addr) :
    Turn P w K (.Tuple elts kk tpos) (Ites x) [e, it] e (fun i h => (∃ old, IsEnum h e it ((i : Nat) : Int) old) ∧ h.IsStrIter it (strIterType x) x t i ∧ e ≠ it) where
  mem := by simp
  obj := fun i h st b hb => by
    obtain ⟨⟨old, he⟩, ⟨o, ho, hc, hd⟩, _⟩ := st
    have e' : b = e ∨ b = it := by simpa using hb
    rcases e' with z | z
    · rw [z]; exact ⟨_, he, fun v q => nomatch q⟩
    · rw [z]; exact ⟨o, ho, fun v q => by rw [hd] at q; cases q⟩
  keep := fun i h h' st k => let ⟨⟨old, he⟩, ⟨o, ho, r⟩, hne⟩ := st; ⟨⟨old, k e (by simp) _ he⟩, ⟨o, k it (by simp) o ho, r⟩, hne⟩
  item := by
    intro X hP hw hK hc i pins s σ H E I hf st hg
    subst hP hw hK
    obtain ⟨⟨old, he⟩, hit, hne⟩ := st
    have hel : e < s.heap.objs.size := Heap.lt_size he
    have hil : it < s.heap.objs.size := by obtain ⟨_, q, _⟩ := hit; exact Heap.lt_size q
    refine wpAny_pyNext_enum_itemD (Draws.text (prog := X.prog) (w := X.w) (A := X.A.in1) (I.ok.hd hc) it x t) he hit (show i < x.cps.size from hg) hne (by simp [hne]) fun x' h' tk hP ho hst' hT hsz hk => ?_
    obtain ⟨c, u, hcx, ex⟩ := hP
    subst ex
    have hit' := hst'
    refine ⟨_, rfl, wpAny_letOwnedTupleGo_enum (s := { s with heap := h', toks := tk + 1 }) ho fun h'' he' sb => ?_⟩
    have hT2 : h''.get? s.heap.objs.size = some { cls := .type "tuple", data := .seq #[.int i tk, .str ⟨#[c]⟩ u] } := (sb.2 _ (Nat.ne_of_gt hel)).trans hT
    have new : ObjOk X.prog X.w (upd H s.heap.objs.size (.tup [.int (i : Nat), .str ⟨#[c]⟩])) h'' s.heap.objs.size (.tup [.int (i : Nat), .str ⟨#[c]⟩]) :=
      ⟨by show 2 ≤ sizeLine; decide, [.int i tk, .str ⟨#[c]⟩ u], .cons ⟨_, rfl⟩ (.cons ⟨_, rfl⟩ .nil), ⟨_, hT2, rfl, _, rfl⟩⟩
    have I1 : Inv X pins σ (upd H s.heap.objs.size (.tup [.int (i : Nat), .str ⟨#[c]⟩])) { s with heap := h'', toks := tk + 1 } :=
      I.turnedNew (ch := [e, it]) (fun b ob hb q => (sb.2 b (fun z => hb (by simp [z]))).trans (hk b ob (fun z => hb (by simp [z])) (fun z => hb (by simp [z])) q)) hf (Nat.le_refl _) new
    refine ⟨.ref s.heap.objs.size, _, I1, rfl, ⟨_, c, rfl, I.hok.fresh (Nat.le_refl _), rfl, hcx⟩, ⟨⟨.str ⟨#[c]⟩ u, ?_⟩, ?_, hne⟩, fun b hb => ?_⟩
    · have e1 : ((i + 1 : Nat) : Int) = (i : Int) + 1 := by omega
      rw [e1]; exact he'
    · obtain ⟨o, ho', r⟩ := hit'
      exact ⟨o, (sb.2 it (Ne.symm hne)).trans ho', r⟩
    · have hb' : b < s.heap.objs.size := by
        have e' : b = e ∨ b = it := by simpa using hb
        rcases e' with z | z
        · rw [z]; exact hel
        · rw [z]; exact hil
      rw [upd_ne (Nat.ne_of_lt hb')]
      exact (hf b hb).1
  done := by
    intro X hP hw hK hc i pins s σ H E I hf st hg
    subst hP hw hK
    obtain ⟨⟨old, he⟩, hit, hne⟩ := st
    obtain ⟨f0, f1, f2, f3, f4, f5⟩ := hf it (by simp)
    have hn : x.cps.size = i := hg
    exact wpAny_pyNext_enum_endD (Draws.text (prog := X.prog) (w := X.w) (A := X.A.in1) (I.ok.hd hc) it x t) he (show s.heap.IsStrIter it (strIterType x) x t x.cps.size by rw [hn]; exact hit) fun h' eb => ⟨rfl, I.turned (t' := s.toks) (fun b o hb q => eb b o hb q) f0 f1 f3 f4 f5⟩
  self := fun A i s Q E st h => let ⟨⟨_, he⟩, _⟩ := st; wpAny_pyIter_enum he h
def iEnumS (ta : TA) : TI := fun σ H R => ta σ H fun vs H1 => ∃ x, vs = [.str x] ∧ R (Ites x) H1
theorem pi_enumS {X : Cx} {e : Expr} {ta : TA} {p pos tpos : Pos} {elts : List Expr} {kk : Nat} (hg : Gl X "enumerate") (hm : X.mg "enumerate" = none) (ha : PA X [e] ta) (hs : starEach [e] X.env = [(false, eval e X.env)] := by rfl) :
    PI X (.Tuple elts kk tpos) (.Call (.Name "enumerate" p) [e] [] pos) (iEnumS ta) := by
  refine ⟨fun pins s σ H R I h => ?_⟩
  refine Call_ (ld_blt I hg hm boot_enumerate (PyProof.Rows.callWith_type1 (thn (ha.run pos pins s σ H _ I h) fun us s1 ⟨vs, H1, I1, r1, q1⟩ => ?_) hs rfl))
  obtain ⟨x, ex, q⟩ := q1
  subst ex
  cases r1 with
  | cons r rr =>
    cases rr
    obtain ⟨t, rfl⟩ := r
    refine LtR.enum1_begins (begins_text x t) trivial fun h' he hit hsz hk => wpAny_pyIter_enum he ?_
    have I2 : Inv X pins σ H1 { s1 with heap := h' } := I1.kept (t' := s1.toks) hk
    refine ⟨s1.heap.objs.size + 1, [s1.heap.objs.size + 1, s1.heap.objs.size], _, _, H1, rfl, I2, turn_enumS x t (s1.heap.objs.size + 1) s1.heap.objs.size, ⟨⟨.none, he⟩, ⟨_, hit, rfl, rfl⟩, Nat.succ_ne_self _⟩, fun b hb => ?_, q⟩
    have e' : b = s1.heap.objs.size + 1 ∨ b = s1.heap.objs.size := by simpa using hb
    have hle : s1.heap.objs.size ≤ b := by
      rcases e' with z | z
      · rw [z]; exact Nat.le_add_right _ _
      · rw [z]; exact Nat.le_refl _
    exact I1.fpOk hle (I1.hok.fresh hle)
end L2

set_option Elab.async false
set_option linter.all false
set_option maxRecDepth 100000
set_option maxHeartbeats 1000000
/-! placed_words -/
namespace Lt
open PySem PySem.Spec PyProof.Rows L2
theorem for_enumS {x : Str} {g : TG} {tb : TS} {D : Ends} {σ : L2.St} {H : Hp} (Pv : Nat → L2.St → Hp → Prop) (h0 : Pv 0 σ H)
    (hs : ∀ (i c : Nat) σ H T, x.cps[i]? = some c → Pv i σ H → H T = none → g (.ref T) σ (upd H T (.tup [nI i, .str ⟨#[c]⟩])) fun σ2 H2 => tb { D with nx := Pv (i + 1), ct := Pv (i + 1), bk := D.nx } σ2 H2) (hd : ∀ σ H, Pv x.cps.size σ H → D.nx σ H) :
    ∃ W : Nat → Nat → L2.St → Hp → Prop, (∃ m, W 0 m σ H) ∧ ∀ i m σ H, W i m σ H →
      ((Ites x).stop i H ∧ D.nx σ H) ∨ ((Ites x).go i H ∧ ∃ N : L2.St → Hp → Prop, (∀ σ' H', N σ' H' → ∃ m', m' < m ∧ W (i + 1) m' σ' H') ∧ ∀ y H', (Ites x).yld i H y H' → g y σ H' fun σ2 H2 => tb { D with nx := N, ct := N, bk := D.nx } σ2 H2) := by
  refine ⟨fun i m σ H => m = x.cps.size - i ∧ i ≤ x.cps.size ∧ Pv i σ H, ⟨x.cps.size, by simp, Nat.zero_le _, h0⟩, ?_⟩
  rintro i m σ H ⟨rfl, hi, p⟩
  by_cases hlt : i < x.cps.size
  · refine .inr ⟨hlt, Pv (i + 1), fun σ' H' p' => ⟨x.cps.size - (i + 1), by omega, rfl, hlt, p'⟩, fun y H' yl => ?_⟩
    obtain ⟨T, c, rfl, hT, rfl, hc⟩ := yl
    exact hs i c σ H T hc p hT
  · have e : x.cps.size = i := by omega
    refine .inl ⟨e, hd σ H ?_⟩
    rw [e]
    exact p
/-- a name of the module, by its value -/
theorem pe_gc2 {X : Cx} {x : Str} {v : V} {pos : Pos} (hg : Gl X x) (h : ∃ u, X.mg x = some u ∧ RelV v u) (hd : (x == ("__debug__" : Str)) = false := by decide) : PE X (.Name x pos) (tC v) := by
  obtain ⟨u, hm, r⟩ := h
  exact pe_glob hg hm r hd
/-- a placed word -/
def RTk (H : Hp) (v : V) (t : Tok) : Prop := ∃ a, v = .ref a ∧ H a = some (.tup [nI t.1, .str t.2])
theorem RTk.tm {H H' : Hp} {v : V} {t : Tok} (e : Tm H H') (h : RTk H v t) : RTk H' v t := let ⟨a, e1, h⟩ := h; ⟨a, e1, e.1 _ _ h⟩
theorem RTks.tm {H H' : Hp} (e : Tm H H') : ∀ {xs : List V} {ts : List Tok}, Paired (RTk H) xs ts → Paired (RTk H') xs ts
  | _, _, .nil => .nil
  | _, _, .cons r t => .cons (r.tm e) (RTks.tm e t)
def LTk (H : Hp) (l : Addr) (ts : List Tok) : Prop := ∃ xs, H l = some (.lst xs) ∧ Paired (RTk H) xs ts
theorem LTk.same {H H' : Hp} {l : Addr} {ts : List Tok} (e : Same H H') (h : LTk H l ts) : LTk H' l ts := let ⟨xs, h1, h2⟩ := h; ⟨xs, e _ _ h1, RTks.tm (.of e) h2⟩
/-- the words of a text, behind them the void one -/
def lexWords (x : Str) : List Tok := toks' (flush x.cps.toList (lexFrom x.cps.toList ([], 0) 0 x.cps.toList) x.cps.toList.length) x.cps.toList.length
  where toks' (F : List Tok) (e : Nat) : List Tok := F ++ [(e, wVoid)]
theorem flush_len {T : List Nat} {st : List Tok × Nat} {p : Nat} : (flush T st p).length ≤ st.1.length + 1 := by
  unfold flush
  split
  · rw [List.length_append]; exact Nat.le_refl _
  · exact Nat.le_succ _
theorem lexStep_len {T : List Nat} {st : List Tok × Nat} {p c : Nat} : (lexStep T st p c).1.length ≤ st.1.length + 2 := by
  unfold lexStep
  have := flush_len (T := T) (st := st) (p := p)
  split
  · omega
  · dsimp only
    split
    · omega
    · rw [List.length_append, List.length_singleton]; omega
theorem lexFrom_len {T : List Nat} : ∀ {cs : List Nat} {st : List Tok × Nat} {p : Nat}, (lexFrom T st p cs).1.length ≤ st.1.length + 2 * cs.length
  | [], st, p => by rw [lex_nil]; exact Nat.le_refl _
  | c :: cs, st, p => by
    rw [lex_cons]
    have := lexFrom_len (T := T) (cs := cs) (st := lexStep T st p c) (p := p + 1)
    have := lexStep_len (T := T) (st := st) (p := p) (c := c)
    rw [List.length_cons]
    omega
theorem lexStep_at {T : List Nat} {st : List Tok × Nat} {p c : Nat} (h : st.2 ≤ p) : (lexStep T st p c).2 ≤ p + 1 := by
  unfold lexStep
  split
  · omega
  · exact Nat.le_refl _
theorem lexFrom_at {T : List Nat} : ∀ {cs : List Nat} {st : List Tok × Nat} {p : Nat}, st.2 ≤ p → (lexFrom T st p cs).2 ≤ p + cs.length
  | [], st, p, h => by rw [lex_nil]; exact h
  | c :: cs, st, p, h => by
    rw [lex_cons, List.length_cons]
    have := lexFrom_at (T := T) (cs := cs) (st := lexStep T st p c) (p := p + 1) (lexStep_at h)
    omega
theorem lex_take {T : List Nat} {i c : Nat} (h : T[i]? = some c) (st : List Tok × Nat) : lexFrom T st 0 (T.take (i + 1)) = lexStep T (lexFrom T st 0 (T.take i)) i c := by
  have hlt := (List.getElem?_eq_some_iff.mp h).1
  have e : T.take (i + 1) = T.take i ++ [c] := by
    rw [List.take_add_one, h]
    rfl
  rw [e, lex_app, lex_cons, lex_nil, List.length_take, Nat.min_eq_left (Nat.le_of_lt hlt), Nat.zero_add]
theorem cutS_nat (x : Str) (a b : Nat) (hb : b ≤ x.length) : L2.cutS x (some (a : Int)) (some (b : Int)) = cut x.cps.toList a b := by
  unfold L2.cutS cut
  rw [HT.sIx_nat, HT.sIx_nat, Nat.min_eq_left hb]
  by_cases ha : a ≤ x.length
  · rw [Nat.min_eq_left ha]
  · have h1 : x.cps.toList.length = x.length := Array.length_toList
    rw [Nat.min_eq_right (by omega), List.drop_eq_nil_of_le (by omega), List.drop_eq_nil_of_le (by omega), List.take_nil, List.take_nil]
theorem cutS_end (x : Str) (a : Nat) : L2.cutS x (some (a : Int)) none = cut x.cps.toList a x.cps.toList.length := by
  have h1 : x.cps.toList.length = x.length := Array.length_toList
  rw [h1, ← cutS_nat x a x.length (Nat.le_refl _)]
  unfold L2.cutS
  rw [HT.sIx_nat _ _ x.length, HT.sIx_none, Nat.min_self]
theorem add_tok {H H' : Hp} {l Tp : Addr} {vs : List V} {ts : List Tok} (t : Tok) (h0 : H l = none) (st : Same H H') (hv : H' l = some (.lst vs)) (pr : Paired (RTk H') vs ts) (hT : H' Tp = none) :
    (upd H' Tp (.tup [nI t.1, .str t.2])) l = some (.lst vs) ∧ Same H (upd (upd H' Tp (.tup [nI t.1, .str t.2])) l (.lst (vs ++ [.ref Tp]))) ∧
    Paired (RTk (upd (upd H' Tp (.tup [nI t.1, .str t.2])) l (.lst (vs ++ [.ref Tp])))) (vs ++ [.ref Tp]) (ts ++ [t]) := by
  have sT := same_new (o := .tup [nI t.1, .str t.2]) hT
  have h1 := sT _ _ hv
  refine ⟨h1, same_mut (st.trans sT) h0, Paired.app (RTks.tm ((Tm.of sT).trans (Tm.lst h1)) pr) (.cons ⟨Tp, rfl, ?_⟩ .nil)⟩
  rw [upd_ne (ne_of_none hv hT).symm]
  exact upd_same
theorem code_eq (c : Nat) : decide (V.str ⟨#[c]⟩ = V.str (" " : Str)) = decide (c = 32) := decide_eq_decide.mpr ⟨fun h => by
    injection h with h
    have e : (" " : Str) = ⟨#[32]⟩ := by decide +kernel
    rw [e] at h
    injection h with h
    injection h with h
    injection h with h,
  fun h => by rw [h]; exact congrArg V.str (by decide +kernel)⟩
section
variable {P : Program} {w : World} {K : PySem.W.Frag} {mg : Str → Option Value} {base : Heap}
def spWordsT : Sp := fun vs H Q _ => ∃ (x : Str), vs = [.str x] ∧ x.length ≤ 1000 ∧ ∀ l H', Same H H' → LTk H' l (lexWords x) → Q (.ref l) H'
theorem sc_placed_words : FnScope ["text", "words", "start", "place", "sign"] ["text"] (defScope s_placed_words) := ⟨rfl, rfl, rfl, by decide +kernel, rfl, by decide +kernel, by decide +kernel⟩
theorem has_placed_words (T : Top K mg "placed_words" s_placed_words ["text"]) (B : Bi mg) (gR : ∃ u, mg "RUN_SIGNS" = some u ∧ RelV (.str runS) u) : Has P w K mg base CX0 1 "placed_words" ["text"] spWordsT := by
  refine T.ok sc_placed_words (fun vs H Q E h => ?_) (fun f cdv A outer s H vs Q E hr h => ?_)
  · obtain ⟨x, rfl, _⟩ := h
    rfl
  · obtain ⟨x, rfl, hx, q⟩ := h
    refine ⟨_, pss_cons (ps_set (i := 1) sc_placed_words.nd rfl (Or.inl rfl) (pe_lst pa_nil))
      (pss_cons (ps_set (i := 2) sc_placed_words.nd rfl (Or.inl rfl) pe_int)
      (pss_cons (ps_for PassesOwn.never rfl (pi_enumS (by rfl) B.enumerate (pa_cons (pv 0) pa_nil)) (pg_tup rfl (pgs_cons (pg_name (i := 3) sc_placed_words.nd rfl (Or.inl rfl)) (pgs_cons (pg_name (i := 4) sc_placed_words.nd rfl (Or.inl rfl)) pgs_nil)))
        (pss_one (ps_if (pt_cmpR op_notIn_sign (pv 4) (pe_gc2 (by rfl) gR) (by rfl))
          (C8.pss_cut (ps_if (pt_cmpR op_lt (pv 2) (pv 3) (nomark _)) (pss_one (ps_expr (pe_bm PySem.F.plainAttrs_list PySem.F.slot_list_append PySem.F.type_list_append mt_append (pv 1) (pa_cons (pe_tup (pa_cons (pv 2) (pa_cons (pe_slice sl_str (pv 0) (po_some (pv 2)) (po_some (pv 3))) pa_nil))) pa_nil)))) pss_nil)
          (C8.pss_cut (ps_if (pt_cmpR op_ne (pv 4) pe_str (nomark _)) (pss_one (ps_expr (pe_bm PySem.F.plainAttrs_list PySem.F.slot_list_append PySem.F.type_list_append mt_append (pv 1) (pa_cons (pe_tup (pa_cons (pv 3) (pa_cons (pv 4) pa_nil))) pa_nil)))) pss_nil)
          (pss_one (ps_set (i := 2) sc_placed_words.nd rfl (Or.inl rfl) (pe_op op_add (pv 3) pe_int))))) pss_nil)))
      (C8.pss_cut (ps_if (pt_cmpR op_lt (pv 2) (pe_callB call_len_str (by rfl) B.len PySem.boot_len (pa_cons (pv 0) pa_nil)) (nomark _)) (pss_one (ps_expr (pe_bm PySem.F.plainAttrs_list PySem.F.slot_list_append PySem.F.type_list_append mt_append (pv 1) (pa_cons (pe_tup (pa_cons (pv 2) (pa_cons (pe_slice sl_str (pv 0) (po_some (pv 2)) po_none) pa_nil))) pa_nil)))) pss_nil)
      (pss_cons (ps_expr (pe_bm PySem.F.plainAttrs_list PySem.F.slot_list_append PySem.F.type_list_append mt_append (pv 1) (pa_cons (pe_tup (pa_cons (pe_callB call_len_str (by rfl) B.len PySem.boot_len (pa_cons (pv 0) pa_nil)) (pa_cons pe_str pa_nil))) pa_nil)))
      (pss_one (ps_ret (pv 1))))))), ?_⟩
    refine ⟨Nat.zero_le _, fun l hl => ?_⟩
    have s1 := same_new (o := .lst []) hl
    refine ⟨_, rfl, x, rfl, for_enumS (fun i σ H' => ∃ xp xs vs, σ = [some (.str x), some (.ref l), some (nI (lexFrom x.cps.toList ([], 0) 0 (x.cps.toList.take i)).2), xp, xs] ∧ Same H H' ∧ H' l = some (.lst vs) ∧ Paired (RTk H') vs (lexFrom x.cps.toList ([], 0) 0 (x.cps.toList.take i)).1)
      ⟨none, none, [], rfl, s1, upd_same, .nil⟩ ?_ ?_⟩
    · rintro i c σ H' T hc ⟨xp, xs, vs, rfl, st, hv, pr⟩ hT
      have hc' : x.cps.toList[i]? = some c := by rw [Array.getElem?_toList]; exact hc
      have hi : i < x.cps.toList.length := (List.getElem?_eq_some_iff.mp hc').1
      have hxl : x.cps.toList.length = x.length := Array.length_toList
      have sT := same_new (o := .tup [nI i, .str ⟨#[c]⟩]) hT
      have hb := lexFrom_len (T := x.cps.toList) (cs := x.cps.toList.take i) (st := ([], 0)) (p := 0)
      have hp := lexFrom_at (T := x.cps.toList) (cs := x.cps.toList.take i) (st := ([], 0)) (p := 0) (Nat.le_refl _)
      have hvl := Paired.length pr
      rw [List.length_take, Nat.min_eq_left (by omega)] at hb hp
      rw [lex_take hc']
      generalize hS : lexFrom x.cps.toList ([], 0) 0 (x.cps.toList.take i) = S at *
      obtain ⟨F, p⟩ := S
      dsimp only at hb hp pr hvl ⊢
      refine ⟨T, _, rfl, SqT.of upd_same, rfl, nI i, _, rfl, .str ⟨#[c]⟩, _, rfl, rfl, ?_⟩
      refine ⟨_, rfl, c, runS, rfl, rfl, _, rfl, ?_⟩
      by_cases hr : c ∈ runS.cps.toList
      · have e1 : (!decide (c ∈ runS.cps.toList)) = false := by rw [decide_eq_true hr]; rfl
        rw [e1]
        refine iteF ?_
        unfold lexStep
        rw [if_pos hr]
        exact ⟨_, _, vs, rfl, st.trans sT, sT _ _ hv, RTks.tm (.of sT) pr⟩
      · have e1 : (!decide (c ∈ runS.cps.toList)) = true := by rw [decide_eq_false hr]; rfl
        rw [e1]
        refine iteT ?_
        refine ⟨fun σ2 H2 => σ2 = [some (V.str x), some (V.ref l), some (nI p), some (nI i), some (V.str ⟨#[c]⟩)] ∧ ∃ vs2, Same H H2 ∧ H2 l = some (.lst vs2) ∧ Paired (RTk H2) vs2 (flush x.cps.toList (F, p) i), ?_, ?_⟩
        · refine ⟨_, rfl, _, rfl, (p : Int), (i : Int), rfl, rfl, decide ((p : Int) < (i : Int)), rfl, ?_⟩
          by_cases hpi : p < i
          · rw [decide_eq_true (show (p : Int) < (i : Int) by omega)]
            refine iteT ?_
            have hv1 := sT _ _ hv
            refine ⟨_, rfl, .inl ⟨rfl, _, SqL.of hv1⟩, _, rfl, _, rfl, _, rfl, p, rfl, _, rfl, i, rfl, x, rfl, by rw [sizeLine_eq]; omega, ?_⟩
            rw [cutS_nat x p i (by omega)]
            refine ⟨by show 2 ≤ sizeLine; decide, fun Tp hTp => ?_⟩
            obtain ⟨a1, a2, a3⟩ := add_tok (p, cut x.cps.toList p i) hl (st.trans sT) hv1 (RTks.tm (.of sT) pr) hTp
            refine ⟨l, vs, .ref Tp, rfl, rfl, a1, by rw [hvl, sizeLine_eq]; simp only [List.length_nil] at hb; omega, rfl, _, a2, upd_same, ?_⟩
            unfold flush
            rw [if_pos hpi]
            exact a3
          · rw [decide_eq_false (show ¬ (p : Int) < (i : Int) by omega)]
            refine iteF ⟨rfl, vs, st.trans sT, sT _ _ hv, ?_⟩
            unfold flush
            rw [if_neg hpi]
            exact RTks.tm (.of sT) pr
        · rintro σ2 H2 ⟨rfl, vs2, st2, hv2, pr2⟩
          have hl2 := Paired.length pr2
          have hl3 := flush_len (T := x.cps.toList) (st := (F, p)) (p := i)
          dsimp only at hl3
          refine ⟨fun σ3 H3 => σ3 = [some (V.str x), some (V.ref l), some (nI p), some (nI i), some (V.str ⟨#[c]⟩)] ∧ ∃ vs3, Same H H3 ∧ H3 l = some (.lst vs3) ∧ Paired (RTk H3) vs3 (lexStep x.cps.toList (F, p) i c).1, ?_, ?_⟩
          · refine ⟨_, rfl, rfl, !decide (c = 32), by rw [code_eq], ?_⟩
            unfold lexStep
            rw [if_neg hr]
            by_cases h32 : c = 32
            · rw [decide_eq_true h32, if_pos h32]
              exact iteF ⟨rfl, vs2, st2, hv2, pr2⟩
            · rw [decide_eq_false h32, if_neg h32]
              refine iteT ?_
              refine ⟨_, rfl, .inl ⟨rfl, _, SqL.of hv2⟩, _, rfl, _, rfl, by show 2 ≤ sizeLine; decide, fun Tp hTp => ?_⟩
              obtain ⟨a1, a2, a3⟩ := add_tok (i, ⟨#[c]⟩) hl st2 hv2 pr2 hTp
              exact ⟨l, vs2, .ref Tp, rfl, rfl, a1, by rw [hl2, sizeLine_eq]; simp only [List.length_nil] at hb; omega, rfl, _, a2, upd_same, a3⟩
          · rintro σ3 H3 ⟨rfl, vs3, st3, hv3, pr3⟩
            refine ⟨_, rfl, (i : Int), 1, rfl, rfl, ⟨some (nI i), some (.str ⟨#[c]⟩), vs3, ?_, st3, hv3, pr3⟩⟩
            unfold lexStep
            rw [if_neg hr]
            rfl
    · rintro σ H' ⟨xp, xs, vs, rfl, st, hv, pr⟩
      have hxl : x.cps.toList.length = x.length := Array.length_toList
      have hxs : x.cps.size = x.length := rfl
      have et : x.cps.toList.take x.cps.size = x.cps.toList := List.take_of_length_le (by rw [hxl, hxs]; exact Nat.le_refl _)
      rw [et] at pr ⊢
      have hb := lexFrom_len (T := x.cps.toList) (cs := x.cps.toList) (st := ([], 0)) (p := 0)
      have hlw : lexWords x = flush x.cps.toList (lexFrom x.cps.toList ([], 0) 0 x.cps.toList) x.cps.toList.length ++ [(x.cps.toList.length, wVoid)] := rfl
      have hvl := Paired.length pr
      generalize hS : lexFrom x.cps.toList ([], 0) 0 x.cps.toList = S at *
      obtain ⟨F, p⟩ := S
      dsimp only at hb pr hvl ⊢
      have hfl := flush_len (T := x.cps.toList) (st := (F, p)) (p := x.cps.toList.length)
      dsimp only at hfl
      simp only [List.length_nil] at hb
      refine ⟨fun σ2 H2 => σ2 = [some (V.str x), some (V.ref l), some (nI p), xp, xs] ∧ ∃ vs2, Same H H2 ∧ H2 l = some (.lst vs2) ∧ Paired (RTk H2) vs2 (flush x.cps.toList (F, p) x.cps.toList.length), ?_, ?_⟩
      · refine ⟨_, rfl, _, rfl, x, rfl, by rw [sizeLine_eq]; omega, (p : Int), (x.length : Int), rfl, rfl, decide ((p : Int) < (x.length : Int)), rfl, ?_⟩
        by_cases hpi : p < x.cps.toList.length
        · rw [decide_eq_true (show (p : Int) < (x.length : Int) by omega)]
          refine iteT ?_
          refine ⟨_, rfl, .inl ⟨rfl, _, SqL.of hv⟩, _, rfl, _, rfl, _, rfl, p, rfl, x, rfl, by rw [sizeLine_eq]; omega, ?_⟩
          rw [cutS_end x p]
          refine ⟨by show 2 ≤ sizeLine; decide, fun Tp hTp => ?_⟩
          obtain ⟨a1, a2, a3⟩ := add_tok (p, cut x.cps.toList p x.cps.toList.length) hl st hv pr hTp
          refine ⟨l, vs, .ref Tp, rfl, rfl, a1, by rw [hvl, sizeLine_eq]; omega, rfl, _, a2, upd_same, ?_⟩
          unfold flush
          rw [if_pos hpi]
          exact a3
        · rw [decide_eq_false (show ¬ (p : Int) < (x.length : Int) by omega)]
          refine iteF ⟨rfl, vs, st, hv, ?_⟩
          unfold flush
          rw [if_neg hpi]
          exact pr
      · rintro σ2 H2 ⟨rfl, vs2, st2, hv2, pr2⟩
        have hl2 := Paired.length pr2
        refine ⟨_, rfl, .inl ⟨rfl, _, SqL.of hv2⟩, _, rfl, x, rfl, by rw [sizeLine_eq]; omega, by show 2 ≤ sizeLine; decide, fun Tp hTp => ?_⟩
        obtain ⟨a1, a2, a3⟩ := add_tok (x.length, wVoid) hl st2 hv2 pr2 hTp
        refine ⟨l, vs2, .ref Tp, rfl, rfl, a1, by rw [hl2, sizeLine_eq]; omega, _, rfl, q l _ a2 ⟨_, upd_same, ?_⟩⟩
        rw [hlw, hxl]
        rw [hxl] at a3
        exact a3
end
end Lt

set_option Elab.async false
set_option linter.all false
set_option maxRecDepth 100000
set_option maxHeartbeats 1000000
/-! expected, tree_from -/
namespace Lt
open PySem PySem.Spec PyProof.Rows L2
theorem flat_strs (ws : List Str) : (ws.map V.str).all flatV = true := by
  rw [List.all_map]
  exact List.all_eq_true.mpr fun _ _ => rfl
theorem inV_strs (w : Str) (ws : List Str) : inV (.str w) (ws.map V.str) = decide (w ∈ ws) := by
  unfold inV
  rw [List.any_map]
  induction ws with
  | nil => rfl
  | cons a ws ih =>
    rw [List.any_cons, ih]
    show ((a == w) || _) = _
    by_cases h : a = w
    · subst h
      rw [beq_self_eq_true, Bool.true_or, decide_eq_true (List.mem_cons_self ..)]
    · rw [beq_eq_false_iff_ne.mpr h, Bool.false_or]
      exact decide_eq_decide.mpr ⟨fun m => List.mem_cons_of_mem _ m, fun m => by
        rcases List.mem_cons.mp m with e | m
        · exact absurd e.symm h
        · exact m⟩
theorem LTk.get {H : Hp} {l : Addr} {ts : List Tok} (h : LTk H l ts) {i : Nat} {t : Tok} (g : ts[i]? = some t) : ∃ xs T, H l = some (.lst xs) ∧ xs[i]? = some (.ref T) ∧ H T = some (.tup [nI t.1, .str t.2]) := by
  obtain ⟨xs, h1, h2⟩ := h
  obtain ⟨v, h3, a, rfl, h4⟩ := Paired.getR h2 g
  exact ⟨xs, a, h1, h3, h4⟩
section
variable {P : Program} {w : World} {K : PySem.W.Frag} {mg : Str → Option Value} {base : Heap} {CB : Addr}
def spExpected (K : PySem.W.Frag) (CB : Addr) : Sp := fun vs H Q E => ∃ (l W : Addr) (at_ : Nat) (ts : List Tok) (p : Nat) (z : Str) (ws : List Str), vs = [.ref l, nI at_, .ref W] ∧ LTk H l ts ∧ ts[at_]? = some (p, z) ∧ SqT K H W (ws.map V.str) ∧ (z ∈ ws → Q (.str z) H) ∧ (z ∉ ws → BadF CB "place" (nI p) H E)
theorem sc_expected : FnScope ["words", "at", "wanted", "place", "word"] ["words", "at", "wanted"] (defScope s_expected) := ⟨rfl, rfl, rfl, by decide +kernel, rfl, by decide +kernel, by decide +kernel⟩
theorem has_expected (T : Top K mg "expected" s_expected ["words", "at", "wanted"]) (X1 : ErrI P w K mg base "BadSign" "place" CB) : Has P w K mg base (L2.CX P w) 3 "expected" ["words", "at", "wanted"] (spExpected K CB) := by
  refine T.okX sc_expected (fun vs H Q E h => ?_) (fun f cdv A outer s H vs Q E hr h => ?_)
  · obtain ⟨l, W, at_, ts, p, z, ws, rfl, _⟩ := h
    rfl
  · obtain ⟨l, W, at_, ts, p, z, ws, rfl, hl, hg, hW, qg, qb⟩ := h
    obtain ⟨xs, T, h1, h2, h3⟩ := hl.get hg
    refine ⟨_, pss_cons (ps_asg (pe_ix ix_list (pv 0) (pv 1) (fun _ _ => rfl)) (pg_tup rfl (pgs_cons (pg_name (i := 3) sc_expected.nd rfl (Or.inl rfl)) (pgs_cons (pg_name (i := 4) sc_expected.nd rfl (Or.inl rfl)) pgs_nil))))
      (pss_cons (ps_if (pt_cmpR op_notIn_seq (pv 4) (pv 2) (by rfl)) (pss_one (ps_raise rfl (takes_of rfl rfl rfl rfl) (pmk_errI X1 hr (by rfl) (pa_cons (pv 3) pa_nil)))) pss_nil)
      (pss_one (ps_ret (pv 4)))), ?_⟩
    refine ⟨_, rfl, _, rfl, l, xs, (at_ : Int), .ref T, rfl, rfl, SqL.of h1, atI_nat h2, T, _, rfl, SqT.of h3, rfl, nI p, _, rfl, .str z, _, rfl, rfl, ?_⟩
    refine ⟨_, rfl, _, rfl, W, ws.map V.str, rfl, .inr hW, rfl, flat_strs ws, !decide (z ∈ ws), ?_, ?_⟩
    · rw [inV_strs]
      rfl
    · by_cases hz : z ∈ ws
      · rw [decide_eq_true hz]
        exact iteF ⟨_, rfl, qg hz⟩
      · rw [decide_eq_false hz]
        exact iteT ⟨_, rfl, mk_read X1.oex X1.no (qb hz)⟩
end
end Lt

set_option Elab.async false
set_option linter.all false
set_option maxRecDepth 100000
set_option maxHeartbeats 1000000
/-! tree_from -/
namespace Lt
open PySem PySem.Spec PyProof.Rows L2
/-- a formula's tree over m inputs -/
inductive TreV (H : Hp) (m : Nat) : Nat → V → Prop
  | leaf {d i : Nat} : i < m → TreV H m d (nI i)
  | neg {d : Nat} {a : Addr} {v : V} : H a = some (.tup [.str wNot, v]) → TreV H m d v → TreV H m (d + 1) (.ref a)
  | two {d : Nat} {a : Addr} {j : Str} {v u : V} : H a = some (.tup [.str j, v, u]) → j ∈ joins → TreV H m d v → TreV H m d u → TreV H m (d + 1) (.ref a)
theorem TreV.same {H H' : Hp} {m d : Nat} {v : V} (e : Same H H') (h : TreV H m d v) : TreV H' m d v := by
  induction h with
  | leaf h => exact .leaf h
  | neg h _ ih => exact .neg (e _ _ h) ih
  | two h j _ _ i1 i2 => exact .two (e _ _ h) j i1 i2
theorem word_eq (a b : Str) : decide (V.str a = V.str b) = decide (a = b) := decide_eq_decide.mpr ⟨fun h => by injection h, fun h => by rw [h]⟩
theorem Ends1.get {ts : List Tok} {k : Nat} (h : Ends1 (ts.drop k)) : ∃ t, ts[k]? = some t := by
  have := List.length_pos_iff.mpr h.ne
  rw [List.length_drop] at this
  exact ⟨ts[k], List.getElem?_eq_getElem (by omega)⟩
theorem drop_at {ts : List Tok} {k : Nat} {t : Tok} (h : ts[k]? = some t) : ts.drop k = t :: ts.drop (k + 1) := by
  obtain ⟨hl, e⟩ := List.getElem?_eq_some_iff.mp h
  rw [← e, List.drop_eq_getElem_cons hl]
theorem first_ix {w : Str} : ∀ {ns : List Str}, w ∈ ns → ∃ j, j < ns.length ∧ ns[j]? = some w ∧ ∀ (m : Nat) (z : Str), m < j → ns[m]? = some z → z ≠ w
  | a :: ns, h => by
    by_cases e : a = w
    · exact ⟨0, Nat.succ_pos _, by rw [e]; rfl, fun m z hm => absurd hm (Nat.not_lt_zero _)⟩
    · have h' : w ∈ ns := by
        rcases List.mem_cons.mp h with z | z
        · exact absurd z.symm e
        · exact z
      obtain ⟨j, h1, h2, h3⟩ := first_ix h'
      refine ⟨j + 1, Nat.succ_lt_succ h1, h2, fun m z hm hz => ?_⟩
      cases m with
      | zero =>
        injection hz with hz
        rw [← hz]
        exact e
      | succ m => exact h3 m z (Nat.lt_of_succ_lt_succ hm) hz
section
variable {P : Program} {w : World} {K : PySem.W.Frag} {mg : Str → Option Value} {base : Heap} {CB : Addr}
def spTree (CB : Addr) (f : Nat) : Sp := fun vs H Q E => ∃ (n l : Addr) (at_ ar : Nat) (ns : List Str) (ts : List Tok), vs = [.ref n, .ref l, nI at_, nI ar] ∧ H n = some (.lst (ns.map V.str)) ∧ LTk H l ts ∧ Nms ns ∧
  Ends1 (ts.drop at_) ∧ opens (ts.drop at_) < f ∧ ar + opens (ts.drop at_) ≤ 20 ∧
  (∀ p, prs ns f ar (ts.drop at_) = .error p → BadF CB "place" (nI p) H E) ∧
  (∀ r, prs ns f ar (ts.drop at_) = .ok r → ∀ (a : Addr) (v : V) (k : Nat) (H' : Hp), Same H H' → H' a = some (.tup [v, nI k]) → TreV H' ns.length f v → ts.drop k = r → Q (.ref a) H')
theorem sc_tree_from : FnScope ["names", "words", "at", "around", "place", "word", "tree", "left", "joiner", "right"] ["names", "words", "at", "around"] (defScope s_tree_from) := ⟨rfl, rfl, rfl, by decide +kernel, rfl, by decide +kernel, by decide +kernel⟩
/-- the names that tree_from reads -/
structure GlT (K : PySem.W.Frag) (mg : Str → Option Value) : Prop where
  most : ∃ u, mg "MOST_AROUND" = some u ∧ RelV (.int 20) u
  join : ∃ J : Addr, mg "JOINERS" = some (.ref J) ∧ ∀ H, SqT K H J (joins.map V.str)
theorem has_tree_from (T : Top K mg "tree_from" s_tree_from ["names", "words", "at", "around"]) (X1 : ErrI P w K mg base "BadSign" "place" CB) (G : GlT K mg)
    (hX : Has P w K mg base (L2.CX P w) 3 "expected" ["words", "at", "wanted"] (spExpected K CB)) : ∀ f, Has P w K mg base (L2.CX P w) (f + 4) "tree_from" ["names", "words", "at", "around"] (spTree CB f)
  | 0 => T.okX sc_tree_from (fun vs H Q E h => by obtain ⟨n, l, at_, ar, ns, ts, rfl, _⟩ := h; rfl) (fun f cdv A outer s H vs Q E hr h => by
      obtain ⟨n, l, at_, ar, ns, ts, rfl, h1, h2, h3, h4, h5, _⟩ := h
      exact absurd h5 (Nat.not_lt_zero _))
  | fu + 1 => by
    have ih := has_tree_from T X1 G hX fu
    refine T.okX sc_tree_from (fun vs H Q E h => ?_) (fun f cdv A outer s H vs Q E hr h => ?_)
    · obtain ⟨n, l, at_, ar, ns, ts, rfl, _⟩ := h
      rfl
    · obtain ⟨n, l, at_, ar, ns, ts, rfl, hn, hl, N, he, ho, ha, bad, good⟩ := h
      have hr2 : Room 2 _ := hr.mono (by omega)
      have hr3 : Room 3 _ := hr.mono (by omega)
      obtain ⟨J, hJ, sJ⟩ := G.join
      refine ⟨_, pss_cons (ps_asg (pe_ix ix_list (pv 1) (pv 2) (fun _ _ => rfl)) (pg_tup rfl (pgs_cons (pg_name (i := 4) sc_tree_from.nd rfl (Or.inl rfl)) (pgs_cons (pg_name (i := 5) sc_tree_from.nd rfl (Or.inl rfl)) pgs_nil))))
        (pss_cons (ps_if (pt_cmpR op_gt (pv 3) (pe_gc2 (by rfl) G.most) (nomark _)) (pss_one (ps_raise rfl (takes_of rfl rfl rfl rfl) (pmk_errI X1 hr2 (by rfl) (pa_cons (pv 4) pa_nil)))) pss_nil)
        (pss_cons (ps_if (pt_cmpR op_in_seq (pv 5) (pv 0) (by rfl)) (pss_one (ps_ret (pe_tup (pa_cons (pe_bm PySem.F.plainAttrs_list PySem.F.slot_list_index PySem.F.type_list_index mt_index (pv 0) (pa_cons (pv 5) pa_nil)) (pa_cons (pe_op op_add (pv 2) pe_int) pa_nil))))) pss_nil)
        (pss_cons (ps_if (pt_cmpR op_eq (pv 5) pe_str (nomark _))
          (pss_cons (ps_asg (pe_hasX (E := E) ih hr (by rfl) (passes_call (takes_of rfl rfl rfl rfl) (fun _ _ _ _ h => h)) (pa_cons (pv 0) (pa_cons (pv 1) (pa_cons (pe_op op_add (pv 2) pe_int) (pa_cons (pe_op op_add (pv 3) pe_int) pa_nil))))) (pg_tup rfl (pgs_cons (pg_name (i := 6) sc_tree_from.nd rfl (Or.inl rfl)) (pgs_cons (pg_name (i := 2) sc_tree_from.nd rfl (Or.inl rfl)) pgs_nil))))
          (pss_one (ps_ret (pe_tup (pa_cons (pe_tup (pa_cons (pv 5) (pa_cons (pv 6) pa_nil))) (pa_cons (pv 2) pa_nil)))))) pss_nil)
        (pss_cons (ps_if (pt_cmpR op_ne (pv 5) pe_str (nomark _)) (pss_one (ps_raise rfl (takes_of rfl rfl rfl rfl) (pmk_errI X1 hr2 (by rfl) (pa_cons (pv 4) pa_nil)))) pss_nil)
        (pss_cons (ps_asg (pe_hasX (E := E) ih hr (by rfl) (passes_call (takes_of rfl rfl rfl rfl) (fun _ _ _ _ h => h)) (pa_cons (pv 0) (pa_cons (pv 1) (pa_cons (pe_op op_add (pv 2) pe_int) (pa_cons (pe_op op_add (pv 3) pe_int) pa_nil))))) (pg_tup rfl (pgs_cons (pg_name (i := 7) sc_tree_from.nd rfl (Or.inl rfl)) (pgs_cons (pg_name (i := 2) sc_tree_from.nd rfl (Or.inl rfl)) pgs_nil))))
        (pss_cons (ps_set (i := 8) sc_tree_from.nd rfl (Or.inl rfl) (pe_hasX (E := E) hX hr3 (by rfl) (passes_call (takes_of rfl rfl rfl rfl) (fun _ _ _ _ h => h)) (pa_cons (pv 1) (pa_cons (pv 2) (pa_cons (pe_glob (v := .ref J) (by rfl) hJ rfl) pa_nil)))))
        (pss_cons (ps_asg (pe_hasX (E := E) ih hr (by rfl) (passes_call (takes_of rfl rfl rfl rfl) (fun _ _ _ _ h => h)) (pa_cons (pv 0) (pa_cons (pv 1) (pa_cons (pe_op op_add (pv 2) pe_int) (pa_cons (pe_op op_add (pv 3) pe_int) pa_nil))))) (pg_tup rfl (pgs_cons (pg_name (i := 9) sc_tree_from.nd rfl (Or.inl rfl)) (pgs_cons (pg_name (i := 2) sc_tree_from.nd rfl (Or.inl rfl)) pgs_nil))))
        (pss_cons (ps_expr (pe_hasX (E := E) hX hr3 (by rfl) (passes_call (takes_of rfl rfl rfl rfl) (fun _ _ _ _ h => h)) (pa_cons (pv 1) (pa_cons (pv 2) (pa_cons (pe_tup (pa_cons pe_str pa_nil)) pa_nil)))))
        (pss_one (ps_ret (pe_tup (pa_cons (pe_tup (pa_cons (pv 8) (pa_cons (pv 7) (pa_cons (pv 9) pa_nil)))) (pa_cons (pe_op op_add (pv 2) pe_int) pa_nil))))))))))))), ?_⟩
      obtain ⟨⟨p, w0⟩, hg⟩ := he.get
      obtain ⟨xs, T0, h1, h2, h3⟩ := hl.get hg
      have PM := prs_mach N (fu + 1) ar (ts.drop at_) [] he ho ha
      rw [drop_at hg] at he ho ha bad good
      rw [opens_cons] at ho ha
      have har : ¬ 20 < ar := by omega
      refine ⟨_, rfl, _, rfl, l, xs, (at_ : Int), .ref T0, rfl, rfl, SqL.of h1, atI_nat h2, T0, _, rfl, SqT.of h3, rfl, nI p, _, rfl, .str w0, _, rfl, rfl, ?_⟩
      refine ⟨_, rfl, (ar : Int), 20, rfl, rfl, decide ((20 : Int) < (ar : Int)), rfl, ?_⟩
      rw [decide_eq_false (show ¬ (20 : Int) < (ar : Int) by omega)]
      refine iteF ?_
      refine ⟨_, rfl, _, rfl, n, ns.map V.str, rfl, .inl (SqL.of hn), rfl, flat_strs ns, decide (w0 ∈ ns), congrArg V.bl (inV_strs w0 ns), ?_⟩
      rw [prs, if_neg har] at bad good
      by_cases m1 : w0 ∈ ns
      · rw [decide_eq_true m1]
        rw [if_pos m1] at bad good
        obtain ⟨j, j1, j2, j3⟩ := first_ix m1
        refine iteT ⟨_, rfl, .inl ⟨rfl, _, SqL.of hn⟩, _, rfl, n, ns.map V.str, .str w0, j, .str w0, rfl, rfl, SqL.of hn, rfl, flat_strs ns, by rw [List.getElem?_map, j2]; rfl, beq_self_eq_true _, fun m z' hm hz => ?_, _, rfl, (at_ : Int), 1, rfl, rfl, by show 2 ≤ sizeLine; decide, fun a ha0 => ?_⟩
        · rw [List.getElem?_map] at hz
          obtain ⟨z, hz1, rfl⟩ := Option.map_eq_some_iff.mp hz
          exact beq_eq_false_iff_ne.mpr (j3 m z hm hz1)
        · exact good _ rfl a (nI j) (at_ + 1) _ (same_new ha0) upd_same (.leaf j1) rfl
      · rw [decide_eq_false m1]
        rw [if_neg m1] at bad good
        refine iteF ?_
        refine ⟨_, rfl, rfl, decide (w0 = wNot), congrArg V.bl (word_eq w0 wNot), ?_⟩
        by_cases m2 : w0 = wNot
        · rw [decide_eq_true m2]
          rw [if_pos m2] at bad good
          rw [if_pos (isOpen_not m2)] at ho ha
          refine iteT ⟨_, rfl, _, rfl, _, rfl, (at_ : Int), 1, rfl, rfl, _, rfl, (ar : Int), 1, rfl, rfl, n, l, at_ + 1, ar + 1, ns, ts, rfl, hn, hl, N, he.tl (show w0 ≠ wVoid by rw [m2]; exact words_ne.1), by omega, by omega, bad, fun r hp a v k H1 s1 ha1 tv hk => ?_⟩
          refine ⟨a, _, rfl, SqT.of ha1, rfl, v, _, rfl, nI k, _, rfl, rfl, ?_⟩
          refine ⟨_, rfl, _, rfl, by show 2 ≤ sizeLine; decide, fun T2 hT2 => ⟨_, rfl, by show 2 ≤ sizeLine; decide, fun T3 hT3 => ?_⟩⟩
          have s2 := same_new (o := .tup [V.str w0, v]) hT2
          have s3 := same_new (o := .tup [V.ref T2, nI k]) hT3
          refine good r hp T3 (.ref T2) k _ (s1.trans (s2.trans s3)) upd_same (.neg (v := v) ?_ (tv.same (s2.trans s3))) hk
          rw [← m2]
          exact s3 _ _ upd_same
        · rw [decide_eq_false m2]
          rw [if_neg m2] at bad good
          refine iteF ?_
          refine ⟨_, rfl, rfl, !decide (w0 = wOp), congrArg (fun b => V.bl (!b)) (word_eq w0 wOp), ?_⟩
          by_cases m3 : w0 = wOp
          · rw [decide_eq_true m3]
            rw [if_neg (fun z => z m3)] at bad good
            rw [if_pos (isOpen_op m3)] at ho ha
            have e1 := he.tl (show w0 ≠ wVoid by rw [m3]; exact words_ne.2.1)
            have A1 := prs_mach N fu (ar + 1) (ts.drop (at_ + 1)) [] e1 (by omega) (by omega)
            refine iteF ⟨_, rfl, _, rfl, _, rfl, (at_ : Int), 1, rfl, rfl, _, rfl, (ar : Int), 1, rfl, rfl, n, l, at_ + 1, ar + 1, ns, ts, rfl, hn, hl, N, e1, by omega, by omega, fun p hp => ?_, fun r hp a v k H1 s1 ha1 tv hk => ?_⟩
            · rw [hp] at bad
              exact bad p rfl
            · rw [hp] at bad good A1
              obtain ⟨e2, k1, a2, a3, _⟩ := A1
              rw [← hk] at e2 a3 bad good
              obtain ⟨⟨p2, w2⟩, g2⟩ := e2.get
              rw [drop_at g2] at e2 a3 bad good
              dsimp only at bad good
              rw [opens_cons] at a3
              refine ⟨a, _, rfl, SqT.of ha1, rfl, v, _, rfl, nI k, _, rfl, rfl, ?_⟩
              have hl1 := hl.same s1
              refine ⟨_, rfl, _, rfl, l, J, k, ts, p2, w2, joins, rfl, hl1, g2, sJ _, fun m4 => ?_, fun m4 => ?_⟩
              · rw [if_neg (fun z => z m4)] at bad good
                have e3 := e2.tl (show w2 ≠ wVoid from fun e => words_ne.2.2.2.1 (e ▸ m4))
                have A2 := prs_mach N fu (ar + 1) (ts.drop (k + 1)) [] e3 (by omega) (by omega)
                refine ⟨_, rfl, _, rfl, _, rfl, (k : Int), 1, rfl, rfl, _, rfl, (ar : Int), 1, rfl, rfl, n, l, k + 1, ar + 1, ns, ts, rfl, s1 _ _ hn, hl1, N, e3, by omega, by omega, fun p hp => ?_, fun r2 hp2 a' u k2 H2 s2 ha2 tu hk2 => ?_⟩
                · rw [hp] at bad
                  exact (bad p rfl).same s1
                · rw [hp2] at bad good A2
                  obtain ⟨e4, _, _, a4, _⟩ := A2
                  rw [← hk2] at e4 bad good
                  obtain ⟨⟨p4, w4⟩, g4⟩ := e4.get
                  rw [drop_at g4] at e4 bad good
                  dsimp only at bad good
                  refine ⟨a', _, rfl, SqT.of ha2, rfl, u, _, rfl, nI k2, _, rfl, rfl, ?_⟩
                  have s12 := s1.trans s2
                  refine ⟨_, rfl, _, rfl, by show 1 ≤ sizeLine; decide, fun T4 hT4 => ?_⟩
                  have s3 := same_new (o := .tup [V.str wCl]) hT4
                  refine ⟨l, T4, k2, ts, p4, w4, [wCl], rfl, (hl.same s12).same s3, g4, SqT.of upd_same, fun m5 => ?_, fun m5 => ?_⟩
                  · have m5' : w4 = wCl := List.mem_singleton.mp m5
                    rw [if_neg (fun z => z m5')] at good
                    refine ⟨_, rfl, _, rfl, _, rfl, by show 3 ≤ sizeLine; decide, fun T5 hT5 => ⟨_, rfl, (k2 : Int), 1, rfl, rfl, by show 2 ≤ sizeLine; decide, fun T6 hT6 => ?_⟩⟩
                    have s5 := same_new (o := .tup [V.str w2, v, u]) hT5
                    have s6 := same_new (o := .tup [V.ref T5, V.int ((k2 : Int) + 1)]) hT6
                    exact good _ rfl T6 (.ref T5) (k2 + 1) _ (s12.trans (s3.trans (s5.trans s6))) upd_same (.two (s6 _ _ upd_same) m4 (tv.same (s2.trans (s3.trans (s5.trans s6)))) (tu.same (s3.trans (s5.trans s6)))) rfl
                  · have m5' : w4 ≠ wCl := fun z => m5 (List.mem_singleton.mpr z)
                    rw [if_pos m5'] at bad
                    exact ((bad p4 rfl).same s12).same s3
              · rw [if_pos m4] at bad
                exact (bad p2 rfl).same s1
          · rw [decide_eq_false m3]
            rw [if_pos m3] at bad good
            exact iteT ⟨_, rfl, mk_read X1.oex X1.no (bad p rfl)⟩
end
end Lt

set_option Elab.async false
set_option linter.all false
set_option maxRecDepth 100000
set_option maxHeartbeats 1000000
/-! check_inputs, formula_tree -/
namespace Lt
open PySem PySem.Spec PyProof.Rows L2
/-- the name of an input -/
def xN (i : Nat) : Str := Str.empty ++ ("x" : Str) ++ Str.ofString (toString ((i : Nat) : Int))
def nmL (m : Nat) : List Str := (List.range m).map xN
theorem lexWords_ends (x : Str) : Ends1 (lexWords x) := ⟨_, _, rfl⟩
def RStr (_ : Hp) (v : V) (z : Str) : Prop := v = .str z
theorem RStr.all {H : Hp} : ∀ {zs : List V} {t : List Str}, Paired (RStr H) zs t → zs = t.map V.str
  | _, _, .nil => rfl
  | _, _, .cons r t => by rw [(show _ = V.str _ from r), RStr.all t]; rfl
theorem log_small {i : Nat} (h : i < 1000) : ((i : Nat) : Int).natAbs.log2 < 1920 := by
  rw [Int.natAbs_natCast]
  by_cases z : i = 0
  · subst z; decide +kernel
  · exact (Nat.log2_lt z).mpr (Nat.lt_of_lt_of_le h (by decide +kernel))
def tXn : TE := fun σ H Q => tJs [tC (.str "x"), tFmt (tVar 6)] Str.empty σ H fun out H1 => Q (.str out) H1
theorem xN_len : ∀ i, i < 6 → (Str.empty ++ ("x" : Str)).length ≤ 16777216 ∧ (xN i).length ≤ 16777216 := by decide +kernel
section
variable {P : Program} {w : World} {K : PySem.W.Frag} {mg : Str → Option Value} {base : Heap} {CB CN CS : Addr}
def spCheckIn : Sp := fun vs H Q _ => ∃ m : Nat, vs = [nI m] ∧ 1 ≤ m ∧ m ≤ 6 ∧ Q .non H
theorem sc_check_inputs : FnScope ["inputs"] ["inputs"] (defScope s_check_inputs) := ⟨rfl, rfl, rfl, by decide +kernel, rfl, by decide +kernel, by decide +kernel⟩
theorem has_check_inputs (T : Top K mg "check_inputs" s_check_inputs ["inputs"]) (G : ∃ u, mg "MOST_INPUTS" = some u ∧ RelV (.int 6) u) (X0 : Err0 K mg "BadNumber" CN) (hN : Has P w K mg base CX0 1 "is_number" ["value"] spNum) : Has P w K mg base (L2.CX P w) 3 "check_inputs" ["inputs"] spCheckIn := by
  refine T.okX sc_check_inputs (fun vs H Q E h => ?_) (fun f cdv A outer s H vs Q E hr h => ?_)
  · obtain ⟨m, rfl, _⟩ := h
    rfl
  · obtain ⟨m, rfl, h1, h6, q⟩ := h
    have hr1 : Room 1 _ := hr.mono (by decide)
    refine ⟨_, pss_one (ps_if (PW.pt (pw_or (pt_not (pt_val (pe_has hN hr1 (by rfl) (pa_cons (pv 0) pa_nil)))) (pw_or1 (pt_not (pt_chain op_le op_le pe_int (pv 0) (pe_gc2 (by rfl) G)))))) (pss_one (ps_raise rfl (takes_of rfl rfl rfl rfl) (pmk_err0 X0 (by rfl)))) pss_nil), ?_⟩
    refine ⟨_, rfl, nI m, .int m, rfl, .int _, true, rfl, iteF ⟨_, rfl, 1, (m : Int), rfl, rfl, true, congrArg V.bl (decide_eq_true (show (1 : Int) ≤ (m : Int) by omega)), iteT ⟨(m : Int), 6, rfl, rfl, true, congrArg V.bl (decide_eq_true (show (m : Int) ≤ 6 by omega)), iteF q⟩⟩⟩
def spFT (CB : Addr) : Sp := fun vs H Q E => ∃ (m : Nat) (x : Str), vs = [nI m, .str x] ∧ 1 ≤ m ∧ m ≤ 6 ∧ x.length ≤ 1000 ∧ Nms (nmL m) ∧ opens (lexWords x) ≤ 20 ∧
  (∀ p, prs (nmL m) 21 0 (lexWords x) = .error p → BadF CB "place" (nI p) H E) ∧
  (∀ r, prs (nmL m) 21 0 (lexWords x) = .ok r → (r.length < 2 → ∀ v H', Same H H' → TreV H' m 21 v → Q v H') ∧ ∀ t r', r = t :: r' → 2 ≤ r.length → BadF CB "place" (nI t.1) H E)
theorem sc_formula_tree : FnScope ["inputs", "text", "words", "names", "tree", "at", "own"] ["inputs", "text"] (defScope s_formula_tree) := ⟨rfl, rfl, rfl, by decide +kernel, rfl, by decide +kernel, by decide +kernel⟩
theorem has_formula_tree (T : Top K mg "formula_tree" s_formula_tree ["inputs", "text"]) (B : Bi mg) (X1 : ErrI P w K mg base "BadSign" "place" CB) (X2 : Err0 K mg "BadString" CS)
    (hC : Has P w K mg base (L2.CX P w) 3 "check_inputs" ["inputs"] spCheckIn) (hW : Has P w K mg base CX0 1 "placed_words" ["text"] spWordsT)
    (hT : Has P w K mg base (L2.CX P w) 25 "tree_from" ["names", "words", "at", "around"] (spTree CB 21)) : Has P w K mg base (L2.CX P w) 26 "formula_tree" ["inputs", "text"] (spFT CB) := by
  refine T.okX sc_formula_tree (fun vs H Q E h => ?_) (fun f cdv A outer s H vs Q E hr h => ?_)
  · obtain ⟨m, x, rfl, _⟩ := h
    rfl
  · obtain ⟨m, x, rfl, h1, h6, hx, N, ho, bad, good⟩ := h
    have hr1 : Room 1 _ := hr.mono (by decide)
    have hr2 : Room 2 _ := hr.mono (by decide)
    have hr3 : Room 3 _ := hr.mono (by decide)
    refine ⟨_, pss_cons (ps_expr (pe_hasL hC hr3 (by rfl) (pa_cons (pv 0) pa_nil)))
      (pss_cons (ps_if (pt_not (pt_val (pe_callB call_isi (by rfl) B.isinstance PyProof.Rows.boot_isinstance (pa_cons (pv 1) (pa_cons (pe_bltn (by rfl) B.str PyProof.Rows.boot_str (rr_ty "str")) pa_nil))))) (pss_one (ps_raise rfl (takes_of rfl rfl rfl rfl) (pmk_err0 X2 (by rfl)))) pss_nil)
      (pss_cons (ps_set (i := 2) sc_formula_tree.nd rfl (Or.inl rfl) (pe_has hW hr1 (by rfl) (pa_cons (pv 1) pa_nil)))
      (pss_cons (ps_setLc (i := 3) (own := [("own", 6)]) (g := gName 6) (te := tXn) (by rfl) sc_formula_tree.nd rfl rfl (sw_true rfl rfl rfl (by decide +kernel)) (pi_range1 (by rfl) B.range (pa_cons (pv 0) pa_nil)) (blkOk_by (own := [("own", 6)]) (N := ["inputs", "text", "words", "names", "tree", "at", "own"]) (sc := defScope s_formula_tree) (by decide +kernel))
        (fun _ _ _ _ _ => pg_name (i := 6) sc_formula_tree.nd rfl (Or.inl rfl)) (fun _ _ _ _ _ => pts_nil) (fun _ _ _ _ _ => pe_joined (.cons pe_str (.cons (pe_fmt (pv 6)) .nil))))
      (pss_cons (ps_asg (pe_hasX (E := E) hT hr (by rfl) (passes_call (takes_of rfl rfl rfl rfl) (fun _ _ _ _ h => h)) (pa_cons (pv 3) (pa_cons (pv 2) (pa_cons pe_int (pa_cons pe_int pa_nil))))) (pg_tup rfl (pgs_cons (pg_name (i := 4) sc_formula_tree.nd rfl (Or.inl rfl)) (pgs_cons (pg_name (i := 5) sc_formula_tree.nd rfl (Or.inl rfl)) pgs_nil))))
      (pss_cons (ps_if (pt_cmpR op_lt (pv 5) (pe_op op_sub (pe_callB call_len_seq (by rfl) B.len PySem.boot_len (pa_cons (pv 2) pa_nil)) pe_int) (nomark _)) (pss_one (ps_raise rfl (takes_of rfl rfl rfl rfl) (pmk_errI X1 hr2 (by rfl) (pa_cons (pe_ix ix_tup (pe_ix ix_list (pv 2) (pv 5) (fun _ _ => rfl)) pe_int (fun _ _ => rfl)) pa_nil)))) pss_nil)
      (pss_one (ps_ret (pv 4)))))))), ?_⟩
    refine ⟨_, rfl, m, rfl, h1, h6, ?_⟩
    refine ⟨_, rfl, .str x, .ty "str", _, _, true, rfl, .ty _, rp_ty (.str x), kit_ty (kit_str (.str x)), true, rfl, iteF ?_⟩
    refine ⟨_, rfl, x, rfl, hx, fun l H1 s1 hl => ?_⟩
    refine ⟨_, rfl, (m : Int), rfl, by omega, by omega, fun D hD => lc_rangeM (n := (m : Int).toNat) RStr (nmL m) (fun _ _ _ _ _ r => r) (by omega) (by unfold nmL; rw [List.length_map, List.length_range, Int.toNat_natCast]) hD (fun x => rfl) (fun i z hi hz H' sm Q' q' => ?_) (fun H2 zs s2 hz pr => ?_)⟩
    · have hi6 : i < 6 := by omega
      have ez : z = xN i := by
        unfold nmL at hz
        rw [List.getElem?_map, List.getElem?_range (by omega)] at hz
        exact (Option.some.inj hz).symm
      obtain ⟨l1, l2⟩ := xN_len i hi6
      refine ⟨("x" : Str), rfl, by rw [sizeLine_eq]; exact l1, _, rfl, .inr ⟨((i : Nat) : Int), congrArg V.int (Int.zero_add _), log_small (by omega), _, rfl, by rw [sizeLine_eq]; exact l2, q' _ H' (Same.refl _) ?_⟩⟩
      rw [ez]
      rfl
    · rw [RStr.all pr] at hz
      have sD : Same H H2 := s1.trans s2
      have hl2 := hl.same s2
      refine ⟨_, rfl, _, rfl, D, l, 0, 0, nmL m, lexWords x, rfl, hz, hl2, N, lexWords_ends x, by show opens (lexWords x) < 21; omega, by show 0 + opens (lexWords x) ≤ 20; omega, fun p hp => (bad p hp).same sD, fun r hp a v k H3 s3 ha tv hk => ?_⟩
      obtain ⟨g1, g2⟩ := good r hp
      have PM := prs_mach N 21 0 (lexWords x) [] (lexWords_ends x) (by omega) (by omega)
      rw [show prs (nmL m) 21 0 (lexWords x) = .ok r from hp] at PM
      have hne := PM.1.ne
      have hl3 := hl2.same s3
      obtain ⟨xs, hx1, hx2⟩ := hl3
      have hxl := Paired.length hx2
      have hrl : r.length = (lexWords x).length - k := by rw [← hk, List.length_drop]
      have hrp : 0 < r.length := List.length_pos_iff.mpr hne
      refine ⟨a, _, rfl, SqT.of ha, rfl, v, _, rfl, nI k, _, rfl, rfl, ?_⟩
      refine ⟨_, rfl, _, rfl, l, xs, rfl, .inl (SqL.of hx1), (xs.length : Int), 1, rfl, rfl, (k : Int), (xs.length : Int) - 1, rfl, rfl, decide ((k : Int) < (xs.length : Int) - 1), rfl, ?_⟩
      by_cases h2 : r.length < 2
      · rw [decide_eq_false (show ¬ (k : Int) < (xs.length : Int) - 1 by omega)]
        refine iteF ⟨_, rfl, g1 h2 _ _ (sD.trans s3) ?_⟩
        have el : (nmL m).length = m := by unfold nmL; rw [List.length_map, List.length_range]
        rw [el] at tv
        exact tv
      · rw [decide_eq_true (show (k : Int) < (xs.length : Int) - 1 by omega)]
        cases r with
        | nil => exact absurd rfl hne
        | cons t r' =>
          have hgt : (lexWords x)[k]? = some t := by
            have := drop_get (n := 0) hk.symm rfl
            exact this
          obtain ⟨xs', T, k1, k2, k3⟩ := (LTk.get ⟨xs, hx1, hx2⟩ hgt)
          refine iteT ⟨_, rfl, _, rfl, l, xs', (k : Int), .ref T, rfl, rfl, SqL.of k1, atI_nat k2, T, _, 0, nI t.1, rfl, rfl, SqT.of k3, rfl, ?_⟩
          exact mk_read X1.oex X1.no (((g2 t r' rfl (by omega)).same sD).same s3)
end
end Lt

set_option Elab.async false
set_option linter.all false
set_option maxRecDepth 100000
set_option maxHeartbeats 1000000
/-! tree_from of a formula that stands: the tree itself (for k04) -/
namespace Lt
open PySem PySem.Spec PyProof.Rows L2
inductive Fm
  | x (i : Nat)
  | no (f : Fm)
  | two (j : Str) (f g : Fm)
def Fm.spell : Fm → List Str
  | .x i => [xN i]
  | .no f => wNot :: f.spell
  | .two j f g => wOp :: (f.spell ++ (j :: (g.spell ++ [wCl])))
def Fm.deep : Fm → Nat
  | .x _ => 0
  | .no f => f.deep + 1
  | .two _ f g => max f.deep g.deep + 1
/-- over m inputs, joined by and, or, xor -/
def Fm.Ok (m : Nat) : Fm → Prop
  | .x i => i < m
  | .no f => f.Ok m
  | .two j f g => j ∈ joins ∧ f.Ok m ∧ g.Ok m
/-- the tree in the heap -/
def Fm.At (H : Hp) : Fm → V → Prop
  | .x i, v => v = nI i
  | .no f, v => ∃ a u, v = .ref a ∧ H a = some (.tup [.str wNot, u]) ∧ f.At H u
  | .two j f g, v => ∃ a u t, v = .ref a ∧ H a = some (.tup [.str j, u, t]) ∧ f.At H u ∧ g.At H t
theorem Fm.At.same {H H' : Hp} (e : Same H H') : ∀ {f : Fm} {v : V}, f.At H v → f.At H' v
  | .x _, _, h => h
  | .no _, _, ⟨a, u, h1, h2, h3⟩ => ⟨a, u, h1, e _ _ h2, Fm.At.same e h3⟩
  | .two _ _ _, _, ⟨a, u, t, h1, h2, h3, h4⟩ => ⟨a, u, t, h1, e _ _ h2, Fm.At.same e h3, Fm.At.same e h4⟩
theorem xN_inj : ∀ i, i < 6 → ∀ j, j < 6 → xN i = xN j → i = j := by decide +kernel
theorem nm_get {m i : Nat} (h : i < m) : (nmL m)[i]? = some (xN i) := by
  unfold nmL
  rw [List.getElem?_map, List.getElem?_range h]
  rfl
theorem nms_okE : ∀ m, m ≤ 6 → (wNot ∉ nmL m ∧ wOp ∉ nmL m ∧ wVoid ∉ nmL m) ∧ wX0 ∉ nmL m ∧ ("X" : Str) ∉ nmL m := by decide +kernel
section
variable {P : Program} {w : World} {K : PySem.W.Frag} {mg : Str → Option Value} {base : Heap} {CB : Addr}
def spTreeE (fu : Nat) : Sp := fun vs H Q _ => ∃ (n l : Addr) (at_ ar m : Nat) (ts : List Tok) (f : Fm) (rest : List Str), vs = [.ref n, .ref l, nI at_, nI ar] ∧ H n = some (.lst ((nmL m).map V.str)) ∧ m ≤ 6 ∧ LTk H l ts ∧ f.Ok m ∧ f.deep < fu ∧ ar + f.deep ≤ 20 ∧
  (ts.drop at_).map (·.2) = f.spell ++ rest ∧
  (∀ (a : Addr) (v : V) (k : Nat) (H' : Hp), Same H H' → H' a = some (.tup [v, nI k]) → f.At H' v → k = at_ + f.spell.length → Q (.ref a) H')
theorem tok_at {ts : List Tok} {k : Nat} {w0 : Str} {r : List Str} (h : (ts.drop k).map (·.2) = w0 :: r) : ∃ p, ts[k]? = some (p, w0) ∧ (ts.drop (k + 1)).map (·.2) = r := by
  cases hd : ts.drop k with
  | nil => rw [hd] at h; cases h
  | cons t ts' =>
    rw [hd] at h
    injection h with h1 h2
    refine ⟨t.1, ?_, ?_⟩
    · have := drop_get (n := 0) hd.symm rfl
      rw [← h1]
      exact this
    · have e := drop_tl hd.symm
      rw [← e]
      exact h2
theorem has_tree_fromE (T : Top K mg "tree_from" s_tree_from ["names", "words", "at", "around"]) (X1 : ErrI P w K mg base "BadSign" "place" CB) (G : GlT K mg)
    (hX : Has P w K mg base (L2.CX P w) 3 "expected" ["words", "at", "wanted"] (spExpected K CB)) : ∀ f, Has P w K mg base (L2.CX P w) (f + 4) "tree_from" ["names", "words", "at", "around"] (spTreeE f)
  | 0 => T.okX sc_tree_from (fun vs H Q E h => by obtain ⟨n, l, at_, ar, m, ts, g, rest, rfl, _⟩ := h; rfl) (fun f cdv A outer s H vs Q E hr h => by
      obtain ⟨n, l, at_, ar, m, ts, g, rest, rfl, h1, h2, h3, h4, h5, _⟩ := h
      exact absurd h5 (Nat.not_lt_zero _))
  | fu + 1 => by
    have ih := has_tree_fromE T X1 G hX fu
    refine T.okX sc_tree_from (fun vs H Q E h => ?_) (fun f cdv A outer s H vs Q E hr h => ?_)
    · obtain ⟨n, l, at_, ar, m, ts, g, rest, rfl, _⟩ := h
      rfl
    · obtain ⟨n, l, at_, ar, m, ts, g, rest, rfl, hn, hm, hl, ok, hd, ha, hw, q⟩ := h
      have hr2 : Room 2 _ := hr.mono (by omega)
      have hr3 : Room 3 _ := hr.mono (by omega)
      obtain ⟨J, hJ, sJ⟩ := G.join
      obtain ⟨⟨a1, a2, a3⟩, _, _⟩ := nms_okE m hm
      refine ⟨_, pss_cons (ps_asg (pe_ix ix_list (pv 1) (pv 2) (fun _ _ => rfl)) (pg_tup rfl (pgs_cons (pg_name (i := 4) sc_tree_from.nd rfl (Or.inl rfl)) (pgs_cons (pg_name (i := 5) sc_tree_from.nd rfl (Or.inl rfl)) pgs_nil))))
        (pss_cons (ps_if (pt_cmpR op_gt (pv 3) (pe_gc2 (by rfl) G.most) (nomark _)) (pss_one (ps_raise rfl (takes_of rfl rfl rfl rfl) (pmk_errI X1 hr2 (by rfl) (pa_cons (pv 4) pa_nil)))) pss_nil)
        (pss_cons (ps_if (pt_cmpR op_in_seq (pv 5) (pv 0) (by rfl)) (pss_one (ps_ret (pe_tup (pa_cons (pe_bm PySem.F.plainAttrs_list PySem.F.slot_list_index PySem.F.type_list_index mt_index (pv 0) (pa_cons (pv 5) pa_nil)) (pa_cons (pe_op op_add (pv 2) pe_int) pa_nil))))) pss_nil)
        (pss_cons (ps_if (pt_cmpR op_eq (pv 5) pe_str (nomark _))
          (pss_cons (ps_asg (pe_hasX (E := E) ih hr (by rfl) (passes_call (takes_of rfl rfl rfl rfl) (fun _ _ _ _ h => h)) (pa_cons (pv 0) (pa_cons (pv 1) (pa_cons (pe_op op_add (pv 2) pe_int) (pa_cons (pe_op op_add (pv 3) pe_int) pa_nil))))) (pg_tup rfl (pgs_cons (pg_name (i := 6) sc_tree_from.nd rfl (Or.inl rfl)) (pgs_cons (pg_name (i := 2) sc_tree_from.nd rfl (Or.inl rfl)) pgs_nil))))
          (pss_one (ps_ret (pe_tup (pa_cons (pe_tup (pa_cons (pv 5) (pa_cons (pv 6) pa_nil))) (pa_cons (pv 2) pa_nil)))))) pss_nil)
        (pss_cons (ps_if (pt_cmpR op_ne (pv 5) pe_str (nomark _)) (pss_one (ps_raise rfl (takes_of rfl rfl rfl rfl) (pmk_errI X1 hr2 (by rfl) (pa_cons (pv 4) pa_nil)))) pss_nil)
        (pss_cons (ps_asg (pe_hasX (E := E) ih hr (by rfl) (passes_call (takes_of rfl rfl rfl rfl) (fun _ _ _ _ h => h)) (pa_cons (pv 0) (pa_cons (pv 1) (pa_cons (pe_op op_add (pv 2) pe_int) (pa_cons (pe_op op_add (pv 3) pe_int) pa_nil))))) (pg_tup rfl (pgs_cons (pg_name (i := 7) sc_tree_from.nd rfl (Or.inl rfl)) (pgs_cons (pg_name (i := 2) sc_tree_from.nd rfl (Or.inl rfl)) pgs_nil))))
        (pss_cons (ps_set (i := 8) sc_tree_from.nd rfl (Or.inl rfl) (pe_hasX (E := E) hX hr3 (by rfl) (passes_call (takes_of rfl rfl rfl rfl) (fun _ _ _ _ h => h)) (pa_cons (pv 1) (pa_cons (pv 2) (pa_cons (pe_glob (v := .ref J) (by rfl) hJ rfl) pa_nil)))))
        (pss_cons (ps_asg (pe_hasX (E := E) ih hr (by rfl) (passes_call (takes_of rfl rfl rfl rfl) (fun _ _ _ _ h => h)) (pa_cons (pv 0) (pa_cons (pv 1) (pa_cons (pe_op op_add (pv 2) pe_int) (pa_cons (pe_op op_add (pv 3) pe_int) pa_nil))))) (pg_tup rfl (pgs_cons (pg_name (i := 9) sc_tree_from.nd rfl (Or.inl rfl)) (pgs_cons (pg_name (i := 2) sc_tree_from.nd rfl (Or.inl rfl)) pgs_nil))))
        (pss_cons (ps_expr (pe_hasX (E := E) hX hr3 (by rfl) (passes_call (takes_of rfl rfl rfl rfl) (fun _ _ _ _ h => h)) (pa_cons (pv 1) (pa_cons (pv 2) (pa_cons (pe_tup (pa_cons pe_str pa_nil)) pa_nil)))))
        (pss_one (ps_ret (pe_tup (pa_cons (pe_tup (pa_cons (pv 8) (pa_cons (pv 7) (pa_cons (pv 9) pa_nil)))) (pa_cons (pe_op op_add (pv 2) pe_int) pa_nil))))))))))))), ?_⟩
      cases g with
      | x i =>
        obtain ⟨p, hg, hr'⟩ := tok_at (show (ts.drop at_).map (·.2) = xN i :: rest from hw)
        obtain ⟨xs, T0, h1, h2, h3⟩ := hl.get hg
        refine ⟨_, rfl, _, rfl, l, xs, (at_ : Int), .ref T0, rfl, rfl, SqL.of h1, atI_nat h2, T0, _, rfl, SqT.of h3, rfl, nI p, _, rfl, .str (xN i), _, rfl, rfl, ?_⟩
        refine ⟨_, rfl, (ar : Int), 20, rfl, rfl, decide ((20 : Int) < (ar : Int)), rfl, ?_⟩
        rw [decide_eq_false (show ¬ (20 : Int) < (ar : Int) by omega)]
        refine iteF ⟨_, rfl, _, rfl, n, (nmL m).map V.str, rfl, .inl (SqL.of hn), rfl, flat_strs _, decide (xN i ∈ nmL m), congrArg V.bl (inV_strs _ _), ?_⟩
        have him : i < m := ok
        have hin : xN i ∈ nmL m := List.mem_of_getElem? (nm_get him)
        rw [decide_eq_true hin]
        refine iteT ⟨_, rfl, .inl ⟨rfl, _, SqL.of hn⟩, _, rfl, n, (nmL m).map V.str, .str (xN i), i, .str (xN i), rfl, rfl, SqL.of hn, rfl, flat_strs _, by rw [List.getElem?_map, nm_get him]; rfl, beq_self_eq_true _, fun j z' hj hz => ?_, _, rfl, (at_ : Int), 1, rfl, rfl, by show 2 ≤ sizeLine; decide, fun a ha0 => ?_⟩
        · rw [List.getElem?_map, nm_get (by omega)] at hz
          have hz := Option.some.inj hz
          subst hz
          exact beq_eq_false_iff_ne.mpr fun e => absurd (xN_inj j (by omega) i (by omega) e) (by omega)
        · exact q a (nI i) (at_ + 1) _ (same_new ha0) upd_same rfl rfl
      | no g =>
        obtain ⟨p, hg, hr'⟩ := tok_at (show (ts.drop at_).map (·.2) = wNot :: (g.spell ++ rest) from hw)
        obtain ⟨xs, T0, h1, h2, h3⟩ := hl.get hg
        have hdp : g.deep + 1 < fu + 1 := hd
        have hap : ar + (g.deep + 1) ≤ 20 := ha
        refine ⟨_, rfl, _, rfl, l, xs, (at_ : Int), .ref T0, rfl, rfl, SqL.of h1, atI_nat h2, T0, _, rfl, SqT.of h3, rfl, nI p, _, rfl, .str wNot, _, rfl, rfl, ?_⟩
        refine ⟨_, rfl, (ar : Int), 20, rfl, rfl, decide ((20 : Int) < (ar : Int)), rfl, ?_⟩
        rw [decide_eq_false (show ¬ (20 : Int) < (ar : Int) by omega)]
        refine iteF ⟨_, rfl, _, rfl, n, (nmL m).map V.str, rfl, .inl (SqL.of hn), rfl, flat_strs _, decide (wNot ∈ nmL m), congrArg V.bl (inV_strs _ _), ?_⟩
        rw [decide_eq_false a1]
        refine iteF ⟨_, rfl, rfl, true, rfl, iteT ⟨_, rfl, _, rfl, _, rfl, (at_ : Int), 1, rfl, rfl, _, rfl, (ar : Int), 1, rfl, rfl, n, l, at_ + 1, ar + 1, m, ts, g, rest, rfl, hn, hm, hl, ok, by omega, by omega, hr', fun a v k H1 s1 ha1 tv hk => ?_⟩⟩
        refine ⟨a, _, rfl, SqT.of ha1, rfl, v, _, rfl, nI k, _, rfl, rfl, ?_⟩
        refine ⟨_, rfl, _, rfl, by show 2 ≤ sizeLine; decide, fun T2 hT2 => ⟨_, rfl, by show 2 ≤ sizeLine; decide, fun T3 hT3 => ?_⟩⟩
        have s2 := same_new (o := .tup [V.str wNot, v]) hT2
        have s3 := same_new (o := .tup [V.ref T2, nI k]) hT3
        refine q T3 (.ref T2) k _ (s1.trans (s2.trans s3)) upd_same ⟨T2, v, rfl, s3 _ _ upd_same, tv.same (s2.trans s3)⟩ ?_
        rw [hk]
        show at_ + 1 + g.spell.length = at_ + (g.spell.length + 1)
        omega
      | two j g g2 =>
        have ew : (ts.drop at_).map (·.2) = wOp :: (g.spell ++ (j :: (g2.spell ++ (wCl :: rest)))) := by
          rw [hw]
          show wOp :: (g.spell ++ (j :: (g2.spell ++ [wCl]))) ++ rest = _
          simp only [List.cons_append, List.append_assoc, List.nil_append]
        obtain ⟨okj, ok1, ok2⟩ := ok
        obtain ⟨p, hg, hr'⟩ := tok_at ew
        obtain ⟨xs, T0, h1, h2, h3⟩ := hl.get hg
        have hdp : max g.deep g2.deep + 1 < fu + 1 := hd
        have hap : ar + (max g.deep g2.deep + 1) ≤ 20 := ha
        refine ⟨_, rfl, _, rfl, l, xs, (at_ : Int), .ref T0, rfl, rfl, SqL.of h1, atI_nat h2, T0, _, rfl, SqT.of h3, rfl, nI p, _, rfl, .str wOp, _, rfl, rfl, ?_⟩
        refine ⟨_, rfl, (ar : Int), 20, rfl, rfl, decide ((20 : Int) < (ar : Int)), rfl, ?_⟩
        rw [decide_eq_false (show ¬ (20 : Int) < (ar : Int) by omega)]
        refine iteF ⟨_, rfl, _, rfl, n, (nmL m).map V.str, rfl, .inl (SqL.of hn), rfl, flat_strs _, decide (wOp ∈ nmL m), congrArg V.bl (inV_strs _ _), ?_⟩
        rw [decide_eq_false a2]
        refine iteF ⟨_, rfl, rfl, false, rfl, iteF ⟨_, rfl, rfl, false, rfl, iteF ⟨_, rfl, _, rfl, _, rfl, (at_ : Int), 1, rfl, rfl, _, rfl, (ar : Int), 1, rfl, rfl, n, l, at_ + 1, ar + 1, m, ts, g, j :: (g2.spell ++ (wCl :: rest)), rfl, hn, hm, hl, ok1, by omega, by omega, hr', fun a v k H1 s1 ha1 tv hk => ?_⟩⟩⟩
        have e1 : (ts.drop k).map (·.2) = j :: (g2.spell ++ (wCl :: rest)) := by
          rw [hk, ← List.drop_drop, List.map_drop, hr', List.drop_left]
        obtain ⟨p2, g2', r2⟩ := tok_at e1
        have hl1 := hl.same s1
        refine ⟨a, _, rfl, SqT.of ha1, rfl, v, _, rfl, nI k, _, rfl, rfl, ?_⟩
        refine ⟨_, rfl, _, rfl, l, J, k, ts, p2, j, joins, rfl, hl1, g2', sJ _, fun _ => ?_, fun z => absurd okj z⟩
        refine ⟨_, rfl, _, rfl, _, rfl, (k : Int), 1, rfl, rfl, _, rfl, (ar : Int), 1, rfl, rfl, n, l, k + 1, ar + 1, m, ts, g2, wCl :: rest, rfl, s1 _ _ hn, hm, hl1, ok2, by omega, by omega, r2, fun a' u k2 H2 s2 ha2 tu hk2 => ?_⟩
        have e2 : (ts.drop k2).map (·.2) = wCl :: rest := by
          rw [hk2, ← List.drop_drop, List.map_drop, r2, List.drop_left]
        obtain ⟨p4, g4, r4⟩ := tok_at e2
        have s12 := s1.trans s2
        refine ⟨a', _, rfl, SqT.of ha2, rfl, u, _, rfl, nI k2, _, rfl, rfl, ?_⟩
        refine ⟨_, rfl, _, rfl, by show 1 ≤ sizeLine; decide, fun T4 hT4 => ?_⟩
        have s3 := same_new (o := .tup [V.str wCl]) hT4
        refine ⟨l, T4, k2, ts, p4, wCl, [wCl], rfl, (hl.same s12).same s3, g4, SqT.of upd_same, fun _ => ?_, fun z => absurd (List.mem_singleton.mpr rfl) z⟩
        refine ⟨_, rfl, _, rfl, _, rfl, by show 3 ≤ sizeLine; decide, fun T5 hT5 => ⟨_, rfl, (k2 : Int), 1, rfl, rfl, by show 2 ≤ sizeLine; decide, fun T6 hT6 => ?_⟩⟩
        have s5 := same_new (o := .tup [V.str j, v, u]) hT5
        have s6 := same_new (o := .tup [V.ref T5, V.int ((k2 : Int) + 1)]) hT6
        refine q T6 (.ref T5) (k2 + 1) _ (s12.trans (s3.trans (s5.trans s6))) upd_same ⟨T5, v, u, rfl, s6 _ _ upd_same, tv.same (s2.trans (s3.trans (s5.trans s6))), tu.same (s3.trans (s5.trans s6))⟩ ?_
        rw [hk2, hk]
        show at_ + 1 + g.spell.length + 1 + g2.spell.length + 1 = at_ + (g.spell ++ (j :: (g2.spell ++ [wCl]))).length.succ
        simp only [List.length_append, List.length_cons, List.length_nil]
        omega
end
end Lt

set_option Elab.async false
set_option linter.all false
set_option maxRecDepth 100000
set_option maxHeartbeats 1000000
/-! a comprehension over enumerate of a tuple -/
namespace Lt
open PySem PySem.Spec PyProof.Rows L2
theorem lc_enumM {K : PySem.W.Frag} {te : TE} {g : TG} {vs : List Nat} {σ : L2.St} {H1 : Hp} {D : Addr} {Qd : Hp → Prop} {β : Type} {j1 j2 : Nat} {a : Addr} {xs : List V} (R : Hp → V → β → Prop) (ys : List β)
    (mono : ∀ H H' v b, Tm H H' → R H v b → R H' v b) (hxK : ∀ H, Same H1 H → SqT K H a xs) (hz : xs.length ≤ 100000) (hy : ys.length = xs.length) (hD : H1 D = none)
    (hg : ∀ T x (i : Nat) σ H Q, H T = some (.tup [nI i, x]) → Q ((σ.set j1 (some (nI i))).set j2 (some x)) H → g (.ref T) σ H Q)
    (hw : ∀ x y, wipe (((wipe σ vs).set j1 x).set j2 y) vs = wipe σ vs)
    (he : ∀ (i : Nat) (x : V) (b : β), xs[i]? = some x → ys[i]? = some b → ∀ H, Same H1 H → ∀ Q : VK, (∀ v H', Same H H' → R H' v b → Q v H') → te (((wipe σ vs).set j1 (some (nI i))).set j2 (some x)) H Q)
    (hd : ∀ H zs, Same H1 H → H D = some (.lst zs) → Paired (R H) zs ys → Qd H) :
    ∃ W : Nat → Nat → Hp → Prop, (∃ m, W 0 m (upd H1 D (.lst []))) ∧ ∀ i m H, W i m H →
      ((Itet K a).stop i H ∧ Qd H) ∨ ((Itet K a).go i H ∧ ∃ Nx : Hp → Prop, (∀ H', Nx H' → ∃ m', m' < m ∧ W (i + 1) m' H') ∧ ∀ x H', (Itet K a).yld i H x H' → g x (wipe σ vs) H' fun σ2 H2 => wipe σ2 vs = wipe σ vs ∧ tYes σ2 H2 fun b H3 =>
        if b = true then te σ2 H3 fun y H4 => ∃ acc, H4 D = some (.lst acc) ∧ acc.length < sizeLine ∧ Nx (upd H4 D (.lst (acc ++ [y]))) else Nx H3) := by
  refine ⟨fun i m H => m = xs.length - i ∧ i ≤ xs.length ∧ Cm H1 D R ys i H, ⟨xs.length, by simp, Nat.zero_le _, same_new hD, [], upd_same, .nil, Nat.le_refl _⟩, ?_⟩
  rintro i m H ⟨rfl, hi, p⟩
  have q := hxK H p.1
  by_cases hlt : i < xs.length
  · refine .inr ⟨⟨xs, xs[i], q, by simp [hlt]⟩, Cm H1 D R ys (i + 1), fun H' p' => ⟨xs.length - (i + 1), by omega, rfl, hlt, p'⟩, fun y H' yl => ?_⟩
    obtain ⟨T, x, rfl, hT, rfl, hx⟩ := yl
    have hx := hx xs q
    have sT := same_new (o := .tup [V.int (i : Nat), x]) hT
    refine hg T x i _ _ _ upd_same ⟨hw _ _, iteT (B := Cm H1 D R ys (i + 1) (upd H T (.tup [V.int (i : Nat), x]))) ?_⟩
    have hb : ys[i]? = some (ys[i]'(by omega)) := List.getElem?_eq_getElem (by omega)
    obtain ⟨sm, zs, h1, pr, hl⟩ := p
    exact cm_turn mono hD ⟨sm.trans sT, zs, sT _ _ h1, paired_mono (fun a b r => mono _ _ _ _ (Tm.of sT) r) pr, hl⟩ (by omega) hb (he i x _ hx hb)
  · have e : i = xs.length := by omega
    subst e
    refine .inl ⟨⟨xs, q, rfl⟩, ?_⟩
    obtain ⟨sm, zs, h1, pr, _⟩ := p
    rw [← hy, List.take_length] at pr
    exact hd H zs sm h1 pr
end Lt

set_option Elab.async false
set_option linter.all false
set_option maxRecDepth 100000
set_option maxHeartbeats 1000000
/-! input_table, bits_of, worth_of -/
namespace Lt
open PySem PySem.Spec PyProof.Rows L2
def itab (m own : Nat) : List Nat := (List.range (2 ^ m)).map fun p => p / 2 ^ own % 2
theorem itab_len (m own : Nat) : (itab m own).length = 2 ^ m := by unfold itab; rw [List.length_map, List.length_range]
theorem itab_le {m own b : Nat} (h : b ∈ itab m own) : b ≤ 1 := by
  unfold itab at h
  obtain ⟨p, _, rfl⟩ := List.mem_map.mp h
  omega
/-- the numbers whose sum is a table's -/
def bitL (bs : List Nat) : List Int := (List.range bs.length).map fun i => (bs.getD i 0 : Int) * 2 ^ i
def RI (_ : Hp) (v : V) (n : Int) : Prop := v = .int n
theorem RI.all {H : Hp} : ∀ {zs : List V} {t : List Int}, Paired (RI H) zs t → zs = t.map V.int
  | _, _, .nil => rfl
  | _, _, .cons r t => by rw [(show _ = V.int _ from r), RI.all t]; rfl
theorem pow6 {m : Nat} (h : m ≤ 6) : 2 ^ m ≤ 64 := Nat.le_trans (Nat.pow_le_pow_right (by decide) h) (by decide)
section
variable {P : Program} {w : World} {K : PySem.W.Frag} {mg : Str → Option Value} {base : Heap}
def spITab : Sp := fun vs H Q _ => ∃ (m own : Nat), vs = [nI m, nI own] ∧ m ≤ 6 ∧ ∀ v H', Same H H' → TK H' v (itab m own) → Q v H'
theorem sc_input_table : FnScope ["inputs", "own", "place"] ["inputs", "own"] (defScope s_input_table) := ⟨rfl, rfl, rfl, by decide +kernel, rfl, by decide +kernel, by decide +kernel⟩
theorem has_input_table (T : Top K mg "input_table" s_input_table ["inputs", "own"]) (B : Bi mg) : Has P w K mg base CX0 1 "input_table" ["inputs", "own"] spITab := by
  refine T.ok sc_input_table (fun vs H Q E h => ?_) (fun f cdv A outer s H vs Q E hr h => ?_)
  · obtain ⟨m, own, rfl, _⟩ := h
    rfl
  · obtain ⟨m, own, rfl, hm, q⟩ := h
    have h64 := pow6 hm
    refine ⟨_, pss_one (ps_ret (pe_tupleOf (by rfl) B.tuple (pe_lc (own := [("place", 2)]) (g := gName 2) (te := tOp (fun x y H Q => ∃ (i : Int) (k : Nat), x = .int i ∧ y = .int (2 ^ k - 1) ∧ Q (.int (i % 2 ^ k)) H) (tOp (fun x y H Q => ∃ (i : Int) (k : Nat), x = .int i ∧ y = .int (k : Int) ∧ Q (.int (i / 2 ^ k)) H) (tVar 2) (tVar 1)) (tC (.int 1))) (by rfl) sc_input_table.nd (pi_range1 (by rfl) B.range (pa_cons (pe_op op_shl pe_int (pv 0)) pa_nil)) (blkOk_by (own := [("place", 2)]) (N := ["inputs", "own", "place"]) (sc := defScope s_input_table) (by decide +kernel))
      (fun _ _ _ _ _ => pg_name (i := 2) sc_input_table.nd rfl (Or.inl rfl)) (fun _ _ _ _ _ => pts_nil) (fun _ _ _ _ _ => pe_op op_andM (pe_op op_shrN (pv 2) (pv 1)) pe_int)))), ?_⟩
    have e1 : (1 : Int) * 2 ^ (m : Int).toNat = ((2 ^ m : Nat) : Int) := by rw [Int.toNat_natCast, Int.one_mul, Int.natCast_pow]; rfl
    refine ⟨_, rfl, 1, (m : Int), rfl, rfl, ⟨by omega, by omega, by decide⟩, ?_⟩
    obtain ⟨k, hk⟩ : ∃ k, k = 2 ^ m := ⟨_, rfl⟩
    rw [← hk] at e1 h64
    refine ⟨(k : Int), congrArg (fun z : Int => [V.int z]) e1, by omega, by omega, fun D hD => lc_rangeM (n := (k : Int).toNat) RN (itab m own) (fun _ _ _ _ _ r => r) (by omega) (by rw [itab_len, ← hk]; omega) hD (fun x => rfl) (fun i b hi hb H' sm Q' q' => ?_) (fun H' zs sm hz pr => ?_)⟩
    · have eb : b = i / 2 ^ own % 2 := by
        unfold itab at hb
        rw [List.getElem?_map, List.getElem?_range (by omega)] at hb
        exact (Option.some.inj hb).symm
      refine ⟨_, rfl, _, rfl, ((0 : Int) + (i : Nat)), own, rfl, rfl, _, 1, rfl, rfl, q' _ H' (Same.refl _) ?_⟩
      show V.int _ = nI b
      rw [eb, Int.zero_add]
      unfold nI
      rw [Int.natCast_emod, Int.natCast_ediv, Int.natCast_pow]
      rfl
    · exact .inl ⟨D, zs, rfl, SqL.of hz, fun p hp => q _ _ (sm.trans (same_new hp)) (tn_of upd_same (RN.all pr))⟩
def spBits : Sp := fun vs H Q _ => ∃ (v : V) (bs : List Nat), vs = [v] ∧ TK H v bs ∧ bs.length ≤ 64 ∧ (∀ b ∈ bs, b ≤ 1) ∧ ∀ H', Same H H' → Q (.int (bitL bs).sum) H'
theorem sc_bits_of : FnScope ["table", "place", "bit"] ["table"] (defScope s_bits_of) := ⟨rfl, rfl, rfl, by decide +kernel, rfl, by decide +kernel, by decide +kernel⟩
theorem has_bits_of (T : Top K mg "bits_of" s_bits_of ["table"]) (B : Bi mg) (hs : mg "sum" = none) : Has P w K mg base CX0 1 "bits_of" ["table"] spBits := by
  refine T.ok sc_bits_of (fun vs H Q E h => ?_) (fun f cdv A outer s H vs Q E hr h => ?_)
  · obtain ⟨v, bs, rfl, _⟩ := h
    rfl
  · obtain ⟨v, bs, rfl, ⟨a, rfl, ha⟩, hl, hb, q⟩ := h
    refine ⟨_, pss_one (ps_ret (pe_callB (cr_sum rfl) (by rfl) hs PyProof.Rows.boot_sum (pa_cons (pe_lc (own := [("place", 1), ("bit", 2)]) (g := gTup K 2 (gCons (gName 1) (gCons (gName 2) gNil))) (te := tOp (rI CPow fun i j => .int (i * 2 ^ j.toNat)) (tVar 2) (tVar 1)) (by rfl) sc_bits_of.nd (pi_enumT (by rfl) B.enumerate (pa_cons (pv 0) pa_nil)) (blkOk_by (own := [("place", 1), ("bit", 2)]) (N := ["table", "place", "bit"]) (sc := defScope s_bits_of) (by decide +kernel))
      (fun _ _ _ _ _ => pg_tup rfl (pgs_cons (pg_name (i := 1) sc_bits_of.nd rfl (Or.inl rfl)) (pgs_cons (pg_name (i := 2) sc_bits_of.nd rfl (Or.inl rfl)) pgs_nil))) (fun _ _ _ _ _ => pts_nil) (fun _ _ _ _ _ => pe_op op_shl (pv 2) (pv 1))) pa_nil))), ?_⟩
    refine ⟨_, rfl, a, nIs bs, rfl, SqT.of ha, fun D hD => lc_enumM (K := K) (j1 := 1) (j2 := 2) (xs := nIs bs) RI (bitL bs) (fun _ _ _ _ _ r => r) (fun H' s => SqT.of (s _ _ ha)) (by rw [nIs_len]; omega) (by unfold bitL; rw [List.length_map, List.length_range, nIs_len]) hD (fun T x i σ H Q hT q => ⟨T, _, rfl, SqT.of hT, rfl, nI i, _, rfl, x, _, rfl, rfl, q⟩) (fun x y => rfl) (fun i x n hx hn H' sm Q' q' => ?_) (fun H' zs sm hz pr => ?_)⟩
    · rw [nIs_get] at hx
      obtain ⟨b, hb1, rfl⟩ := Option.map_eq_some_iff.mp hx
      have hib : i < bs.length := (List.getElem?_eq_some_iff.mp hb1).1
      have hb2 := hb b (List.mem_of_getElem? hb1)
      have en : n = (b : Int) * 2 ^ i := by
        unfold bitL at hn
        rw [List.getElem?_map, List.getElem?_range hib] at hn
        have e2 : bs.getD i 0 = b := by rw [List.getD_eq_getElem?_getD, hb1]; rfl
        rw [← Option.some.inj hn]
        show ((bs.getD i 0 : Nat) : Int) * 2 ^ i = _
        rw [e2]
      refine ⟨_, rfl, _, rfl, (b : Int), (i : Int), rfl, rfl, ⟨by omega, by omega, ?_⟩, q' _ H' (Same.refl _) ?_⟩
      · rw [Int.natAbs_natCast]
        exact Nat.lt_of_le_of_lt hb2 (by decide)
      · show V.int _ = V.int n
        rw [en, Int.toNat_natCast]
    · rw [RI.all pr] at hz
      exact ⟨D, bitL bs, rfl, SqL.of hz, q _ sm⟩
def spWorth (m f : Nat) : Sp := fun vs H Q _ => ∃ (v : V) (l : Addr) (ns : List Int) (e : Int) (d : Nat), vs = [v, .ref l, .int e] ∧ TreV H m d v ∧ d < f ∧ H l = some (.lst (ns.map V.int)) ∧ ns.length = m ∧ ∀ i : Int, Q (.int i) H
theorem sc_worth_of : FnScope ["tree", "leaves", "every", "one", "other"] ["tree", "leaves", "every"] (defScope s_worth_of) := ⟨rfl, rfl, rfl, by decide +kernel, rfl, by decide +kernel, by decide +kernel⟩
theorem has_worth_of (T : Top K mg "worth_of" s_worth_of ["tree", "leaves", "every"]) (B : Bi mg) {m : Nat} : ∀ f, Has P w K mg base CX0 (f + 1) "worth_of" ["tree", "leaves", "every"] (spWorth m f)
  | 0 => T.ok sc_worth_of (fun vs H Q E h => by obtain ⟨v, l, ns, e, d, rfl, _⟩ := h; rfl) (fun f cdv A outer s H vs Q E hr h => by
      obtain ⟨v, l, ns, e, d, rfl, _, h5, _⟩ := h
      exact absurd h5 (Nat.not_lt_zero _))
  | fu + 1 => by
    have ih := has_worth_of T B (m := m) fu
    refine T.ok sc_worth_of (fun vs H Q E h => ?_) (fun f cdv A outer s H vs Q E hr h => ?_)
    · obtain ⟨v, l, ns, e, d, rfl, _⟩ := h
      rfl
    · obtain ⟨v, l, ns, e, d, rfl, tv, hd, hl, hn, q⟩ := h
      refine ⟨_, pss_cons (ps_if (pt_val (pe_callB call_isi (by rfl) B.isinstance PyProof.Rows.boot_isinstance (pa_cons (pv 0) (pa_cons (pe_bltn (by rfl) B.int PyProof.Rows.boot_int (rr_ty "int")) pa_nil)))) (pss_one (ps_ret (pe_ix ix_list (pv 1) (pv 0) (fun _ _ => rfl)))) pss_nil)
        (pss_cons (ps_set (i := 3) sc_worth_of.nd rfl (Or.inl rfl) (pe_has ih hr (by rfl) (pa_cons (pe_ix ix_tup (pv 0) pe_int (fun _ _ => rfl)) (pa_cons (pv 1) (pa_cons (pv 2) pa_nil)))))
        (pss_cons (ps_if (pt_cmpR op_eq (pe_ix ix_tup (pv 0) pe_int (fun _ _ => rfl)) pe_str (nomark _)) (pss_one (ps_ret (pe_op op_xor (pv 2) (pv 3)))) pss_nil)
        (pss_cons (ps_set (i := 4) sc_worth_of.nd rfl (Or.inl rfl) (pe_has ih hr (by rfl) (pa_cons (pe_ix ix_tup (pv 0) pe_int (fun _ _ => rfl)) (pa_cons (pv 1) (pa_cons (pv 2) pa_nil)))))
        (pss_cons (ps_if (pt_cmpR op_eq (pe_ix ix_tup (pv 0) pe_int (fun _ _ => rfl)) pe_str (nomark _)) (pss_one (ps_ret (pe_op op_and (pv 3) (pv 4)))) pss_nil)
        (pss_cons (ps_if (pt_cmpR op_eq (pe_ix ix_tup (pv 0) pe_int (fun _ _ => rfl)) pe_str (nomark _)) (pss_one (ps_ret (pe_op op_or (pv 3) (pv 4)))) pss_nil)
        (pss_one (ps_ret (pe_op op_xor (pv 3) (pv 4))))))))), ?_⟩
      cases tv with
      | @leaf d i hi =>
        have hx : (ns.map V.int)[i]? = some (V.int (ns[i]'(by omega))) := by rw [List.getElem?_map, List.getElem?_eq_getElem (by omega)]; rfl
        exact ⟨_, rfl, nI i, .ty "int", _, _, true, rfl, .ty _, rp_ty (.int (i : Int)), kit_ty (kit_int (.int (i : Int))), true, rfl, iteT ⟨_, rfl, _, rfl, l, _, (i : Int), _, rfl, rfl, SqL.of hl, atI_nat hx, q _⟩⟩
      | @neg d a u ha hu =>
        refine ⟨_, rfl, .ref a, .ty "int", _, _, false, rfl, .ty _, .base (.tup ha), kit_ty (kit_int (.tuple [])), false, rfl, iteF ?_⟩
        refine ⟨_, rfl, a, _, 1, u, rfl, rfl, SqT.of ha, rfl, _, rfl, _, rfl, u, l, ns, e, d, rfl, hu, by omega, hl, hn, fun i => ?_⟩
        refine ⟨_, rfl, a, _, 0, .str wNot, rfl, rfl, SqT.of ha, rfl, rfl, true, rfl, iteT ⟨_, rfl, _, rfl, e, i, rfl, rfl, q _⟩⟩
      | @two d a j u u2 ha hj hu hu2 =>
        refine ⟨_, rfl, .ref a, .ty "int", _, _, false, rfl, .ty _, .base (.tup ha), kit_ty (kit_int (.tuple [])), false, rfl, iteF ?_⟩
        refine ⟨_, rfl, a, _, 1, u, rfl, rfl, SqT.of ha, rfl, _, rfl, _, rfl, u, l, ns, e, d, rfl, hu, by omega, hl, hn, fun i => ?_⟩
        have hjn : j ≠ wNot := fun z => by rw [z] at hj; exact absurd hj (by decide +kernel)
        refine ⟨_, rfl, a, _, 0, .str j, rfl, rfl, SqT.of ha, rfl, rfl, false, congrArg V.bl ((word_eq j wNot).trans (decide_eq_false hjn)), iteF ?_⟩
        refine ⟨_, rfl, a, _, 2, u2, rfl, rfl, SqT.of ha, rfl, _, rfl, _, rfl, u2, l, ns, e, d, rfl, hu2, by omega, hl, hn, fun i2 => ?_⟩
        refine ⟨_, rfl, a, _, 0, .str j, rfl, rfl, SqT.of ha, rfl, rfl, decide (j = ("and" : Str)), congrArg V.bl (word_eq j _), ite2 (fun _ => ⟨_, rfl, _, rfl, i, i2, rfl, rfl, q _⟩) (fun _ => ?_)⟩
        refine ⟨_, rfl, a, _, 0, .str j, rfl, rfl, SqT.of ha, rfl, rfl, decide (j = ("or" : Str)), congrArg V.bl (word_eq j _), ite2 (fun _ => ⟨_, rfl, _, rfl, i, i2, rfl, rfl, q _⟩) (fun _ => ⟨_, rfl, _, rfl, i, i2, rfl, rfl, q _⟩)⟩
end
end Lt

set_option Elab.async false
set_option linter.all false
set_option maxRecDepth 100000
set_option maxHeartbeats 1000000
/-! worth_of, exactly (for k04) -/
namespace Lt
open PySem PySem.Spec PyProof.Rows L2
def worthI (ns : List Int) (e : Int) : Fm → Int
  | .x i => ns.getD i 0
  | .no f => Builtin.bitXor e (worthI ns e f)
  | .two j f g => if j = ("and" : Str) then Builtin.bitAnd (worthI ns e f) (worthI ns e g) else if j = ("or" : Str) then Builtin.bitOr (worthI ns e f) (worthI ns e g) else Builtin.bitXor (worthI ns e f) (worthI ns e g)
section
variable {P : Program} {w : World} {K : PySem.W.Frag} {mg : Str → Option Value} {base : Heap}
def spWorthE (fu : Nat) : Sp := fun vs H Q _ => ∃ (v : V) (l : Addr) (ns : List Int) (e : Int) (g : Fm), vs = [v, .ref l, .int e] ∧ g.At H v ∧ g.deep < fu ∧ g.Ok ns.length ∧ H l = some (.lst (ns.map V.int)) ∧ Q (.int (worthI ns e g)) H
theorem has_worth_ofE (T : Top K mg "worth_of" s_worth_of ["tree", "leaves", "every"]) (B : Bi mg) : ∀ f, Has P w K mg base CX0 (f + 1) "worth_of" ["tree", "leaves", "every"] (spWorthE f)
  | 0 => T.ok sc_worth_of (fun vs H Q E h => by obtain ⟨v, l, ns, e, d, rfl, _⟩ := h; rfl) (fun f cdv A outer s H vs Q E hr h => by
      obtain ⟨v, l, ns, e, d, rfl, _, h5, _⟩ := h
      exact absurd h5 (Nat.not_lt_zero _))
  | fu + 1 => by
    have ih := has_worth_ofE T B fu
    refine T.ok sc_worth_of (fun vs H Q E h => ?_) (fun f cdv A outer s H vs Q E hr h => ?_)
    · obtain ⟨v, l, ns, e, d, rfl, _⟩ := h
      rfl
    · obtain ⟨v, l, ns, e, g, rfl, tv, hd, ok, hl, q⟩ := h
      refine ⟨_, pss_cons (ps_if (pt_val (pe_callB call_isi (by rfl) B.isinstance PyProof.Rows.boot_isinstance (pa_cons (pv 0) (pa_cons (pe_bltn (by rfl) B.int PyProof.Rows.boot_int (rr_ty "int")) pa_nil)))) (pss_one (ps_ret (pe_ix ix_list (pv 1) (pv 0) (fun _ _ => rfl)))) pss_nil)
        (pss_cons (ps_set (i := 3) sc_worth_of.nd rfl (Or.inl rfl) (pe_has ih hr (by rfl) (pa_cons (pe_ix ix_tup (pv 0) pe_int (fun _ _ => rfl)) (pa_cons (pv 1) (pa_cons (pv 2) pa_nil)))))
        (pss_cons (ps_if (pt_cmpR op_eq (pe_ix ix_tup (pv 0) pe_int (fun _ _ => rfl)) pe_str (nomark _)) (pss_one (ps_ret (pe_op op_xor (pv 2) (pv 3)))) pss_nil)
        (pss_cons (ps_set (i := 4) sc_worth_of.nd rfl (Or.inl rfl) (pe_has ih hr (by rfl) (pa_cons (pe_ix ix_tup (pv 0) pe_int (fun _ _ => rfl)) (pa_cons (pv 1) (pa_cons (pv 2) pa_nil)))))
        (pss_cons (ps_if (pt_cmpR op_eq (pe_ix ix_tup (pv 0) pe_int (fun _ _ => rfl)) pe_str (nomark _)) (pss_one (ps_ret (pe_op op_and (pv 3) (pv 4)))) pss_nil)
        (pss_cons (ps_if (pt_cmpR op_eq (pe_ix ix_tup (pv 0) pe_int (fun _ _ => rfl)) pe_str (nomark _)) (pss_one (ps_ret (pe_op op_or (pv 3) (pv 4)))) pss_nil)
        (pss_one (ps_ret (pe_op op_xor (pv 3) (pv 4))))))))), ?_⟩
      cases g with
      | x i =>
        obtain rfl : v = nI i := tv
        have hi : i < ns.length := ok
        have hx : (ns.map V.int)[i]? = some (V.int (ns.getD i 0)) := by rw [List.getElem?_map, List.getD_eq_getElem?_getD, List.getElem?_eq_getElem hi]; rfl
        exact ⟨_, rfl, nI i, .ty "int", _, _, true, rfl, .ty _, rp_ty (.int (i : Int)), kit_ty (kit_int (.int (i : Int))), true, rfl, iteT ⟨_, rfl, _, rfl, l, _, (i : Int), _, rfl, rfl, SqL.of hl, atI_nat hx, q⟩⟩
      | no g =>
        obtain ⟨a, u, rfl, ha, hu⟩ := tv
        have hd' : g.deep + 1 < fu + 1 := hd
        refine ⟨_, rfl, .ref a, .ty "int", _, _, false, rfl, .ty _, .base (.tup ha), kit_ty (kit_int (.tuple [])), false, rfl, iteF ?_⟩
        refine ⟨_, rfl, a, _, 1, u, rfl, rfl, SqT.of ha, rfl, _, rfl, _, rfl, u, l, ns, e, g, rfl, hu, by omega, ok, hl, ?_⟩
        exact ⟨_, rfl, a, _, 0, .str wNot, rfl, rfl, SqT.of ha, rfl, rfl, true, rfl, iteT ⟨_, rfl, _, rfl, e, _, rfl, rfl, q⟩⟩
      | two j g g2 =>
        obtain ⟨a, u, u2, rfl, ha, hu, hu2⟩ := tv
        obtain ⟨hj, ok1, ok2⟩ := ok
        have hd' : max g.deep g2.deep + 1 < fu + 1 := hd
        refine ⟨_, rfl, .ref a, .ty "int", _, _, false, rfl, .ty _, .base (.tup ha), kit_ty (kit_int (.tuple [])), false, rfl, iteF ?_⟩
        refine ⟨_, rfl, a, _, 1, u, rfl, rfl, SqT.of ha, rfl, _, rfl, _, rfl, u, l, ns, e, g, rfl, hu, by omega, ok1, hl, ?_⟩
        have hjn : j ≠ wNot := fun z => by rw [z] at hj; exact absurd hj (by decide +kernel)
        refine ⟨_, rfl, a, _, 0, .str j, rfl, rfl, SqT.of ha, rfl, rfl, false, congrArg V.bl ((word_eq j wNot).trans (decide_eq_false hjn)), iteF ?_⟩
        refine ⟨_, rfl, a, _, 2, u2, rfl, rfl, SqT.of ha, rfl, _, rfl, _, rfl, u2, l, ns, e, g2, rfl, hu2, by omega, ok2, hl, ?_⟩
        refine ⟨_, rfl, a, _, 0, .str j, rfl, rfl, SqT.of ha, rfl, rfl, decide (j = ("and" : Str)), congrArg V.bl (word_eq j _), ?_⟩
        rw [worthI] at q
        by_cases h1 : j = ("and" : Str)
        · rw [if_pos h1] at q
          rw [decide_eq_true h1]
          exact iteT ⟨_, rfl, _, rfl, _, _, rfl, rfl, q⟩
        · rw [if_neg h1] at q
          rw [decide_eq_false h1]
          refine iteF ⟨_, rfl, a, _, 0, .str j, rfl, rfl, SqT.of ha, rfl, rfl, decide (j = ("or" : Str)), congrArg V.bl (word_eq j _), ?_⟩
          by_cases h2 : j = ("or" : Str)
          · rw [if_pos h2] at q
            rw [decide_eq_true h2]
            exact iteT ⟨_, rfl, _, rfl, _, _, rfl, rfl, q⟩
          · rw [if_neg h2] at q
            rw [decide_eq_false h2]
            exact iteF ⟨_, rfl, _, rfl, _, _, rfl, rfl, q⟩
end
end Lt

set_option Elab.async false
set_option linter.all false
set_option maxRecDepth 100000
set_option maxHeartbeats 1000000
/-! the words of a text, without their places; what a formula comes to -/
namespace Lt
open PySem PySem.Spec PyProof.Rows L2
def isRun (c : Nat) : Bool := decide (c ∈ runS.cps.toList)
def flW (cur : List Nat) : List Str := if cur = [] then [] else [⟨cur.toArray⟩]
/-- the words that end within, and the run behind -/
def lexS : List Nat → List Nat → List Str × List Nat
  | cur, [] => ([], cur)
  | cur, c :: cs => if isRun c then lexS (cur ++ [c]) cs else (flW cur ++ (if c = 32 then [] else [⟨#[c]⟩]) ++ (lexS [] cs).1, (lexS [] cs).2)
theorem lexS_app : ∀ (a b cur : List Nat), lexS cur (a ++ b) = ((lexS cur a).1 ++ (lexS (lexS cur a).2 b).1, (lexS (lexS cur a).2 b).2)
  | [], b, cur => rfl
  | c :: a, b, cur => by
    rw [List.cons_append, lexS, lexS]
    by_cases h : isRun c = true
    · rw [if_pos h, if_pos h, lexS_app a b]
    · rw [if_neg h, if_neg h, lexS_app a b]
      simp only [List.append_assoc]
theorem lexS_run : ∀ {w cur : List Nat}, (∀ c ∈ w, isRun c = true) → lexS cur w = ([], cur ++ w)
  | [], cur, _ => by rw [List.append_nil]; rfl
  | c :: w, cur, h => by
    rw [lexS, if_pos (h c List.mem_cons_self), lexS_run fun x hx => h x (List.mem_cons_of_mem _ hx), List.append_assoc]
    rfl
theorem lexS_sps : ∀ n : Nat, lexS [] (List.replicate n 32) = ([], [])
  | 0 => rfl
  | n + 1 => by
    rw [List.replicate_succ, lexS, if_neg (by decide +kernel), lexS_sps n]
    rfl
theorem lexS_sp (cur : List Nat) (n : Nat) : lexS cur (List.replicate (n + 1) 32) = (flW cur, []) := by
  rw [List.replicate_succ, lexS, if_neg (by decide +kernel), lexS_sps n]
  simp
theorem isRun_iff {c : Nat} : isRun c = true ↔ c ∈ runS.cps.toList := by unfold isRun; exact decide_eq_true_iff
/-- the placed words' words -/
theorem lex_words {T : List Nat} : ∀ (rest done : List Nat) (st : List Tok × Nat) (cur : List Nat), T = done ++ rest → st.2 ≤ done.length → done.drop st.2 = cur →
    (flush T (lexFrom T st done.length rest) (done.length + rest.length)).map (·.2) = st.1.map (·.2) ++ ((lexS cur rest).1 ++ flW (lexS cur rest).2)
  | [], done, st, cur, hT, hl, hc => by
    rw [lex_nil, List.length_nil, Nat.add_zero]
    unfold flush
    show _ = _ ++ ([] ++ flW cur)
    rw [List.nil_append]
    unfold flW
    by_cases h : st.2 < done.length
    · rw [if_pos h, if_neg (by rw [← hc]; intro z; have := congrArg List.length z; rw [List.length_drop, List.length_nil] at this; omega), List.map_append]
      congr 1
      show [cut T st.2 done.length] = _
      unfold cut
      rw [hT, List.append_nil, hc, List.take_of_length_le (by rw [← hc, List.length_drop]; exact Nat.le_refl _)]
    · rw [if_neg h, if_pos (by rw [← hc]; exact List.drop_eq_nil_of_le (by omega)), List.append_nil]
  | c :: rest, done, st, cur, hT, hl, hc => by
    rw [lex_cons]
    have hT2 : T = (done ++ [c]) ++ rest := by rw [hT]; simp
    have l2 : (done ++ [c]).length = done.length + 1 := by simp
    have hcut : cut T st.2 done.length = ⟨cur.toArray⟩ := by
      unfold cut
      rw [hT, List.drop_append_of_le_length hl, hc, List.take_append_of_le_length (by rw [← hc, List.length_drop]; exact Nat.le_refl _), List.take_of_length_le (by rw [← hc, List.length_drop]; exact Nat.le_refl _)]
    have hfl : (flush T st done.length).map (·.2) = st.1.map (·.2) ++ flW cur := by
      unfold flush flW
      by_cases h : st.2 < done.length
      · rw [if_pos h, if_neg (by rw [← hc]; intro z; have := congrArg List.length z; rw [List.length_drop, List.length_nil] at this; omega), List.map_append]
        show _ ++ [cut T st.2 done.length] = _
        rw [hcut]
      · rw [if_neg h, if_pos (by rw [← hc]; exact List.drop_eq_nil_of_le (by omega)), List.append_nil]
    rw [lexS]
    by_cases h : c ∈ runS.cps.toList
    · rw [if_pos (isRun_iff.mpr h)]
      unfold lexStep
      rw [if_pos h]
      have := lex_words (T := T) rest (done ++ [c]) st (cur ++ [c]) hT2 (by rw [l2]; omega) (by rw [List.drop_append_of_le_length hl, hc])
      rw [l2] at this
      rw [List.length_cons, ← Nat.add_assoc, Nat.add_right_comm]
      exact this
    · rw [if_neg (fun z => h (isRun_iff.mp z))]
      unfold lexStep
      rw [if_neg h]
      have := lex_words (T := T) rest (done ++ [c]) (if c = 32 then flush T st done.length else flush T st done.length ++ [(done.length, ⟨#[c]⟩)], done.length + 1) [] hT2 (by rw [l2]; exact Nat.le_refl _) (by
        show (done ++ [c]).drop (done.length + 1) = []
        exact List.drop_eq_nil_of_le (by rw [l2]; exact Nat.le_refl _))
      rw [l2] at this
      rw [List.length_cons, ← Nat.add_assoc, Nat.add_right_comm, this]
      by_cases h32 : c = 32
      · simp only [if_pos h32]
        rw [hfl]
        simp only [List.append_assoc, List.nil_append]
      · simp only [if_neg h32]
        rw [List.map_append, hfl]
        simp only [List.append_assoc, List.map_cons, List.map_nil]
theorem lexWords_map (x : Str) : (lexWords x).map (·.2) = (lexS [] x.cps.toList).1 ++ flW (lexS [] x.cps.toList).2 ++ [wVoid] := by
  unfold lexWords lexWords.toks'
  rw [List.map_append]
  have := lex_words (T := x.cps.toList) x.cps.toList [] ([], 0) [] rfl (Nat.le_refl _) rfl
  rw [List.length_nil, Nat.zero_add] at this
  rw [this]
  rfl
/-! ### what a formula comes to -/
def evF : Fm → Nat → Nat
  | .x i, t => t / 2 ^ i % 2
  | .no f, t => 1 - evF f t
  | .two j f g, t => if j = ("and" : Str) then evF f t * evF g t else if j = ("or" : Str) then max (evF f t) (evF g t) else (evF f t + evF g t) % 2
theorem evF_le : ∀ (f : Fm) (t : Nat), evF f t ≤ 1
  | .x i, t => Nat.le_of_lt_succ (Nat.mod_lt _ (by decide))
  | .no f, t => Nat.sub_le ..
  | .two j f g, t => by
    have h1 := evF_le f t
    have h2 := evF_le g t
    unfold evF
    split
    · exact Nat.le_trans (Nat.mul_le_mul h1 h2) (by decide)
    · split
      · omega
      · omega
def tabF (m : Nat) (f : Fm) : List Nat := (List.range (2 ^ m)).map (evF f)
theorem tabF_len (m : Nat) (f : Fm) : (tabF m f).length = 2 ^ m := by unfold tabF; rw [List.length_map, List.length_range]
theorem tabF_le {m : Nat} {f : Fm} {b : Nat} (h : b ∈ tabF m f) : b ≤ 1 := by
  unfold tabF at h
  obtain ⟨t, _, rfl⟩ := List.mem_map.mp h
  exact evF_le f t
/-- the number of a table -/
def numB : List Nat → Nat
  | [] => 0
  | b :: bs => b + 2 * numB bs
theorem bitL_num : ∀ bs : List Nat, (bitL bs).sum = ((numB bs : Nat) : Int)
  | [] => rfl
  | b :: bs => by
    have e : bitL (b :: bs) = (b : Int) :: (bitL bs).map (fun z => 2 * z) := by
      unfold bitL
      rw [List.length_cons, List.range_succ_eq_map, List.map_cons, List.map_map, List.map_map]
      congr 1
      · show ((b : Nat) : Int) * 2 ^ 0 = _
        simp
      · refine List.map_congr_left fun i _ => ?_
        show (((b :: bs).getD (i + 1) 0 : Nat) : Int) * 2 ^ (i + 1) = 2 * (((bs.getD i 0 : Nat) : Int) * 2 ^ i)
        rw [List.getD_cons_succ, Int.pow_succ]
        have : ∀ a b : Int, a * (b * 2) = 2 * (a * b) := fun a b => by rw [← Int.mul_assoc, Int.mul_comm]
        exact this _ _
    have s : ∀ l : List Int, (l.map (fun z => 2 * z)).sum = 2 * l.sum := fun l => by
      induction l with
      | nil => rfl
      | cons a l ih => rw [List.map_cons, List.sum_cons, List.sum_cons, ih]; omega
    rw [e, List.sum_cons, s, bitL_num bs]
    show _ = ((b + 2 * numB bs : Nat) : Int)
    omega
theorem numB_bit : ∀ (bs : List Nat) (p : Nat), (∀ b ∈ bs, b ≤ 1) → numB bs / 2 ^ p % 2 = bs.getD p 0
  | [], p, _ => by simp [numB]
  | b :: bs, 0, h => by
    have := h b List.mem_cons_self
    show (b + 2 * numB bs) / 1 % 2 = b
    omega
  | b :: bs, p + 1, h => by
    have hb := h b List.mem_cons_self
    rw [List.getD_cons_succ, ← numB_bit bs p fun x hx => h x (List.mem_cons_of_mem _ hx), Nat.pow_succ, Nat.mul_comm, ← Nat.div_div_eq_div_mul]
    congr 2
    show (b + 2 * numB bs) / 2 = numB bs
    omega
theorem bit_xor (a b p : Nat) : (a ^^^ b) / 2 ^ p % 2 = (a / 2 ^ p % 2 + b / 2 ^ p % 2) % 2 := by
  have e := Nat.testBit_xor a b p
  rw [Nat.testBit_eq_decide_div_mod_eq, Nat.testBit_eq_decide_div_mod_eq, Nat.testBit_eq_decide_div_mod_eq] at e
  have h1 := Nat.mod_lt (a / 2 ^ p) (show 2 > 0 by decide)
  have h2 := Nat.mod_lt (b / 2 ^ p) (show 2 > 0 by decide)
  have h3 := Nat.mod_lt ((a ^^^ b) / 2 ^ p) (show 2 > 0 by decide)
  generalize a / 2 ^ p % 2 = x at *
  generalize b / 2 ^ p % 2 = y at *
  generalize (a ^^^ b) / 2 ^ p % 2 = z at *
  have hx : x = 0 ∨ x = 1 := by omega
  have hy : y = 0 ∨ y = 1 := by omega
  have hz : z = 0 ∨ z = 1 := by omega
  rcases hx with rfl | rfl <;> rcases hy with rfl | rfl <;> rcases hz with rfl | rfl <;> first | rfl | cases e
theorem bit_and (a b p : Nat) : (a &&& b) / 2 ^ p % 2 = (a / 2 ^ p % 2) * (b / 2 ^ p % 2) := by
  have e := Nat.testBit_and a b p
  rw [Nat.testBit_eq_decide_div_mod_eq, Nat.testBit_eq_decide_div_mod_eq, Nat.testBit_eq_decide_div_mod_eq] at e
  have h1 := Nat.mod_lt (a / 2 ^ p) (show 2 > 0 by decide)
  have h2 := Nat.mod_lt (b / 2 ^ p) (show 2 > 0 by decide)
  have h3 := Nat.mod_lt ((a &&& b) / 2 ^ p) (show 2 > 0 by decide)
  generalize a / 2 ^ p % 2 = x at *
  generalize b / 2 ^ p % 2 = y at *
  generalize (a &&& b) / 2 ^ p % 2 = z at *
  have hx : x = 0 ∨ x = 1 := by omega
  have hy : y = 0 ∨ y = 1 := by omega
  have hz : z = 0 ∨ z = 1 := by omega
  rcases hx with rfl | rfl <;> rcases hy with rfl | rfl <;> rcases hz with rfl | rfl <;> first | rfl | cases e
theorem bit_or (a b p : Nat) : (a ||| b) / 2 ^ p % 2 = max (a / 2 ^ p % 2) (b / 2 ^ p % 2) := by
  have e := Nat.testBit_or a b p
  rw [Nat.testBit_eq_decide_div_mod_eq, Nat.testBit_eq_decide_div_mod_eq, Nat.testBit_eq_decide_div_mod_eq] at e
  have h1 := Nat.mod_lt (a / 2 ^ p) (show 2 > 0 by decide)
  have h2 := Nat.mod_lt (b / 2 ^ p) (show 2 > 0 by decide)
  have h3 := Nat.mod_lt ((a ||| b) / 2 ^ p) (show 2 > 0 by decide)
  generalize a / 2 ^ p % 2 = x at *
  generalize b / 2 ^ p % 2 = y at *
  generalize (a ||| b) / 2 ^ p % 2 = z at *
  have hx : x = 0 ∨ x = 1 := by omega
  have hy : y = 0 ∨ y = 1 := by omega
  have hz : z = 0 ∨ z = 1 := by omega
  rcases hx with rfl | rfl <;> rcases hy with rfl | rfl <;> rcases hz with rfl | rfl <;> first | rfl | cases e
end Lt

set_option Elab.async false
set_option linter.all false
set_option maxRecDepth 100000
set_option maxHeartbeats 1000000
/-! table_of -/
namespace Lt
open PySem PySem.Spec PyProof.Rows L2
def leafL (m : Nat) : List Int := (List.range m).map fun own => (bitL (itab m own)).sum
section
variable {P : Program} {w : World} {K : PySem.W.Frag} {mg : Str → Option Value} {base : Heap} {CB : Addr}
def spTab (CB : Addr) : Sp := fun vs H Q E => ∃ (m : Nat) (x : Str), vs = [nI m, .str x] ∧ 1 ≤ m ∧ m ≤ 6 ∧ x.length ≤ 1000 ∧ Nms (nmL m) ∧ opens (lexWords x) ≤ 20 ∧
  (∀ p, prs (nmL m) 21 0 (lexWords x) = .error p → BadF CB "place" (nI p) H E) ∧
  (∀ r, prs (nmL m) 21 0 (lexWords x) = .ok r → (r.length < 2 → ∀ v H', Same H H' → Q v H') ∧ ∀ t r', r = t :: r' → 2 ≤ r.length → BadF CB "place" (nI t.1) H E)
theorem sc_table_of : FnScope ["inputs", "text", "tree", "many", "leaves", "bits", "own", "place"] ["inputs", "text"] (defScope s_table_of) := ⟨rfl, rfl, rfl, by decide +kernel, rfl, by decide +kernel, by decide +kernel⟩
theorem has_table_of (T : Top K mg "table_of" s_table_of ["inputs", "text"]) (B : Bi mg) (hF : Has P w K mg base (L2.CX P w) 26 "formula_tree" ["inputs", "text"] (spFT CB)) (hI : Has P w K mg base CX0 1 "input_table" ["inputs", "own"] spITab)
    (hB : Has P w K mg base CX0 1 "bits_of" ["table"] spBits) (hW : ∀ m, Has P w K mg base CX0 23 "worth_of" ["tree", "leaves", "every"] (spWorth m 22)) : Has P w K mg base (L2.CX P w) 27 "table_of" ["inputs", "text"] (spTab CB) := by
  refine T.okX sc_table_of (fun vs H Q E h => ?_) (fun f cdv A outer s H vs Q E hr h => ?_)
  · obtain ⟨m, x, rfl, _⟩ := h
    rfl
  · obtain ⟨m, x, rfl, h1, h6, hx, N, ho, bad, good⟩ := h
    have hr1 : Room 1 _ := hr.mono (by decide)
    have hr23 : Room 23 _ := hr.mono (by decide)
    have h64 := pow6 h6
    refine ⟨_, pss_cons (ps_set (i := 2) sc_table_of.nd rfl (Or.inl rfl) (pe_hasX (E := E) hF hr (by rfl) (passes_call (takes_of rfl rfl rfl rfl) (fun _ _ _ _ h => h)) (pa_cons (pv 0) (pa_cons (pv 1) pa_nil))))
      (pss_cons (ps_set (i := 3) sc_table_of.nd rfl (Or.inl rfl) (pe_op op_shl pe_int (pv 0)))
      (pss_cons (ps_setLc (i := 4) (own := [("own", 6)]) (g := gName 6) (te := tCall spBits [] E0 (tCons (tCall spITab [] E0 (tCons (tVar 0) (tCons (tVar 6) tNil))) tNil)) (by rfl) sc_table_of.nd rfl rfl (sw_true rfl rfl rfl (by decide +kernel)) (pi_range1 (by rfl) B.range (pa_cons (pv 0) pa_nil)) (blkOk_by (own := [("own", 6)]) (N := ["inputs", "text", "tree", "many", "leaves", "bits", "own", "place"]) (sc := defScope s_table_of) (by decide +kernel))
        (fun _ _ _ _ _ => pg_name (i := 6) sc_table_of.nd rfl (Or.inl rfl)) (fun _ _ _ _ _ => pts_nil) (fun _ _ _ _ _ => pe_has hB hr1 (by rfl) (pa_cons (pe_has hI hr1 (by rfl) (pa_cons (pv 0) (pa_cons (pv 6) pa_nil))) pa_nil)))
      (pss_cons (ps_set (i := 5) sc_table_of.nd rfl (Or.inr rfl) (pe_has (hW m) hr23 (by rfl) (pa_cons (pv 2) (pa_cons (pv 4) (pa_cons (pe_op op_sub (pe_op op_shl pe_int (pv 3)) pe_int) pa_nil)))))
      (pss_one (ps_ret (pe_tupleOf (by rfl) B.tuple (pe_lc (own := [("place", 7)]) (g := gName 7) (te := tOp (rI0 fun i j => .int (Builtin.bitAnd i j)) (tOp (fun x y H Q => ∃ (i : Int) (k : Nat), x = .int i ∧ y = .int (k : Int) ∧ Q (.int (i / 2 ^ k)) H) (tVar 5) (tVar 7)) (tC (.int 1))) (by rfl) sc_table_of.nd (pi_range1 (by rfl) B.range (pa_cons (pv 3) pa_nil)) (blkOk_by (own := [("place", 7)]) (N := ["inputs", "text", "tree", "many", "leaves", "bits", "own", "place"]) (sc := defScope s_table_of) (by decide +kernel))
        (fun _ _ _ _ _ => pg_name (i := 7) sc_table_of.nd rfl (Or.inl rfl)) (fun _ _ _ _ _ => pts_nil) (fun _ _ _ _ _ => pe_op op_and (pe_op op_shrN (pv 5) (pv 7)) pe_int)))))))), ?_⟩
    refine ⟨_, rfl, _, rfl, m, x, rfl, h1, h6, hx, N, ho, bad, fun r hp => ⟨fun hl v H1 s1 tv => ?_, fun t r' e hl => (good r hp).2 t r' e hl⟩⟩
    have q := (good r hp).1 hl
    have e1 : (1 : Int) * 2 ^ (m : Int).toNat = ((2 ^ m : Nat) : Int) := by rw [Int.toNat_natCast, Int.one_mul, Int.natCast_pow]; rfl
    obtain ⟨k, hk⟩ : ∃ k, k = 2 ^ m := ⟨_, rfl⟩
    rw [← hk] at e1 h64
    refine ⟨_, rfl, 1, (m : Int), rfl, rfl, ⟨by omega, by omega, by decide⟩, ?_⟩
    show gName 3 (V.int ((1 : Int) * 2 ^ (m : Int).toNat)) _ _ _
    rw [e1]
    refine ⟨_, rfl, (m : Int), rfl, by omega, by omega, fun D hD => lc_rangeM (n := (m : Int).toNat) RI (leafL m) (fun _ _ _ _ _ r => r) (by omega) (by unfold leafL; rw [List.length_map, List.length_range, Int.toNat_natCast]) hD (fun x => rfl) (fun i n hi hn H' sm Q' q' => ?_) (fun H2 zs s2 hz pr => ?_)⟩
    · have en : n = (bitL (itab m i)).sum := by
        unfold leafL at hn
        rw [List.getElem?_map, List.getElem?_range (by omega)] at hn
        exact (Option.some.inj hn).symm
      refine ⟨_, rfl, _, rfl, m, i, by rw [Int.zero_add]; rfl, h6, fun u H3 s3 tk => ⟨u, itab m i, rfl, tk, by rw [itab_len]; exact pow6 h6, fun b hb => itab_le hb, fun H4 s4 => q' _ H4 (s3.trans s4) (by rw [en]; rfl)⟩⟩
    · rw [RI.all pr] at hz
      refine ⟨_, rfl, _, rfl, _, rfl, 1, (k : Int), rfl, rfl, ⟨by omega, by omega, by decide⟩, _, 1, rfl, rfl, v, D, leafL m, _, 21, rfl, tv.same s2, by decide, hz, by unfold leafL; rw [List.length_map, List.length_range], fun i => ?_⟩
      refine ⟨_, rfl, (k : Int), rfl, by omega, by omega, fun D2 hD2 => lc_rangeM (n := (k : Int).toNat) (fun _ _ _ => True) (List.replicate k ()) (fun _ _ _ _ _ r => r) (by omega) (by rw [List.length_replicate]; omega) hD2 (fun x => rfl) (fun j b hj hb H' sm Q' q' => ?_) (fun H3 zs3 s3 hz3 pr3 => ?_)⟩
      · exact ⟨_, rfl, _, rfl, i, j, rfl, by rw [Int.zero_add], _, 1, rfl, rfl, q' _ H' (Same.refl _) trivial⟩
      · exact .inl ⟨D2, zs3, rfl, SqL.of hz3, fun p hp => q _ _ (s1.trans (s2.trans (s3.trans (same_new hp))))⟩
end
end Lt

set_option Elab.async false
set_option linter.all false
set_option maxRecDepth 100000
set_option maxHeartbeats 1000000
/-! formula_tree and table_of, exactly -/
namespace Lt
open PySem PySem.Spec PyProof.Rows L2
theorem leafL_get {m i : Nat} (h : i < m) : (leafL m).getD i 0 = ((numB (itab m i) : Nat) : Int) := by
  unfold leafL
  rw [List.getD_eq_getElem?_getD, List.getElem?_map, List.getElem?_range h]
  exact bitL_num _
theorem pow_bit {K p : Nat} (h : p < K) : (2 ^ K - 1) / 2 ^ p % 2 = 1 := by
  have e := Nat.testBit_two_pow_sub_one K p
  rw [Nat.testBit_eq_decide_div_mod_eq, decide_eq_true h] at e
  exact of_decide_eq_true e
/-- a formula's number, bit by bit -/
theorem worth_bits (m : Nat) : ∀ f : Fm, f.Ok m → ∃ W : Nat, worthI (leafL m) (((2 ^ (2 ^ m) - 1 : Nat)) : Int) f = (W : Int) ∧ ∀ p, p < 2 ^ m → W / 2 ^ p % 2 = evF f p
  | .x i, ok => ⟨numB (itab m i), leafL_get ok, fun p hp => by
      rw [numB_bit _ _ fun b hb => itab_le hb]
      unfold itab
      rw [List.getD_eq_getElem?_getD, List.getElem?_map, List.getElem?_range hp]
      rfl⟩
  | .no f, ok => by
    obtain ⟨W, h1, h2⟩ := worth_bits m f ok
    refine ⟨(2 ^ (2 ^ m) - 1) ^^^ W, ?_, fun p hp => ?_⟩
    · rw [worthI, h1, Bits.bitXor_pp (Int.natCast_nonneg _) (Int.natCast_nonneg _), Int.toNat_natCast, Int.toNat_natCast]
    · rw [bit_xor, h2 p hp, pow_bit hp]
      show _ = 1 - evF f p
      have := evF_le f p
      omega
  | .two j f g, ok => by
    obtain ⟨hj, ok1, ok2⟩ := ok
    obtain ⟨V, h1, h2⟩ := worth_bits m f ok1
    obtain ⟨W, h3, h4⟩ := worth_bits m g ok2
    rw [worthI]
    unfold evF
    by_cases e1 : j = ("and" : Str)
    · refine ⟨V &&& W, ?_, fun p hp => ?_⟩
      · rw [if_pos e1, h1, h3, PyProof.Rows.bitAnd_pp (Int.natCast_nonneg _) (Int.natCast_nonneg _), Int.toNat_natCast, Int.toNat_natCast]
      · rw [if_pos e1, bit_and, h2 p hp, h4 p hp]
    · by_cases e2 : j = ("or" : Str)
      · refine ⟨V ||| W, ?_, fun p hp => ?_⟩
        · rw [if_neg e1, if_pos e2, h1, h3, Bits.bitOr_pp (Int.natCast_nonneg _) (Int.natCast_nonneg _), Int.toNat_natCast, Int.toNat_natCast]
        · rw [if_neg e1, if_pos e2, bit_or, h2 p hp, h4 p hp]
      · refine ⟨V ^^^ W, ?_, fun p hp => ?_⟩
        · rw [if_neg e1, if_neg e2, h1, h3, Bits.bitXor_pp (Int.natCast_nonneg _) (Int.natCast_nonneg _), Int.toNat_natCast, Int.toNat_natCast]
        · rw [if_neg e1, if_neg e2, bit_xor, h2 p hp, h4 p hp]
section
variable {P : Program} {w : World} {K : PySem.W.Frag} {mg : Str → Option Value} {base : Heap} {CB CS : Addr}
def spFTE : Sp := fun vs H Q E => ∃ (m : Nat) (x : Str) (f : Fm), vs = [nI m, .str x] ∧ 1 ≤ m ∧ m ≤ 6 ∧ x.length ≤ 1000 ∧ f.Ok m ∧ f.deep ≤ 20 ∧ (lexWords x).map (·.2) = f.spell ++ [wVoid] ∧ ∀ v H', Same H H' → f.At H' v → Q v H'
theorem has_formula_treeE (T : Top K mg "formula_tree" s_formula_tree ["inputs", "text"]) (B : Bi mg) (X1 : ErrI P w K mg base "BadSign" "place" CB) (X2 : Err0 K mg "BadString" CS)
    (hC : Has P w K mg base (L2.CX P w) 3 "check_inputs" ["inputs"] spCheckIn) (hW : Has P w K mg base CX0 1 "placed_words" ["text"] spWordsT)
    (hT : Has P w K mg base (L2.CX P w) 25 "tree_from" ["names", "words", "at", "around"] (spTreeE 21)) : Has P w K mg base (L2.CX P w) 26 "formula_tree" ["inputs", "text"] spFTE := by
  refine T.okX sc_formula_tree (fun vs H Q E h => ?_) (fun f cdv A outer s H vs Q E hr h => ?_)
  · obtain ⟨m, x, f, rfl, _⟩ := h
    rfl
  · obtain ⟨m, x, fm, rfl, h1, h6, hx, ok, hd, hwd, q⟩ := h
    have hr1 : Room 1 _ := hr.mono (by decide)
    have hr2 : Room 2 _ := hr.mono (by decide)
    have hr3 : Room 3 _ := hr.mono (by decide)
    refine ⟨_, pss_cons (ps_expr (pe_hasL hC hr3 (by rfl) (pa_cons (pv 0) pa_nil)))
      (pss_cons (ps_if (pt_not (pt_val (pe_callB call_isi (by rfl) B.isinstance PyProof.Rows.boot_isinstance (pa_cons (pv 1) (pa_cons (pe_bltn (by rfl) B.str PyProof.Rows.boot_str (rr_ty "str")) pa_nil))))) (pss_one (ps_raise rfl (takes_of rfl rfl rfl rfl) (pmk_err0 X2 (by rfl)))) pss_nil)
      (pss_cons (ps_set (i := 2) sc_formula_tree.nd rfl (Or.inl rfl) (pe_has hW hr1 (by rfl) (pa_cons (pv 1) pa_nil)))
      (pss_cons (ps_setLc (i := 3) (own := [("own", 6)]) (g := gName 6) (te := tXn) (by rfl) sc_formula_tree.nd rfl rfl (sw_true rfl rfl rfl (by decide +kernel)) (pi_range1 (by rfl) B.range (pa_cons (pv 0) pa_nil)) (blkOk_by (own := [("own", 6)]) (N := ["inputs", "text", "words", "names", "tree", "at", "own"]) (sc := defScope s_formula_tree) (by decide +kernel))
        (fun _ _ _ _ _ => pg_name (i := 6) sc_formula_tree.nd rfl (Or.inl rfl)) (fun _ _ _ _ _ => pts_nil) (fun _ _ _ _ _ => pe_joined (.cons pe_str (.cons (pe_fmt (pv 6)) .nil))))
      (pss_cons (ps_asg (pe_hasL hT hr (by rfl) (pa_cons (pv 3) (pa_cons (pv 2) (pa_cons pe_int (pa_cons pe_int pa_nil))))) (pg_tup rfl (pgs_cons (pg_name (i := 4) sc_formula_tree.nd rfl (Or.inl rfl)) (pgs_cons (pg_name (i := 5) sc_formula_tree.nd rfl (Or.inl rfl)) pgs_nil))))
      (pss_cons (ps_if (pt_cmpR op_lt (pv 5) (pe_op op_sub (pe_callB call_len_seq (by rfl) B.len PySem.boot_len (pa_cons (pv 2) pa_nil)) pe_int) (nomark _)) (pss_one (ps_raise rfl (takes_of rfl rfl rfl rfl) (pmk_errI X1 hr2 (by rfl) (pa_cons (pe_ix ix_tup (pe_ix ix_list (pv 2) (pv 5) (fun _ _ => rfl)) pe_int (fun _ _ => rfl)) pa_nil)))) pss_nil)
      (pss_one (ps_ret (pv 4)))))))), ?_⟩
    refine ⟨_, rfl, m, rfl, h1, h6, ?_⟩
    refine ⟨_, rfl, .str x, .ty "str", _, _, true, rfl, .ty _, rp_ty (.str x), kit_ty (kit_str (.str x)), true, rfl, iteF ?_⟩
    refine ⟨_, rfl, x, rfl, hx, fun l H1 s1 hl => ?_⟩
    refine ⟨_, rfl, (m : Int), rfl, by omega, by omega, fun D hD => lc_rangeM (n := (m : Int).toNat) RStr (nmL m) (fun _ _ _ _ _ r => r) (by omega) (by unfold nmL; rw [List.length_map, List.length_range, Int.toNat_natCast]) hD (fun x => rfl) (fun i z hi hz H' sm Q' q' => ?_) (fun H2 zs s2 hz pr => ?_)⟩
    · have hi6 : i < 6 := by omega
      have ez : z = xN i := by
        unfold nmL at hz
        rw [List.getElem?_map, List.getElem?_range (by omega)] at hz
        exact (Option.some.inj hz).symm
      obtain ⟨l1, l2⟩ := xN_len i hi6
      refine ⟨("x" : Str), rfl, by rw [sizeLine_eq]; exact l1, _, rfl, .inr ⟨((i : Nat) : Int), congrArg V.int (Int.zero_add _), log_small (by omega), _, rfl, by rw [sizeLine_eq]; exact l2, q' _ H' (Same.refl _) ?_⟩⟩
      rw [ez]
      rfl
    · rw [RStr.all pr] at hz
      have sD : Same H H2 := s1.trans s2
      have hl2 := hl.same s2
      refine ⟨_, rfl, _, rfl, D, l, 0, 0, m, lexWords x, fm, [wVoid], rfl, hz, h6, hl2, ok, by omega, by omega, hwd, fun a v k H3 s3 ha tv hk => ?_⟩
      have hl3 := hl2.same s3
      obtain ⟨xs, hx1, hx2⟩ := hl3
      have hxl := Paired.length hx2
      have hlen := congrArg List.length hwd
      rw [List.length_map, List.length_append, List.length_singleton] at hlen
      refine ⟨a, _, rfl, SqT.of ha, rfl, v, _, rfl, nI k, _, rfl, rfl, ?_⟩
      refine ⟨_, rfl, _, rfl, l, xs, rfl, .inl (SqL.of hx1), (xs.length : Int), 1, rfl, rfl, (k : Int), (xs.length : Int) - 1, rfl, rfl, false, congrArg V.bl (decide_eq_false (by omega)), iteF ⟨_, rfl, q v _ (sD.trans s3) tv⟩⟩
def spTabE : Sp := fun vs H Q E => ∃ (m : Nat) (x : Str) (f : Fm), vs = [nI m, .str x] ∧ 1 ≤ m ∧ m ≤ 6 ∧ x.length ≤ 1000 ∧ f.Ok m ∧ f.deep ≤ 20 ∧ (lexWords x).map (·.2) = f.spell ++ [wVoid] ∧ ∀ v H', Same H H' → TK H' v (tabF m f) → Q v H'
theorem has_table_ofE (T : Top K mg "table_of" s_table_of ["inputs", "text"]) (B : Bi mg) (hF : Has P w K mg base (L2.CX P w) 26 "formula_tree" ["inputs", "text"] spFTE) (hI : Has P w K mg base CX0 1 "input_table" ["inputs", "own"] spITab)
    (hB : Has P w K mg base CX0 1 "bits_of" ["table"] spBits) (hW : Has P w K mg base CX0 23 "worth_of" ["tree", "leaves", "every"] (spWorthE 22)) : Has P w K mg base (L2.CX P w) 27 "table_of" ["inputs", "text"] spTabE := by
  refine T.okX sc_table_of (fun vs H Q E h => ?_) (fun f cdv A outer s H vs Q E hr h => ?_)
  · obtain ⟨m, x, f, rfl, _⟩ := h
    rfl
  · obtain ⟨m, x, fm, rfl, h1, h6, hx, ok, hd, hwd, q⟩ := h
    have hr1 : Room 1 _ := hr.mono (by decide)
    have hr23 : Room 23 _ := hr.mono (by decide)
    have h64 := pow6 h6
    refine ⟨_, pss_cons (ps_set (i := 2) sc_table_of.nd rfl (Or.inl rfl) (pe_hasL hF hr (by rfl) (pa_cons (pv 0) (pa_cons (pv 1) pa_nil))))
      (pss_cons (ps_set (i := 3) sc_table_of.nd rfl (Or.inl rfl) (pe_op op_shl pe_int (pv 0)))
      (pss_cons (ps_setLc (i := 4) (own := [("own", 6)]) (g := gName 6) (te := tCall spBits [] E0 (tCons (tCall spITab [] E0 (tCons (tVar 0) (tCons (tVar 6) tNil))) tNil)) (by rfl) sc_table_of.nd rfl rfl (sw_true rfl rfl rfl (by decide +kernel)) (pi_range1 (by rfl) B.range (pa_cons (pv 0) pa_nil)) (blkOk_by (own := [("own", 6)]) (N := ["inputs", "text", "tree", "many", "leaves", "bits", "own", "place"]) (sc := defScope s_table_of) (by decide +kernel))
        (fun _ _ _ _ _ => pg_name (i := 6) sc_table_of.nd rfl (Or.inl rfl)) (fun _ _ _ _ _ => pts_nil) (fun _ _ _ _ _ => pe_has hB hr1 (by rfl) (pa_cons (pe_has hI hr1 (by rfl) (pa_cons (pv 0) (pa_cons (pv 6) pa_nil))) pa_nil)))
      (pss_cons (ps_set (i := 5) sc_table_of.nd rfl (Or.inr rfl) (pe_has hW hr23 (by rfl) (pa_cons (pv 2) (pa_cons (pv 4) (pa_cons (pe_op op_sub (pe_op op_shl pe_int (pv 3)) pe_int) pa_nil)))))
      (pss_one (ps_ret (pe_tupleOf (by rfl) B.tuple (pe_lc (own := [("place", 7)]) (g := gName 7) (te := tOp (fun x y H Q => ∃ (i : Int) (k : Nat), x = .int i ∧ y = .int (2 ^ k - 1) ∧ Q (.int (i % 2 ^ k)) H) (tOp (fun x y H Q => ∃ (i : Int) (k : Nat), x = .int i ∧ y = .int (k : Int) ∧ Q (.int (i / 2 ^ k)) H) (tVar 5) (tVar 7)) (tC (.int 1))) (by rfl) sc_table_of.nd (pi_range1 (by rfl) B.range (pa_cons (pv 3) pa_nil)) (blkOk_by (own := [("place", 7)]) (N := ["inputs", "text", "tree", "many", "leaves", "bits", "own", "place"]) (sc := defScope s_table_of) (by decide +kernel))
        (fun _ _ _ _ _ => pg_name (i := 7) sc_table_of.nd rfl (Or.inl rfl)) (fun _ _ _ _ _ => pts_nil) (fun _ _ _ _ _ => pe_op op_andM (pe_op op_shrN (pv 5) (pv 7)) pe_int)))))))), ?_⟩
    refine ⟨_, rfl, _, rfl, m, x, fm, rfl, h1, h6, hx, ok, hd, hwd, fun v H1 s1 tv => ?_⟩
    have e1 : (1 : Int) * 2 ^ (m : Int).toNat = ((2 ^ m : Nat) : Int) := by rw [Int.toNat_natCast, Int.one_mul, Int.natCast_pow]; rfl
    obtain ⟨W, hW1, hW2⟩ := worth_bits m fm ok
    have hl1 := tabF_len m fm
    obtain ⟨k, hk⟩ : ∃ k, k = 2 ^ m := ⟨_, rfl⟩
    rw [← hk] at e1 h64 hW1 hW2 hl1
    refine ⟨_, rfl, 1, (m : Int), rfl, rfl, ⟨by omega, by omega, by decide⟩, ?_⟩
    show gName 3 (V.int ((1 : Int) * 2 ^ (m : Int).toNat)) _ _ _
    rw [e1]
    refine ⟨_, rfl, (m : Int), rfl, by omega, by omega, fun D hD => lc_rangeM (n := (m : Int).toNat) RI (leafL m) (fun _ _ _ _ _ r => r) (by omega) (by unfold leafL; rw [List.length_map, List.length_range, Int.toNat_natCast]) hD (fun x => rfl) (fun i n hi hn H' sm Q' q' => ?_) (fun H2 zs s2 hz pr => ?_)⟩
    · have en : n = (bitL (itab m i)).sum := by
        unfold leafL at hn
        rw [List.getElem?_map, List.getElem?_range (by omega)] at hn
        exact (Option.some.inj hn).symm
      refine ⟨_, rfl, _, rfl, m, i, by rw [Int.zero_add]; rfl, h6, fun u H3 s3 tk => ⟨u, itab m i, rfl, tk, by rw [itab_len]; exact pow6 h6, fun b hb => itab_le hb, fun H4 s4 => q' _ H4 (s3.trans s4) (by rw [en]; rfl)⟩⟩
    · rw [RI.all pr] at hz
      have ek : (1 : Int) * 2 ^ (k : Int).toNat - 1 = ((2 ^ k - 1 : Nat) : Int) := by
        have := Nat.one_le_two_pow (n := k)
        rw [Int.toNat_natCast, Int.one_mul, Int.natCast_sub this, Int.natCast_pow]
        rfl
      refine ⟨_, rfl, _, rfl, _, rfl, 1, (k : Int), rfl, rfl, ⟨by omega, by omega, by decide⟩, _, 1, rfl, rfl, v, D, leafL m, _, fm, rfl, tv.same s2, by omega, by unfold leafL; rw [List.length_map, List.length_range]; exact ok, hz, ?_⟩
      rw [ek, hW1]
      refine ⟨_, rfl, (k : Int), rfl, by omega, by omega, fun D2 hD2 => lc_rangeM (n := (k : Int).toNat) RN (tabF m fm) (fun _ _ _ _ _ r => r) (by omega) (by rw [hl1]; omega) hD2 (fun x => rfl) (fun j b hj hb H' sm Q' q' => ?_) (fun H3 zs3 s3 hz3 pr3 => ?_)⟩
      · have hj' : j < k := by omega
        have eb : b = evF fm j := by
          unfold tabF at hb
          rw [List.getElem?_map, List.getElem?_range (by omega)] at hb
          exact (Option.some.inj hb).symm
        refine ⟨_, rfl, _, rfl, (W : Int), j, rfl, by rw [Int.zero_add], _, 1, rfl, rfl, q' _ H' (Same.refl _) ?_⟩
        show V.int _ = nI b
        rw [eb, ← hW2 j hj']
        unfold nI
        rw [Int.natCast_emod, Int.natCast_ediv, Int.natCast_pow]
        rfl
      · exact .inl ⟨D2, zs3, rfl, SqL.of hz3, fun p hp => q _ _ (s1.trans (s2.trans (s3.trans (same_new hp)))) (tn_of upd_same (RN.all pr3))⟩
end
end Lt

set_option Elab.async false
set_option linter.all false
set_option maxRecDepth 100000
set_option maxHeartbeats 1000000
namespace Lt
open PySem PySem.Spec PyProof.Rows L2
section
variable {P : Program} {w : World} {K : PySem.W.Frag} {mg : Str → Option Value} {base : Heap}
/-! ### _law_pick, _law_is -/
def spPick (K : PySem.W.Frag) : Sp := fun vs H Q _ => ∃ (r l sc : Addr) (ns : List Int) (xs : List V), vs = [.ref r, .ref l] ∧ RowAt K H r sc ns ∧ H l = some (.lst xs) ∧ l ≠ r ∧ 1 ≤ xs.length ∧ xs.length ≤ 1000 ∧ ∀ x H', x ∈ xs → StepR r H H' → RowAt K H' r sc ns → Q x H'
theorem sc_law_pick : FnScope ["row", "things"] ["row", "things"] (defScope s_law_pick) := ⟨rfl, rfl, rfl, by decide +kernel, rfl, by decide +kernel, by decide +kernel⟩
theorem has_law_pick (T : Top K mg "_law_pick" s_law_pick ["row", "things"]) (B : Bi mg) (hT : Has P w K mg base CX0 1 "_law_taken" ["row", "many"] (spTaken K)) : Has P w K mg base CX0 2 "_law_pick" ["row", "things"] (spPick K) := by
  refine T.ok sc_law_pick (fun vs H Q E h => ?_) (fun f cdv A outer s H vs Q E hr h => ?_)
  · obtain ⟨r, l, sc, ns, xs, rfl, _⟩ := h
    rfl
  · obtain ⟨r, l, sc, ns, xs, rfl, ra, hl, hne, h1, h2, q⟩ := h
    refine ⟨_, pss_one (ps_ret (pe_ix ix_list (pv 1) (pe_has hT hr (by rfl) (pa_cons (pv 0) (pa_cons (pe_callB call_len_seq (by rfl) B.len PySem.boot_len (pa_cons (pv 1) pa_nil)) pa_nil))) (fun _ _ => rfl))), ?_⟩
    refine ⟨_, rfl, _, rfl, _, rfl, l, xs, rfl, .inl (SqL.of hl), r, sc, ns, xs.length, rfl, ra, h1, h2, fun x H' hx st ra' => ?_⟩
    exact ⟨l, xs, (x : Int), xs[x], rfl, rfl, SqL.of (st l _ hne hl), atI_nat (List.getElem?_eq_getElem hx), q _ H' (List.getElem_mem hx) st ra'⟩
end
end Lt

set_option Elab.async false
set_option linter.all false
set_option maxRecDepth 100000
set_option maxHeartbeats 1000000
/-! the law's formulas: _law_tree, _law_spelled -/
namespace Lt
open PySem PySem.Spec PyProof.Rows L2
/-- the law's name of an input -/
def xL (i : Nat) : Str := ("x" : Str) ++ Str.ofString (toString ((i : Nat) : Int))
theorem xL_xN : ∀ i, i < 6 → xL i = xN i := by decide +kernel
/-- a tree of the law's, and its words -/
inductive LTr (H : Hp) (m : Nat) : Nat → V → List Str → Prop
  | leaf {d i : Nat} {a : Addr} : H a = some (.tup [.str "x", nI i]) → i < m → LTr H m d (.ref a) [xL i]
  | neg {d : Nat} {a : Addr} {v : V} {ws : List Str} : H a = some (.tup [.str wNot, v]) → LTr H m d v ws → LTr H m (d + 1) (.ref a) (wNot :: ws)
  | two {d : Nat} {a : Addr} {j : Str} {v u : V} {ws us : List Str} : H a = some (.tup [.str j, v, u]) → j ∈ joins → LTr H m d v ws → LTr H m d u us → LTr H m (d + 1) (.ref a) ([wOp] ++ ws ++ [j] ++ us ++ [wCl])
theorem LTr.tm {H H' : Hp} {m d : Nat} {v : V} {ws : List Str} (e : Tm H H') (h : LTr H m d v ws) : LTr H' m d v ws := by
  induction h with
  | leaf h i => exact .leaf (e.1 _ _ h) i
  | neg h _ ih => exact .neg (e.1 _ _ h) ih
  | two h j _ _ i1 i2 => exact .two (e.1 _ _ h) j i1 i2
theorem Str_len (a b : Str) : (a ++ b).length = a.length + b.length := by
  show (a.cps ++ b.cps).size = _
  rw [Array.size_append]
  rfl
theorem ltr_len {H : Hp} {m d : Nat} {v : V} {ws : List Str} (h : LTr H m d v ws) : ws.length + 3 ≤ 2 ^ (d + 2) := by
  induction h with
  | @leaf d i a h hi =>
    have : 2 ^ 2 ≤ 2 ^ (d + 2) := Nat.pow_le_pow_right (by decide) (by omega)
    show 1 + 3 ≤ _
    omega
  | @neg d a v ws h _ ih =>
    have : 2 ^ (d + 1 + 2) = 2 * 2 ^ (d + 2) := by rw [Nat.pow_succ, Nat.mul_comm]
    rw [List.length_cons]
    omega
  | @two d a j v u ws us h j' _ _ i1 i2 =>
    have : 2 ^ (d + 1 + 2) = 2 * 2 ^ (d + 2) := by rw [Nat.pow_succ, Nat.mul_comm]
    simp only [List.length_append, List.length_cons, List.length_nil]
    omega
section
variable {P : Program} {w : World} {K : PySem.W.Frag} {mg : Str → Option Value} {base : Heap}
def spLTree (K : PySem.W.Frag) (f : Nat) : Sp := fun vs H Q _ => ∃ (r sc : Addr) (ns : List Int) (m d : Nat), vs = [.ref r, nI m, nI d] ∧ RowAt K H r sc ns ∧ 1 ≤ m ∧ m ≤ 6 ∧ d < f ∧ d ≤ 10 ∧ ∀ v ws H', StepR r H H' → RowAt K H' r sc ns → LTr H' m d v ws → Q v H'
theorem sc_law_tree : FnScope ["row", "inputs", "deep", "way"] ["row", "inputs", "deep"] (defScope s_law_tree) := ⟨rfl, rfl, rfl, by decide +kernel, rfl, by decide +kernel, by decide +kernel⟩
theorem has_law_tree (T : Top K mg "_law_tree" s_law_tree ["row", "inputs", "deep"]) (hT : Has P w K mg base CX0 1 "_law_taken" ["row", "many"] (spTaken K)) : ∀ f, Has P w K mg base CX0 (f + 2) "_law_tree" ["row", "inputs", "deep"] (spLTree K f)
  | 0 => T.ok sc_law_tree (fun vs H Q E h => by obtain ⟨r, sc, ns, m, d, rfl, _⟩ := h; rfl) (fun f cdv A outer s H vs Q E hr h => by
      obtain ⟨r, sc, ns, m, d, rfl, _, _, _, h5, _⟩ := h
      exact absurd h5 (Nat.not_lt_zero _))
  | fu + 1 => by
    have ih := has_law_tree T hT fu
    refine T.ok sc_law_tree (fun vs H Q E h => ?_) (fun f cdv A outer s H vs Q E hr h => ?_)
    · obtain ⟨r, sc, ns, m, d, rfl, _⟩ := h
      rfl
    · obtain ⟨r, sc, ns, m, d, rfl, ra, h1, h6, hd, hd10, q⟩ := h
      have hr1 : Room 1 _ := hr.mono (by omega)
      refine ⟨_, C8.pss_cut (ps_set (i := 3) sc_law_tree.nd rfl (Or.inl rfl) (pe_ifExp (pt_cmpR op_gt (pv 2) pe_int (nomark _)) (pe_has hT hr1 (by rfl) (pa_cons (pv 0) (pa_cons pe_int pa_nil))) pe_int))
        (pss_cons (ps_if (pt_cmpR op_lt (pv 3) pe_int (nomark _)) (pss_one (ps_ret (pe_tup (pa_cons pe_str (pa_cons (pe_has hT hr1 (by rfl) (pa_cons (pv 0) (pa_cons (pv 1) pa_nil))) pa_nil))))) pss_nil)
        (pss_cons (ps_if (pt_cmpR op_eq (pv 3) pe_int (nomark _)) (pss_one (ps_ret (pe_tup (pa_cons pe_str (pa_cons (pe_has ih hr (by rfl) (pa_cons (pv 0) (pa_cons (pv 1) (pa_cons (pe_op op_sub (pv 2) pe_int) pa_nil)))) pa_nil))))) pss_nil)
        (pss_one (ps_ret (pe_tup (pa_cons (pe_ix ix_list (pe_lst (pa_cons pe_str (pa_cons pe_str (pa_cons pe_str pa_nil)))) (pe_op op_sub (pv 3) pe_int) (fun _ _ => rfl)) (pa_cons (pe_has ih hr (by rfl) (pa_cons (pv 0) (pa_cons (pv 1) (pa_cons (pe_op op_sub (pv 2) pe_int) pa_nil)))) (pa_cons (pe_has ih hr (by rfl) (pa_cons (pv 0) (pa_cons (pv 1) (pa_cons (pe_op op_sub (pv 2) pe_int) pa_nil)))) pa_nil)))))))), ?_⟩
      refine ⟨fun σ1 H1 => ∃ y : Nat, σ1 = [some (.ref r), some (nI m), some (nI d), some (nI y)] ∧ y < 6 ∧ (0 < d ∨ y = 0) ∧ StepR r H H1 ∧ RowAt K H1 r sc ns, ?_, ?_⟩
      · refine ⟨_, rfl, (d : Int), 0, rfl, rfl, decide ((0 : Int) < (d : Int)), rfl, ite2 (fun h => ⟨_, rfl, r, sc, ns, 6, rfl, ra, by decide, by decide, fun x H' hx st ra' => ⟨x, rfl, hx, .inl ?_, st, ra'⟩⟩) (fun h => ⟨0, rfl, by decide, .inr rfl, .refl _ _, ra⟩)⟩
        have := of_decide_eq_true h
        omega
      · rintro σ1 H1 ⟨y, rfl, hy, hyd, st, ra1⟩
        refine ⟨_, rfl, (y : Int), 2, rfl, rfl, decide ((y : Int) < 2), rfl, ite2 (fun h => ⟨_, rfl, _, rfl, r, sc, ns, m, rfl, ra1, h1, by omega, fun x H2 hx st2 ra2 => ⟨by show 2 ≤ sizeLine; decide, fun p hp => q _ _ _ (st.trans (st2.trans (StepR.of (same_new hp)))) (ra2.step (same_new hp)) (.leaf upd_same hx)⟩⟩) (fun h => ?_)⟩
        have h2 : ¬ (y : Int) < 2 := fun z => h (decide_eq_true z)
        cases d with
        | zero => omega
        | succ d =>
          have ed : (((d + 1 : Nat) : Int) - 1) = (d : Int) := by omega
          refine ⟨_, rfl, rfl, _, rfl, ite2 (fun h3 => ?_) (fun h3 => ?_)⟩
          · refine ⟨_, rfl, _, rfl, _, rfl, ((d + 1 : Nat) : Int), 1, rfl, rfl, r, sc, ns, m, d, congrArg (fun z : Int => [V.ref r, nI m, V.int z]) ed, ra1, h1, h6, by omega, by omega, fun v ws H2 st2 ra2 lt => ⟨by show 2 ≤ sizeLine; decide, fun p hp => ?_⟩⟩
            exact q _ _ _ (st.trans (st2.trans (StepR.of (same_new hp)))) (ra2.step (same_new hp)) (.neg upd_same (lt.tm (.of (same_new hp))))
          · have h4 : (y : Int) ≠ 2 := fun z => h3 (decide_eq_true (congrArg V.int z))
            obtain ⟨j, hj, hat⟩ : ∃ j, j ∈ joins ∧ atI [V.str "and", V.str "or", V.str "xor"] ((y : Int) - 3) = some (V.str j) := by
              have : y = 3 ∨ y = 4 ∨ y = 5 := by omega
              rcases this with rfl | rfl | rfl
              · exact ⟨"and", by decide +kernel, rfl⟩
              · exact ⟨"or", by decide +kernel, rfl⟩
              · exact ⟨"xor", by decide +kernel, rfl⟩
            refine ⟨by show 3 ≤ sizeLine; decide, fun pl hpl => ⟨_, rfl, (y : Int), 3, rfl, rfl, pl, _, (y : Int) - 3, .str j, rfl, rfl, SqL.of upd_same, hat, ?_⟩⟩
            have s1 := same_new (o := .lst [V.str "and", V.str "or", V.str "xor"]) hpl
            refine ⟨_, rfl, _, rfl, _, rfl, ((d + 1 : Nat) : Int), 1, rfl, rfl, r, sc, ns, m, d, congrArg (fun z : Int => [V.ref r, nI m, V.int z]) ed, ra1.step s1, h1, h6, by omega, by omega, fun v ws H2 st2 ra2 lt => ?_⟩
            refine ⟨_, rfl, _, rfl, _, rfl, ((d + 1 : Nat) : Int), 1, rfl, rfl, r, sc, ns, m, d, congrArg (fun z : Int => [V.ref r, nI m, V.int z]) ed, ra2, h1, h6, by omega, by omega, fun u us H3 st3 ra3 lu => ⟨by show 3 ≤ sizeLine; decide, fun p hp => ?_⟩⟩
            exact q _ _ _ (st.trans ((StepR.of s1).trans (st2.trans (st3.trans (StepR.of (same_new hp)))))) (ra3.step (same_new hp)) (.two upd_same hj (lt.tm ((st3.tm ra2).trans (.of (same_new hp)))) (lu.tm (.of (same_new hp))))
def spSpell (f : Nat) : Sp := fun vs H Q _ => ∃ (z v : V) (m d : Nat) (ws : List Str), vs = [z, v] ∧ LTr H m d v ws ∧ m ≤ 6 ∧ d < f ∧ d ≤ 10 ∧ ∀ l H', Same H H' → H' l = some (.lst (ws.map V.str)) → Q (.ref l) H'
end
end Lt

set_option Elab.async false
set_option linter.all false
set_option maxRecDepth 100000
set_option maxHeartbeats 1000000
/-! _law_first -/
namespace Lt
open PySem PySem.Spec PyProof.Rows L2
theorem for_enumL {K : PySem.W.Frag} {a : Addr} {xs : List V} {g : TG} {tb : TS} {D : Ends} {σ : L2.St} {H : Hp} (Pv : Nat → L2.St → Hp → Prop) (h0 : Pv 0 σ H) (hl : ∀ i σ H, i ≤ xs.length → Pv i σ H → SqL K H a xs)
    (hs : ∀ (i : Nat) (x : V) σ H T, xs[i]? = some x → Pv i σ H → H T = none → g (.ref T) σ (upd H T (.tup [nI i, x])) fun σ2 H2 => tb { D with nx := Pv (i + 1), ct := Pv (i + 1), bk := D.nx } σ2 H2) (hd : ∀ σ H, Pv xs.length σ H → D.nx σ H) :
    ∃ W : Nat → Nat → L2.St → Hp → Prop, (∃ m, W 0 m σ H) ∧ ∀ i m σ H, W i m σ H →
      ((Ite K a).stop i H ∧ D.nx σ H) ∨ ((Ite K a).go i H ∧ ∃ N : L2.St → Hp → Prop, (∀ σ' H', N σ' H' → ∃ m', m' < m ∧ W (i + 1) m' σ' H') ∧ ∀ x H', (Ite K a).yld i H x H' → g x σ H' fun σ2 H2 => tb { D with nx := N, ct := N, bk := D.nx } σ2 H2) := by
  refine ⟨fun i m σ H => m = xs.length - i ∧ i ≤ xs.length ∧ Pv i σ H, ⟨xs.length, by simp, Nat.zero_le _, h0⟩, ?_⟩
  rintro i m σ H ⟨rfl, hi, p⟩
  have q := hl i σ H hi p
  by_cases hlt : i < xs.length
  · refine .inr ⟨⟨xs, xs[i], q, by simp [hlt]⟩, Pv (i + 1), fun σ' H' p' => ⟨xs.length - (i + 1), by omega, rfl, hlt, p'⟩, fun x H' y => ?_⟩
    obtain ⟨T, z, rfl, hT, rfl, hz⟩ := y
    exact hs i z σ H T (hz xs q) p hT
  · have e : i = xs.length := by omega
    subst e
    exact .inl ⟨⟨xs, q, Nat.le_refl _⟩, hd σ H p⟩
def ndS : Nd → Str
  | .E => "E"
  | .W => "W"
  | .C => ")"
theorem dp_strs {K : PySem.W.Frag} {H : Hp} : ∀ ss : List Str, DpAll K H (ss.map V.str) (ss.map PyData.str)
  | [] => .nil
  | s :: ss => .cons (.str s) (dp_strs ss)
theorem depth_strs : ∀ ss : List Str, PyData.depthAll (ss.map PyData.str) = 0
  | [] => rfl
  | s :: ss => by
    show max (PyData.depth (.str s)) (PyData.depthAll (ss.map PyData.str)) = 0
    rw [depth_strs ss]
    rfl
theorem can_nds : ∀ u : List Nd, PyData.canLayAll0 ((u.map ndS).map PyData.str) = true
  | [] => rfl
  | n :: u => by
    show (PyData.canLay0 (.str (ndS n)) && PyData.canLayAll0 ((u.map ndS).map PyData.str)) = true
    rw [can_nds u, Bool.and_true]
    cases n <;> decide +kernel
theorem sh_nds (u : List Nd) : SeqAt.shaped (.list ((u.map ndS).map PyData.str)) = true := by
  show (PyData.canLayAll0 ((u.map ndS).map PyData.str) && decide (PyData.depthAll ((u.map ndS).map PyData.str) + 1 ≤ 64)) = true
  rw [can_nds, depth_strs]
  rfl
theorem eqv_nil (ss : List Str) : PyData.eqv (.list (ss.map PyData.str)) (.list []) = decide (ss = []) := by
  cases ss with
  | nil => rfl
  | cons s ss => rfl
theorem cut_tl (x : V) (xs : List V) : cutV (x :: xs) (some 1) none = xs := by
  unfold cutV
  rw [show (1 : Int) = ((1 : Nat) : Int) from rfl, HT.sIx_nat, HT.sIx_none, List.length_cons, Nat.min_eq_left (by omega)]
  show List.take (xs.length + 1 - 1) xs = xs
  rw [Nat.add_sub_cancel, List.take_length]
/-- what the law says of words -/
def dueAt (ns : List Str) (ws : List Str) : V := if (mach ns [.E] ws).1 < ws.length then nI (mach ns [.E] ws).1 else if (mach ns [.E] ws).2 = [] then .non else nI ws.length
section
variable {P : Program} {w : World} {K : PySem.W.Frag} {mg : Str → Option Value} {base : Heap}
def spFirst : Sp := fun vs H Q _ => ∃ (l : Addr) (m : Nat) (ws : List Str), vs = [.ref l, nI m] ∧ H l = some (.lst (ws.map V.str)) ∧ m ≤ 6 ∧ ws.length ≤ 1000 ∧ ∀ H', Same H H' → Q (dueAt (nmL m) ws) H'
end
end Lt

set_option Elab.async false
set_option linter.all false
set_option maxRecDepth 100000
set_option maxHeartbeats 1000000
/-! the law's words -/
namespace Lt
open PySem PySem.Spec PyProof.Rows L2
def sps (n : Nat) : Str := ⟨(List.replicate n 32).toArray⟩
theorem mul_sp : ∀ n : Nat, n ≤ 2 → Txt.mul (" " : Str) (n : Int) = sps n := by decide +kernel
theorem mulOk_sp (n : Nat) (h : n ≤ 2) : MulOk (" " : Str) (n : Int) := by
  have : n = 0 ∨ n = 1 ∨ n = 2 := by omega
  rcases this with rfl | rfl | rfl
  · exact ⟨by decide +kernel, fun h => absurd (by decide) h, fun h => absurd (by decide) h⟩
  · exact ⟨by decide +kernel, fun _ h => absurd h (by decide +kernel), fun _ h => absurd h (by decide +kernel)⟩
  · exact ⟨by decide +kernel, fun _ _ => by decide +kernel, fun _ _ => by decide +kernel⟩
def rSp : R2 := fun x y H Q => ∃ n : Nat, x = .str " " ∧ y = .int (n : Int) ∧ n ≤ 2 ∧ Q (.str (sps n)) H
theorem op_sp {X : Cx} : OpR X (binaryOp .Mult) rSp := by
  intro pins s σ H x y v u Q I rx ry h
  obtain ⟨n, rfl, rfl, hn, q⟩ := h
  obtain ⟨t, rfl⟩ := rx
  obtain ⟨t', rfl⟩ := ry
  refine SB.mul (mulOk_sp n hn) fun t' k => ⟨.str (sps n), H, I.tok _, ⟨t', ?_⟩, q⟩
  rw [mul_sp n hn]
/-- all words that the law can write -/
def allW : List Str := ["not", "and", "or", "xor", "(", ")", "x9", "x", "nor", "x00", "0", "+", "X0", xL 0, xL 1, xL 2, xL 3, xL 4, xL 5]
def wdB (w : Str) : Bool := (decide (w.cps.toList ≠ []) && w.cps.toList.all fun c => decide (c ∈ runS.cps.toList)) || (decide (w.cps.size = 1) && w.cps.toList.all fun c => decide (c ∉ runS.cps.toList) && decide (c ≠ 32)) || decide (w = wX0)
theorem wd_of {w : Str} (h : wdB w = true) : WdT w := by
  unfold wdB at h
  rw [Bool.or_eq_true, Bool.or_eq_true, Bool.and_eq_true, Bool.and_eq_true] at h
  rcases h with (⟨h1, h2⟩ | ⟨h1, h2⟩) | h
  · exact .inl ⟨of_decide_eq_true h1, fun c hc => of_decide_eq_true (List.all_eq_true.mp h2 c hc)⟩
  · obtain ⟨⟨a⟩⟩ := w
    have h1 : a.length = 1 := of_decide_eq_true h1
    match a, h1 with
    | [c], _ =>
      have h3 := List.all_eq_true.mp h2 c List.mem_cons_self
      rw [Bool.and_eq_true] at h3
      exact .inr (.inl ⟨c, rfl, of_decide_eq_true h3.1, of_decide_eq_true h3.2⟩)
  · exact .inr (.inr (of_decide_eq_true h))
theorem allW_ok : ∀ w ∈ allW, wdB w = true ∧ w.length ≤ 3 := by decide +kernel
theorem allW_x : ∀ i, i < 6 → xL i ∈ allW := by decide +kernel
def opW (ws : List Str) : Nat := (ws.filter isOpen).length
theorem opW_app (a b : List Str) : opW (a ++ b) = opW a + opW b := by unfold opW; rw [List.filter_append, List.length_append]
theorem opW_one (w : Str) : opW [w] ≤ 1 := by unfold opW; exact List.length_filter_le _ _
theorem opW_td (ws : List Str) (i : Nat) : opW (ws.take i) + opW (ws.drop i) = opW ws := by rw [← opW_app, List.take_append_drop]
theorem opW_dr (ws : List Str) (i : Nat) : opW (ws.drop (i + 1)) ≤ opW (ws.drop i) := by
  have := opW_td (ws.drop i) 1
  rw [List.drop_drop] at this
  omega
theorem xL_open : ∀ i, i < 6 → isOpen (xL i) = false := by decide +kernel
theorem ltr_all {H : Hp} {m d : Nat} {v : V} {ws : List Str} (hm : m ≤ 6) (h : LTr H m d v ws) : opW ws + 1 ≤ 2 ^ d ∧ ∀ w ∈ ws, w ∈ allW := by
  induction h with
  | @leaf d i a h hi =>
    have h1 : 1 ≤ 2 ^ d := Nat.one_le_two_pow
    refine ⟨?_, fun w hw => ?_⟩
    · have : opW [xL i] = 0 := by unfold opW; rw [List.filter_cons, xL_open i (by omega)]; rfl
      omega
    · rw [List.mem_singleton.mp hw]
      exact allW_x i (by omega)
  | @neg d a v ws h _ ih =>
    have : 2 ^ (d + 1) = 2 * 2 ^ d := by rw [Nat.pow_succ, Nat.mul_comm]
    have h1 : 1 ≤ 2 ^ d := Nat.one_le_two_pow
    have h2 := opW_app [wNot] ws
    have h3 := opW_one wNot
    refine ⟨?_, fun w hw => ?_⟩
    · show opW ([wNot] ++ ws) + 1 ≤ _
      omega
    · rcases List.mem_cons.mp hw with rfl | hw
      · exact by decide +kernel
      · exact ih.2 w hw
  | @two d a j v u ws us h hj _ _ i1 i2 =>
    have : 2 ^ (d + 1) = 2 * 2 ^ d := by rw [Nat.pow_succ, Nat.mul_comm]
    have h3 := opW_one wOp
    have h4 : opW [j] = 0 := by
      have : ∀ j ∈ joins, opW [j] = 0 := by decide +kernel
      exact this j hj
    have h5 : opW [wCl] = 0 := by decide +kernel
    refine ⟨?_, fun w hw => ?_⟩
    · simp only [opW_app]
      omega
    · simp only [List.mem_append, List.mem_singleton] at hw
      rcases hw with (((rfl | hw) | rfl) | hw) | rfl
      · exact by decide +kernel
      · exact i1.2 w hw
      · have : ∀ j ∈ joins, j ∈ allW := by decide +kernel
        exact this _ hj
      · exact i2.2 w hw
      · exact by decide +kernel
theorem open_no : ¬ isOpen ("X" : Str) = true ∧ ¬ isOpen ("0" : Str) = true ∧ ¬ isOpen wVoid = true := by decide +kernel
theorem opens_flat : ∀ P : List Tok, opens (P.flatMap flat) ≤ opW (P.map (·.2))
  | [] => Nat.le_refl _
  | t :: P => by
    have ih := opens_flat P
    rw [List.flatMap_cons, List.map_cons]
    have h1 := opW_app [t.2] (P.map (·.2))
    have h2 : opens (flat t ++ P.flatMap flat) = opens (flat t) + opens (P.flatMap flat) := by unfold opens; rw [List.filter_append, List.length_append]
    have h3 : opens (flat t) ≤ opW [t.2] := by
      unfold flat
      split
      · have e : opens [(t.1, ("X" : Str)), (t.1 + 1, ("0" : Str))] = 0 := by
          unfold opens
          rw [List.filter_cons, List.filter_cons, if_neg open_no.1, if_neg open_no.2.1]
          rfl
        omega
      · unfold opens opW
        rw [List.filter_cons, List.filter_cons]
        split <;> exact Nat.le_refl _
    show _ ≤ opW ([t.2] ++ P.map (·.2))
    omega
theorem opens_toks (P : List Tok) (e : Nat) : opens (toks P e) ≤ opW (P.map (·.2)) := by
  have h := opens_flat P
  have h2 : opens (toks P e) = opens (P.flatMap flat) + opens [(e, wVoid)] := by unfold toks opens; rw [List.filter_append, List.length_append]
  have h3 : opens [(e, wVoid)] = 0 := by unfold opens; rw [List.filter_cons, if_neg open_no.2.2]; rfl
  omega
theorem nms_ok : ∀ m, m ≤ 6 → (wNot ∉ nmL m ∧ wOp ∉ nmL m ∧ wVoid ∉ nmL m) ∧ wX0 ∉ nmL m ∧ ("X" : Str) ∉ nmL m := by decide +kernel
theorem lex_bt {T : List Nat} {P : List Tok} (h : Bt T P) (n : Nat) (hn : n < 2) {x : Str} (hx : x.cps.toList = T ++ List.replicate n 32) : lexWords x = toks P x.length := by
  have e : x.cps.toList.length = x.length := Array.length_toList
  unfold lexWords lexWords.toks'
  rw [hx, h.all n hn, ← hx, e]
  rfl
/-- what the program does with the law's text -/
theorem prog_law {m : Nat} (hm : m ≤ 6) {T : List Nat} {P : List Tok} (h : Bt T P) (n : Nat) (hn : n < 2) {x : Str} (hx : x.cps.toList = T ++ List.replicate n 32) (ho : opW (P.map (·.2)) ≤ 20) :
    let k := (mach (nmL m) [.E] (P.map (·.2))).1
    let u := (mach (nmL m) [.E] (P.map (·.2))).2
    let due : Option Nat := if k < P.length then P[k]?.map (·.1) else if u = [] then none else some x.length
    (∀ p, prs (nmL m) 21 0 (lexWords x) = .error p → due = some p) ∧
    (∀ r, prs (nmL m) 21 0 (lexWords x) = .ok r → (r.length < 2 → due = none) ∧ ∀ t r', r = t :: r' → 2 ≤ r.length → due = some t.1) := by
  dsimp only
  obtain ⟨⟨a1, a2, a3⟩, a4, a5⟩ := nms_ok m hm
  have N : Nms (nmL m) := ⟨a1, a2, a3⟩
  have eL := lex_bt h n hn hx
  have hop := opens_toks P x.length
  have A := prs_mach N 21 0 (lexWords x) [] (lexWords_ends x) (by rw [eL]; omega) (by rw [eL]; omega)
  obtain ⟨b1, b2, b3⟩ := toks_mach N a4 a5 x.length P [.E]
  rw [eL] at A ⊢
  refine ⟨fun p hp => ?_, fun r hp => ?_⟩
  · rw [hp] at A
    obtain ⟨t, c1, c2, c3⟩ := A
    rw [b1] at c1 c3
    have b4 := b3 t c1
    by_cases hl : (mach (nmL m) [.E] (P.map (·.2))).1 < P.length
    · rw [if_pos hl] at b4 ⊢
      rw [b4.1, c2]
    · rw [if_neg hl] at b4 ⊢
      rw [if_neg c3, ← b4.1, c2]
  · rw [hp] at A
    obtain ⟨c0, k, c1, _, c2⟩ := A
    have c3 : mach (nmL m) [] (r.map (·.2)) = (0, []) := by
      cases r with
      | nil => exact absurd rfl c0.ne
      | cons t r => exact mach_none rfl
    rw [c3, b1] at c2
    have ek : (mach (nmL m) [.E] (P.map (·.2))).1 = k := by rw [c2]; rfl
    have eu : (mach (nmL m) [.E] (P.map (·.2))).2 = [] := by rw [c2]
    have hr : r.length = (toks P x.length).length - k := by rw [c1, List.length_drop]
    have hpos := List.length_pos_iff.mpr c0.ne
    obtain ⟨t0, r0, er⟩ : ∃ t r', r = t :: r' := by
      cases r with
      | nil => exact absurd rfl c0.ne
      | cons t r => exact ⟨t, r, rfl⟩
    have hg : (toks P x.length)[k]? = some t0 := by
      rw [er] at c1
      exact drop_get (n := 0) c1 rfl
    rw [ek] at b3 ⊢
    have b4 := b3 t0 hg
    refine ⟨fun h2 => ?_, fun t r' e h2 => ?_⟩
    · by_cases hl : k < P.length
      · rw [if_pos hl] at b4
        have := b4.2
        omega
      · rw [if_neg hl, if_pos eu]
    · have et : t = t0 := by rw [er] at e; injection e with e _; exact e.symm
      by_cases hl : k < P.length
      · rw [if_pos hl] at b4 ⊢
        rw [b4.1, et]
      · rw [if_neg hl] at b4
        have := b4.2
        omega
end Lt

set_option Elab.async false
set_option linter.all false
set_option maxRecDepth 100000
set_option maxHeartbeats 2000000
/-! comprehensions whose parts draw from the row -/
namespace Lt
open PySem PySem.Spec PyProof.Rows L2
section
variable {K : PySem.W.Frag} {te : TE} {vs : List Nat} {σ : L2.St} {H1 : Hp} {D r sc : Addr} {ns : List Int} {Qd : Hp → Prop} {β : Type} {j : Nat}
def Cd (K : PySem.W.Frag) (r sc : Addr) (ns : List Int) (H1 : Hp) (D : Addr) (R : Hp → V → β → Prop) (ok : β → Prop) (i : Nat) (H : Hp) : Prop :=
  StepR r H1 H ∧ RowAt K H r sc ns ∧ ∃ zs bs, H D = some (.lst zs) ∧ Paired (R H) zs bs ∧ bs.length = i ∧ ∀ b ∈ bs, ok b
theorem cd_zero {R : Hp → V → β → Prop} {ok : β → Prop} (ra : RowAt K H1 r sc ns) (hD : H1 D = none) : Cd K r sc ns H1 D R ok 0 (upd H1 D (.lst [])) :=
  ⟨.of (same_new hD), ra.step (same_new hD), [], [], upd_same, .nil, rfl, fun _ h => nomatch h⟩
theorem cd_turn {R : Hp → V → β → Prop} {ok : β → Prop} {i : Nat} {H : Hp} {σ2 : L2.St} (mono : ∀ H H' v b, Tm H H' → R H v b → R H' v b) (ra1 : RowAt K H1 r sc ns) (hD : H1 D = none) (p : Cd K r sc ns H1 D R ok i H) (hi : i < 100000)
    (he : ∀ H, StepR r H1 H → RowAt K H r sc ns → ∀ Q : VK, (∀ v H' b, StepR r H H' → RowAt K H' r sc ns → R H' v b → ok b → Q v H') → te σ2 H Q) :
    te σ2 H fun y H4 => ∃ acc, H4 D = some (.lst acc) ∧ acc.length < sizeLine ∧ Cd K r sc ns H1 D R ok (i + 1) (upd H4 D (.lst (acc ++ [y]))) := by
  obtain ⟨st, ra, zs, bs, hz, pr, hl, hok⟩ := p
  refine he H st ra _ fun v H4 b st4 ra4 hr hb => ?_
  have hDr : D ≠ r := (ra1.ne hD).symm
  have h4 := st4 _ _ hDr hz
  have t4 : Tm H4 (upd H4 D (.lst (zs ++ [v]))) := Tm.lst h4
  have hzl := Paired.length pr
  refine ⟨zs, h4, by rw [hzl, hl]; exact Nat.lt_of_lt_of_le hi (by decide), (st.trans st4).mut hD, RowAt.mut ra1 hD ra4, zs ++ [v], bs ++ [b], upd_same, ?_, by rw [List.length_append, hl]; rfl, fun c hc => ?_⟩
  · exact Paired.app (paired_mono (fun a b q => mono _ _ _ _ ((st4.tm ra).trans t4) q) pr) (Paired.one (mono _ _ _ _ t4 hr))
  · rcases List.mem_append.mp hc with h | h
    · exact hok c h
    · rw [List.mem_singleton.mp h]
      exact hb
/-- over a range -/
theorem lc_rangeS {n : Nat} (R : Hp → V → β → Prop) (ok : β → Prop) (mono : ∀ H H' v b, Tm H H' → R H v b → R H' v b) (ra : RowAt K H1 r sc ns) (hz : n ≤ 100000) (hD : H1 D = none)
    (hw : ∀ x, wipe ((wipe σ vs).set j (some x)) vs = wipe σ vs)
    (he : ∀ (i : Nat), i < n → ∀ H, StepR r H1 H → RowAt K H r sc ns → ∀ Q : VK, (∀ v H' b, StepR r H H' → RowAt K H' r sc ns → R H' v b → ok b → Q v H') → te ((wipe σ vs).set j (some (.int ((0 : Int) + (i : Nat))))) H Q)
    (hd : ∀ H zs bs, StepR r H1 H → RowAt K H r sc ns → H D = some (.lst zs) → Paired (R H) zs bs → bs.length = n → (∀ b ∈ bs, ok b) → Qd H) :
    ∃ W : Nat → Nat → Hp → Prop, (∃ m, W 0 m (upd H1 D (.lst []))) ∧ ∀ i m H, W i m H →
      ((Itr 0 n).stop i H ∧ Qd H) ∨ ((Itr 0 n).go i H ∧ ∃ Nx : Hp → Prop, (∀ H', Nx H' → ∃ m', m' < m ∧ W (i + 1) m' H') ∧ ∀ x H', (Itr 0 n).yld i H x H' → gName j x (wipe σ vs) H' fun σ2 H2 => wipe σ2 vs = wipe σ vs ∧ tYes σ2 H2 fun b H3 =>
        if b = true then te σ2 H3 fun y H4 => ∃ acc, H4 D = some (.lst acc) ∧ acc.length < sizeLine ∧ Nx (upd H4 D (.lst (acc ++ [y]))) else Nx H3) :=
  lc_range (lo := 0) (n := n) (Cd K r sc ns H1 D R ok) (cd_zero ra hD)
    (fun i H hi p => ⟨hw _, iteT (B := Cd K r sc ns H1 D R ok (i + 1) H) (cd_turn mono ra hD p (by omega) (he i hi))⟩)
    (fun H p => by
      obtain ⟨st, ra', zs, bs, h1, pr, hl, hok⟩ := p
      exact hd H zs bs st ra' h1 pr hl hok)
/-- over a list that stays -/
theorem lc_listS {a : Addr} {xs : List V} (R : Hp → V → β → Prop) (ok : β → Prop) (mono : ∀ H H' v b, Tm H H' → R H v b → R H' v b) (ra : RowAt K H1 r sc ns) (hx : H1 a = some (.lst xs)) (har : a ≠ r) (hz : xs.length ≤ 100000) (hD : H1 D = none)
    (hw : ∀ x, wipe ((wipe σ vs).set j (some x)) vs = wipe σ vs)
    (he : ∀ (i : Nat) (x : V), xs[i]? = some x → ∀ H, StepR r H1 H → RowAt K H r sc ns → ∀ Q : VK, (∀ v H' b, StepR r H H' → RowAt K H' r sc ns → R H' v b → ok b → Q v H') → te ((wipe σ vs).set j (some x)) H Q)
    (hd : ∀ H zs bs, StepR r H1 H → RowAt K H r sc ns → H D = some (.lst zs) → Paired (R H) zs bs → bs.length = xs.length → (∀ b ∈ bs, ok b) → Qd H) :
    ∃ W : Nat → Nat → Hp → Prop, (∃ m, W 0 m (upd H1 D (.lst []))) ∧ ∀ i m H, W i m H →
      ((Itl K a).stop i H ∧ Qd H) ∨ ((Itl K a).go i H ∧ ∃ Nx : Hp → Prop, (∀ H', Nx H' → ∃ m', m' < m ∧ W (i + 1) m' H') ∧ ∀ x H', (Itl K a).yld i H x H' → gName j x (wipe σ vs) H' fun σ2 H2 => wipe σ2 vs = wipe σ vs ∧ tYes σ2 H2 fun b H3 =>
        if b = true then te σ2 H3 fun y H4 => ∃ acc, H4 D = some (.lst acc) ∧ acc.length < sizeLine ∧ Nx (upd H4 D (.lst (acc ++ [y]))) else Nx H3) :=
  lc_list (xs := xs) (Cd K r sc ns H1 D R ok) (cd_zero ra hD) (fun i H _ p => SqL.of (p.1 _ _ har hx))
    (fun i x H hi p => ⟨hw x, iteT (B := Cd K r sc ns H1 D R ok (i + 1) H) (by
      have hl := (List.getElem?_eq_some_iff.mp hi).1
      exact cd_turn mono ra hD p (by omega) (he i x hi))⟩)
    (fun H p => by
      obtain ⟨st, ra', zs, bs, h1, pr, hl, hok⟩ := p
      exact hd H zs bs st ra' h1 pr hl hok)
end
theorem rn_mono : ∀ (H H' : Hp) (v : V) (b : Nat), Tm H H' → RN H v b → RN H' v b := fun _ _ _ _ _ r => r
end Lt

set_option Elab.async false
set_option linter.all false
set_option maxRecDepth 100000
set_option maxHeartbeats 1000000
/-! k04: the law's trees and texts -/
namespace Lt
open PySem PySem.Spec PyProof.Rows L2
/-- the law's tree -/
def Fm.LAt (H : Hp) : Fm → V → Prop
  | .x i, v => ∃ a, v = .ref a ∧ H a = some (.tup [.str "x", nI i])
  | .no f, v => ∃ a u, v = .ref a ∧ H a = some (.tup [.str wNot, u]) ∧ f.LAt H u
  | .two j f g, v => ∃ a u t, v = .ref a ∧ H a = some (.tup [.str j, u, t]) ∧ f.LAt H u ∧ g.LAt H t
theorem Fm.LAt.tm {H H' : Hp} (e : Tm H H') : ∀ {f : Fm} {v : V}, f.LAt H v → f.LAt H' v
  | .x _, _, ⟨a, h1, h2⟩ => ⟨a, h1, e.1 _ _ h2⟩
  | .no _, _, ⟨a, u, h1, h2, h3⟩ => ⟨a, u, h1, e.1 _ _ h2, Fm.LAt.tm e h3⟩
  | .two _ _ _, _, ⟨a, u, t, h1, h2, h3, h4⟩ => ⟨a, u, t, h1, e.1 _ _ h2, Fm.LAt.tm e h3, Fm.LAt.tm e h4⟩
def spellOf (x : Str) : List Str := (lexS [] x.cps.toList).1 ++ flW (lexS [] x.cps.toList).2
theorem cps_app (a b : Str) : (a ++ b).cps.toList = a.cps.toList ++ b.cps.toList := Array.toList_append
theorem Str_assoc (a b c : Str) : a ++ b ++ c = a ++ (b ++ c) := by
  show (⟨(a.cps ++ b.cps) ++ c.cps⟩ : Str) = ⟨a.cps ++ (b.cps ++ c.cps)⟩
  rw [Array.append_assoc]
theorem sps_cps (n : Nat) : (sps n).cps.toList = List.replicate n 32 := rfl
theorem xN_run : ∀ i, i < 6 → ((xN i).cps.toList.all isRun = true ∧ (xN i).cps.toList ≠ []) := by decide +kernel
theorem lex_gap (n : Nat) (z : List Nat) : lexS [] (List.replicate n 32 ++ z) = lexS [] z := by
  rw [lexS_app, lexS_sps, List.nil_append]
theorem flW_run {w : Str} (h : w.cps.toList ≠ []) : flW w.cps.toList = [w] := by
  unfold flW
  rw [if_neg h]
theorem tx_leaf (g : Nat) {i : Nat} (hi : i < 6) : spellOf (sps g ++ xN i) = [xN i] := by
  unfold spellOf
  obtain ⟨h1, h2⟩ := xN_run i hi
  rw [cps_app, sps_cps, lex_gap, lexS_run fun c hc => List.all_eq_true.mp h1 c hc, List.nil_append, List.nil_append, flW_run h2]
theorem not_cps : ("not " : Str).cps.toList = wNot.cps.toList ++ [32] := by decide +kernel
theorem not_run : wNot.cps.toList.all isRun = true ∧ wNot.cps.toList ≠ [] := by decide +kernel
theorem lex_wsp {w : Str} (h1 : w.cps.toList.all isRun = true) (h2 : w.cps.toList ≠ []) (z : List Nat) : lexS [] (w.cps.toList ++ ([32] ++ z)) = (w :: (lexS [] z).1, (lexS [] z).2) := by
  rw [lexS_app, lexS_run fun c hc => List.all_eq_true.mp h1 c hc, lexS_app, show ([32] : List Nat) = List.replicate (0 + 1) 32 from rfl, lexS_sp, List.nil_append, List.nil_append, flW_run h2]
  rfl
theorem tx_not (g : Nat) (x : Str) : spellOf (sps g ++ ("not " : Str) ++ x) = wNot :: spellOf x := by
  unfold spellOf
  rw [cps_app, cps_app, sps_cps, List.append_assoc, lex_gap, not_cps, List.append_assoc, lex_wsp not_run.1 not_run.2]
  rfl
theorem op_cps : wOp.cps.toList = [40] ∧ wCl.cps.toList = [41] ∧ wOp = ⟨#[40]⟩ ∧ wCl = ⟨#[41]⟩ ∧ isRun 40 = false ∧ isRun 41 = false := by decide +kernel
theorem join_run {j : Str} (h : j ∈ joins) : j.cps.toList.all isRun = true ∧ j.cps.toList ≠ [] := by
  have : ∀ j ∈ joins, j.cps.toList.all isRun = true ∧ j.cps.toList ≠ [] := by decide +kernel
  exact this j h
theorem lexS_op (z : List Nat) : lexS [] ([40] ++ z) = (wOp :: (lexS [] z).1, (lexS [] z).2) := by
  show lexS [] (40 :: z) = _
  rw [lexS, if_neg (by rw [op_cps.2.2.2.2.1]; decide), op_cps.2.2.1]
  rfl
theorem tx_two (g : Nat) {j : Str} (hj : j ∈ joins) (x y : Str) : spellOf (sps g ++ wOp ++ x ++ (" " : Str) ++ j ++ (" " : Str) ++ y ++ sps g ++ wCl) = wOp :: (spellOf x ++ (j :: (spellOf y ++ [wCl]))) := by
  unfold spellOf
  obtain ⟨r1, r2⟩ := join_run hj
  have sp : (" " : Str).cps.toList = [32] := by decide +kernel
  simp only [cps_app, sps_cps, sp, op_cps.1, op_cps.2.1, List.append_assoc]
  rw [lex_gap, lexS_op, lexS_app]
  generalize lexS [] x.cps.toList = A
  obtain ⟨A1, A2⟩ := A
  have h32 : ∀ z, lexS A2 ([32] ++ z) = (flW A2 ++ (lexS [] z).1, (lexS [] z).2) := fun z => by
    rw [lexS_app, show ([32] : List Nat) = List.replicate (0 + 1) 32 from rfl, lexS_sp]
  simp only [h32]
  rw [lex_wsp r1 r2, lexS_app]
  generalize lexS [] y.cps.toList = C
  obtain ⟨C1, C2⟩ := C
  have hcl : ∀ cur, lexS cur [41] = (flW cur ++ [wCl], []) := fun cur => by
    rw [lexS, if_neg (by rw [op_cps.2.2.2.2.2]; decide), op_cps.2.2.2.1]
    show (flW cur ++ (if 41 = 32 then [] else [⟨#[41]⟩]) ++ [], []) = _
    rw [if_neg (by decide), List.append_nil]
  have hgc : lexS C2 (List.replicate g 32 ++ [41]) = (flW C2 ++ [wCl], []) := by
    cases g with
    | zero => exact hcl C2
    | succ g => rw [lexS_app, lexS_sp]; dsimp only; rw [hcl []]; rfl
  simp only [hgc]
  show wOp :: (A1 ++ (flW A2 ++ j :: (C1 ++ (flW C2 ++ [wCl])))) ++ flW [] = _
  simp [flW]
def capT (d : Nat) : Nat := 15 * 2 ^ d - 11
theorem capT_s (d : Nat) : 11 + 2 * capT d ≤ capT (d + 1) ∧ 6 + capT d ≤ capT (d + 1) ∧ 4 ≤ capT d := by
  unfold capT
  have := Nat.one_le_two_pow (n := d)
  rw [Nat.pow_succ]
  omega
section
variable {P : Program} {w : World} {K : PySem.W.Frag} {mg : Str → Option Value} {base : Heap}
def spLT (K : PySem.W.Frag) (fu : Nat) : Sp := fun vs H Q _ => ∃ (r sc : Addr) (ns : List Int) (m d : Nat), vs = [.ref r, nI m, nI d] ∧ RowAt K H r sc ns ∧ 1 ≤ m ∧ m ≤ 6 ∧ d < fu ∧ d ≤ 10 ∧
  ∀ (v : V) (H' : Hp) (f : Fm), f.Ok m → f.deep ≤ d → StepR r H H' → RowAt K H' r sc ns → f.LAt H' v → Q v H'
theorem sc_law_treeE : FnScope ["row", "inputs", "deep", "way"] ["row", "inputs", "deep"] (defScope s_law_tree) := ⟨rfl, rfl, rfl, by decide +kernel, rfl, by decide +kernel, by decide +kernel⟩
theorem has_law_treeE (T : Top K mg "_law_tree" s_law_tree ["row", "inputs", "deep"]) (hT : Has P w K mg base CX0 1 "_law_taken" ["row", "many"] (spTaken K)) : ∀ f, Has P w K mg base CX0 (f + 2) "_law_tree" ["row", "inputs", "deep"] (spLT K f)
  | 0 => T.ok sc_law_treeE (fun vs H Q E h => by obtain ⟨r, sc, ns, m, d, rfl, _⟩ := h; rfl) (fun f cdv A outer s H vs Q E hr h => by
      obtain ⟨r, sc, ns, m, d, rfl, _, _, _, h5, _⟩ := h
      exact absurd h5 (Nat.not_lt_zero _))
  | fu + 1 => by
    have ih := has_law_treeE T hT fu
    refine T.ok sc_law_treeE (fun vs H Q E h => ?_) (fun f cdv A outer s H vs Q E hr h => ?_)
    · obtain ⟨r, sc, ns, m, d, rfl, _⟩ := h
      rfl
    · obtain ⟨r, sc, ns, m, d, rfl, ra, h1, h6, hd, hd10, q⟩ := h
      have hr1 : Room 1 _ := hr.mono (by omega)
      refine ⟨_, C8.pss_cut (ps_set (i := 3) sc_law_treeE.nd rfl (Or.inl rfl) (pe_ifExp (pt_cmpR op_gt (pv 2) pe_int (nomark _)) (pe_has hT hr1 (by rfl) (pa_cons (pv 0) (pa_cons pe_int pa_nil))) pe_int))
        (pss_cons (ps_if (pt_cmpR op_lt (pv 3) pe_int (nomark _)) (pss_one (ps_ret (pe_tup (pa_cons pe_str (pa_cons (pe_has hT hr1 (by rfl) (pa_cons (pv 0) (pa_cons (pv 1) pa_nil))) pa_nil))))) pss_nil)
        (pss_cons (ps_if (pt_cmpR op_eq (pv 3) pe_int (nomark _)) (pss_one (ps_ret (pe_tup (pa_cons pe_str (pa_cons (pe_has ih hr (by rfl) (pa_cons (pv 0) (pa_cons (pv 1) (pa_cons (pe_op op_sub (pv 2) pe_int) pa_nil)))) pa_nil))))) pss_nil)
        (pss_one (ps_ret (pe_tup (pa_cons (pe_ix ix_list (pe_lst (pa_cons pe_str (pa_cons pe_str (pa_cons pe_str pa_nil)))) (pe_op op_sub (pv 3) pe_int) (fun _ _ => rfl)) (pa_cons (pe_has ih hr (by rfl) (pa_cons (pv 0) (pa_cons (pv 1) (pa_cons (pe_op op_sub (pv 2) pe_int) pa_nil)))) (pa_cons (pe_has ih hr (by rfl) (pa_cons (pv 0) (pa_cons (pv 1) (pa_cons (pe_op op_sub (pv 2) pe_int) pa_nil)))) pa_nil)))))))), ?_⟩
      refine ⟨fun σ1 H1 => ∃ y : Nat, σ1 = [some (.ref r), some (nI m), some (nI d), some (nI y)] ∧ y < 6 ∧ (0 < d ∨ y = 0) ∧ StepR r H H1 ∧ RowAt K H1 r sc ns, ?_, ?_⟩
      · refine ⟨_, rfl, (d : Int), 0, rfl, rfl, decide ((0 : Int) < (d : Int)), rfl, ite2 (fun h => ⟨_, rfl, r, sc, ns, 6, rfl, ra, by decide, by decide, fun x H' hx st ra' => ⟨x, rfl, hx, .inl ?_, st, ra'⟩⟩) (fun h => ⟨0, rfl, by decide, .inr rfl, .refl _ _, ra⟩)⟩
        have := of_decide_eq_true h
        omega
      · rintro σ1 H1 ⟨y, rfl, hy, hyd, st, ra1⟩
        refine ⟨_, rfl, (y : Int), 2, rfl, rfl, decide ((y : Int) < 2), rfl, ite2 (fun h => ⟨_, rfl, _, rfl, r, sc, ns, m, rfl, ra1, h1, by omega, fun x H2 hx st2 ra2 => ⟨by show 2 ≤ sizeLine; decide, fun p hp => q _ _ (.x x) hx (Nat.zero_le _) (st.trans (st2.trans (StepR.of (same_new hp)))) (ra2.step (same_new hp)) ⟨p, rfl, upd_same⟩⟩⟩) (fun h => ?_)⟩
        have h2 : ¬ (y : Int) < 2 := fun z => h (decide_eq_true z)
        cases d with
        | zero => omega
        | succ d =>
          have ed : (((d + 1 : Nat) : Int) - 1) = (d : Int) := by omega
          refine ⟨_, rfl, rfl, _, rfl, ite2 (fun h3 => ?_) (fun h3 => ?_)⟩
          · refine ⟨_, rfl, _, rfl, _, rfl, ((d + 1 : Nat) : Int), 1, rfl, rfl, r, sc, ns, m, d, congrArg (fun z : Int => [V.ref r, nI m, V.int z]) ed, ra1, h1, h6, by omega, by omega, fun v H2 f ok dp st2 ra2 lt => ⟨by show 2 ≤ sizeLine; decide, fun p hp => ?_⟩⟩
            exact q _ _ (.no f) ok (Nat.succ_le_succ dp) (st.trans (st2.trans (StepR.of (same_new hp)))) (ra2.step (same_new hp)) ⟨p, v, rfl, upd_same, lt.tm (.of (same_new hp))⟩
          · have h4 : (y : Int) ≠ 2 := fun z => h3 (decide_eq_true (congrArg V.int z))
            obtain ⟨j, hj, hat⟩ : ∃ j, j ∈ joins ∧ atI [V.str "and", V.str "or", V.str "xor"] ((y : Int) - 3) = some (V.str j) := by
              have : y = 3 ∨ y = 4 ∨ y = 5 := by omega
              rcases this with rfl | rfl | rfl
              · exact ⟨"and", by decide +kernel, rfl⟩
              · exact ⟨"or", by decide +kernel, rfl⟩
              · exact ⟨"xor", by decide +kernel, rfl⟩
            refine ⟨by show 3 ≤ sizeLine; decide, fun pl hpl => ⟨_, rfl, (y : Int), 3, rfl, rfl, pl, _, (y : Int) - 3, .str j, rfl, rfl, SqL.of upd_same, hat, ?_⟩⟩
            have s1 := same_new (o := .lst [V.str "and", V.str "or", V.str "xor"]) hpl
            refine ⟨_, rfl, _, rfl, _, rfl, ((d + 1 : Nat) : Int), 1, rfl, rfl, r, sc, ns, m, d, congrArg (fun z : Int => [V.ref r, nI m, V.int z]) ed, ra1.step s1, h1, h6, by omega, by omega, fun v H2 f ok dp st2 ra2 lt => ?_⟩
            refine ⟨_, rfl, _, rfl, _, rfl, ((d + 1 : Nat) : Int), 1, rfl, rfl, r, sc, ns, m, d, congrArg (fun z : Int => [V.ref r, nI m, V.int z]) ed, ra2, h1, h6, by omega, by omega, fun u H3 g okg dg st3 ra3 lu => ⟨by show 3 ≤ sizeLine; decide, fun p hp => ?_⟩⟩
            exact q _ _ (.two j f g) ⟨hj, ok, okg⟩ (Nat.succ_le_succ (Nat.max_le.mpr ⟨dp, dg⟩)) (st.trans ((StepR.of s1).trans (st2.trans (st3.trans (StepR.of (same_new hp)))))) (ra3.step (same_new hp)) ⟨p, v, u, rfl, upd_same, lt.tm ((st3.tm ra2).trans (.of (same_new hp))), lu.tm (.of (same_new hp))⟩
/-! ### _law_text -/
def spLTxt (K : PySem.W.Frag) (fu : Nat) : Sp := fun vs H Q _ => ∃ (r sc : Addr) (ns : List Int) (m d : Nat) (v : V) (f : Fm), vs = [.ref r, v] ∧ RowAt K H r sc ns ∧ m ≤ 6 ∧ f.Ok m ∧ f.deep ≤ d ∧ d < fu ∧ d ≤ 10 ∧ f.LAt H v ∧
  ∀ x H', StepR r H H' → RowAt K H' r sc ns → spellOf x = f.spell → x.length ≤ capT d → Q (.str x) H'
theorem sc_law_text : FnScope ["row", "tree", "gap"] ["row", "tree"] (defScope s_law_text) := ⟨rfl, rfl, rfl, by decide +kernel, rfl, by decide +kernel, by decide +kernel⟩
theorem sps_len (n : Nat) : (sps n).length = n := by
  show (List.replicate n 32).toArray.size = n
  rw [List.size_toArray, List.length_replicate]
theorem wlen1 : ("(" : Str).length = 1 ∧ (")" : Str).length = 1 ∧ (" " : Str).length = 1 ∧ ("not " : Str).length = 4 ∧ ("x" : Str).length = 1 := by decide +kernel
theorem join_len {j : Str} (h : j ∈ joins) : j.length ≤ 3 := by
  have : ∀ j ∈ joins, j.length ≤ 3 := by decide +kernel
  exact this j h
theorem xd_len : ∀ i, i < 6 → (Str.ofString (toString ((i : Nat) : Int))).length = 1 ∧ (("x" : Str) ++ Str.ofString (toString ((i : Nat) : Int))) = xN i := by decide +kernel
theorem has_law_text (T : Top K mg "_law_text" s_law_text ["row", "tree"]) (B : Bi mg) (hT : Has P w K mg base CX0 1 "_law_taken" ["row", "many"] (spTaken K)) : ∀ f, Has P w K mg base CX0 (f + 2) "_law_text" ["row", "tree"] (spLTxt K f)
  | 0 => T.ok sc_law_text (fun vs H Q E h => by obtain ⟨r, sc, ns, m, d, v, f, rfl, _⟩ := h; rfl) (fun f cdv A outer s H vs Q E hr h => by
      obtain ⟨r, sc, ns, m, d, v, f, rfl, _, _, _, _, h5, _⟩ := h
      exact absurd h5 (Nat.not_lt_zero _))
  | fu + 1 => by
    have ih := has_law_text T B hT fu
    refine T.ok sc_law_text (fun vs H Q E h => ?_) (fun f cdv A outer s H vs Q E hr h => ?_)
    · obtain ⟨r, sc, ns, m, d, v, f, rfl, _⟩ := h
      rfl
    · obtain ⟨r, sc, ns, m, d, v, fm, rfl, ra, h6, ok, hdp, hd, hd10, la, q⟩ := h
      have hr1 : Room 1 _ := hr.mono (by omega)
      refine ⟨_, pss_cons (ps_set (i := 2) sc_law_text.nd rfl (Or.inl rfl) (pe_op op_sp pe_str (pe_has hT hr1 (by rfl) (pa_cons (pv 0) (pa_cons pe_int pa_nil)))))
        (pss_cons (ps_if (pt_cmpR op_eq (pe_ix ix_tup (pv 1) pe_int (fun _ _ => rfl)) pe_str (nomark _)) (pss_one (ps_ret (pe_op op_add_str (pe_op op_add_str (pv 2) pe_str) (pe_callTy call_str_int (by rfl) B.str PyProof.Rows.boot_str (pa_cons (pe_ix ix_tup (pv 1) pe_int (fun _ _ => rfl)) pa_nil))))) pss_nil)
        (pss_cons (ps_if (pt_cmpR op_eq (pe_ix ix_tup (pv 1) pe_int (fun _ _ => rfl)) pe_str (nomark _)) (pss_one (ps_ret (pe_op op_add_str (pe_op op_add_str (pv 2) pe_str) (pe_has ih hr (by rfl) (pa_cons (pv 0) (pa_cons (pe_ix ix_tup (pv 1) pe_int (fun _ _ => rfl)) pa_nil)))))) pss_nil)
        (pss_one (ps_ret (pe_op op_add_str (pe_op op_add_str (pe_op op_add_str (pe_op op_add_str (pe_op op_add_str (pe_op op_add_str (pe_op op_add_str (pe_op op_add_str (pv 2) pe_str) (pe_has ih hr (by rfl) (pa_cons (pv 0) (pa_cons (pe_ix ix_tup (pv 1) pe_int (fun _ _ => rfl)) pa_nil)))) pe_str) (pe_ix ix_tup (pv 1) pe_int (fun _ _ => rfl))) pe_str) (pe_has ih hr (by rfl) (pa_cons (pv 0) (pa_cons (pe_ix ix_tup (pv 1) pe_int (fun _ _ => rfl)) pa_nil)))) (pv 2)) pe_str))))), ?_⟩
      refine ⟨_, rfl, r, sc, ns, 3, rfl, ra, by decide, by decide, fun g H1 hg st1 ra1 => ⟨g, rfl, rfl, by omega, ?_⟩⟩
      have la1 := la.tm (st1.tm ra)
      have gl := sps_len g
      obtain ⟨w1, w2, w3, w4, w5⟩ := wlen1
      have c4 := (capT_s d).2.2
      have hcap : capT d ≤ 20000 := by
        unfold capT
        have : 2 ^ d ≤ 2 ^ 10 := Nat.pow_le_pow_right (by decide) hd10
        omega
      cases fm with
      | x i =>
        obtain ⟨a, rfl, ha⟩ := la1
        have hi : i < m := ok
        obtain ⟨x1, x2⟩ := xd_len i (by omega)
        have l2 : (sps g ++ ("x" : Str)).length = g + 1 := by rw [Str_len, gl, w5]
        refine ⟨_, rfl, a, _, 0, .str "x", rfl, rfl, SqT.of ha, rfl, rfl, true, rfl, iteT ⟨_, rfl, _, _, rfl, rfl, by rw [sizeLine_eq, gl, w5]; omega, _, rfl, a, _, 1, nI i, rfl, rfl, SqT.of ha, rfl, (i : Int), rfl, log_small (by omega), _, _, rfl, rfl, by rw [sizeLine_eq, l2, x1]; omega, ?_⟩⟩
        have e : sps g ++ ("x" : Str) ++ Str.ofString (toString ((i : Nat) : Int)) = sps g ++ xN i := by rw [Str_assoc, x2]
        refine q _ _ st1 ra1 ?_ ?_
        · rw [e]; exact tx_leaf g (by omega)
        · rw [Str_len, l2, x1]; omega
      | no f =>
        obtain ⟨a, u, rfl, ha, hu⟩ := la1
        have hd1 : f.deep + 1 ≤ d := hdp
        cases d with
        | zero => omega
        | succ d =>
        obtain ⟨k1, k2, k3⟩ := capT_s d
        have l2 : (sps g ++ ("not " : Str)).length = g + 4 := by rw [Str_len, gl, w4]
        refine ⟨_, rfl, a, _, 0, .str wNot, rfl, rfl, SqT.of ha, rfl, rfl, false, rfl, iteF ⟨_, rfl, a, _, 0, .str wNot, rfl, rfl, SqT.of ha, rfl, rfl, true, rfl, iteT ⟨_, rfl, _, _, rfl, rfl, by rw [sizeLine_eq, gl, w4]; omega, ?_⟩⟩⟩
        refine ⟨_, rfl, _, rfl, a, _, 1, u, rfl, rfl, SqT.of ha, rfl, r, sc, ns, m, d, u, f, rfl, ra1, h6, ok, by omega, by omega, by omega, hu, fun x H2 st2 ra2 ex hx => ⟨_, _, rfl, rfl, by rw [sizeLine_eq, l2]; omega, ?_⟩⟩
        refine q _ _ (st1.trans st2) ra2 ?_ ?_
        · rw [tx_not, ex]; rfl
        · rw [Str_len, l2]; omega
      | two j f f2 =>
        obtain ⟨a, u, u2, rfl, ha, hu, hu2⟩ := la1
        obtain ⟨hj, ok1, ok2⟩ := ok
        have hd1 : max f.deep f2.deep + 1 ≤ d := hdp
        have hjn : j ≠ wNot := fun z => by rw [z] at hj; exact absurd hj (by decide +kernel)
        have hjx : j ≠ ("x" : Str) := fun z => by rw [z] at hj; exact absurd hj (by decide +kernel)
        have jl := join_len hj
        cases d with
        | zero => omega
        | succ d =>
        obtain ⟨k1, k2, k3⟩ := capT_s d
        refine ⟨_, rfl, a, _, 0, .str j, rfl, rfl, SqT.of ha, rfl, rfl, false, congrArg V.bl ((word_eq j _).trans (decide_eq_false hjx)), iteF ⟨_, rfl, a, _, 0, .str j, rfl, rfl, SqT.of ha, rfl, rfl, false, congrArg V.bl ((word_eq j wNot).trans (decide_eq_false hjn)), iteF ?_⟩⟩
        refine ⟨_, rfl, _, _, rfl, rfl, by rw [sizeLine_eq, gl, w1]; omega, ?_⟩
        refine ⟨_, rfl, _, rfl, a, _, 1, u, rfl, rfl, SqT.of ha, rfl, r, sc, ns, m, d, u, f, rfl, ra1, h6, ok1, by omega, by omega, by omega, hu, fun x H2 st2 ra2 ex hx => ⟨_, _, rfl, rfl, ?_, ?_⟩⟩
        · rw [sizeLine_eq, Str_len, gl, w1]; omega
        have tm2 := st2.tm ra1
        refine ⟨_, _, rfl, rfl, by rw [sizeLine_eq, Str_len, Str_len, gl, w1, w3]; omega, ?_⟩
        refine ⟨_, rfl, a, _, 0, .str j, rfl, rfl, SqT.of (tm2.1 _ _ ha), rfl, _, _, rfl, rfl, by rw [sizeLine_eq, Str_len, Str_len, Str_len, gl, w1, w3]; omega, ?_⟩
        refine ⟨_, _, rfl, rfl, by rw [sizeLine_eq, Str_len, Str_len, Str_len, Str_len, gl, w1, w3]; omega, ?_⟩
        refine ⟨_, rfl, _, rfl, a, _, 2, u2, rfl, rfl, SqT.of (tm2.1 _ _ ha), rfl, r, sc, ns, m, d, u2, f2, rfl, ra2, h6, ok2, by omega, by omega, by omega, hu2.tm tm2, fun y H3 st3 ra3 ey hy => ⟨_, _, rfl, rfl, ?_, ?_⟩⟩
        · rw [sizeLine_eq, Str_len, Str_len, Str_len, Str_len, Str_len, gl, w1, w3]; omega
        refine ⟨_, rfl, _, _, rfl, rfl, by rw [sizeLine_eq, Str_len, Str_len, Str_len, Str_len, Str_len, Str_len, gl, w1, w3]; omega, _, _, rfl, rfl, by rw [sizeLine_eq, Str_len, Str_len, Str_len, Str_len, Str_len, Str_len, Str_len, gl, w1, w2, w3]; omega, ?_⟩
        refine q _ _ (st1.trans (st2.trans st3)) ra3 ?_ ?_
        · refine (tx_two g hj x y).trans ?_
          rw [ex, ey]
          rfl
        · rw [Str_len, Str_len, Str_len, Str_len, Str_len, Str_len, Str_len, Str_len, gl, w1, w2, w3]; omega
end
end Lt

set_option Elab.async false
set_option linter.all false
set_option maxRecDepth 100000
set_option maxHeartbeats 1000000
/-! the law's rows of bits, what its trees come to -/
namespace Lt
open PySem PySem.Spec PyProof.Rows L2
def bitsR (n t : Nat) : List Nat := (List.range n).map fun i => t / 2 ^ i % 2
def rowsB (n : Nat) : List (List Nat) := (List.range (2 ^ n)).map (bitsR n)
theorem bitsR_len (n t : Nat) : (bitsR n t).length = n := by unfold bitsR; rw [List.length_map, List.length_range]
theorem bitsR_le {n t b : Nat} (h : b ∈ bitsR n t) : b ≤ 1 := by
  unfold bitsR at h
  obtain ⟨i, _, rfl⟩ := List.mem_map.mp h
  omega
theorem bitsR_get {n t i : Nat} (h : i < n) : (bitsR n t)[i]? = some (t / 2 ^ i % 2) := by
  unfold bitsR
  rw [List.getElem?_map, List.getElem?_range h]
  rfl
theorem rowsB_len (n : Nat) : (rowsB n).length = 2 ^ n := by unfold rowsB; rw [List.length_map, List.length_range]
theorem rowsB_get {n t : Nat} (h : t < 2 ^ n) : (rowsB n)[t]? = some (bitsR n t) := by
  unfold rowsB
  rw [List.getElem?_map, List.getElem?_range h]
  rfl
theorem bitsR_succ (n t : Nat) : bitsR (n + 1) t = bitsR n t ++ [t / 2 ^ n % 2] := by
  unfold bitsR
  rw [List.range_succ, List.map_append]
  rfl
theorem bitsR_high (n t : Nat) : bitsR n (2 ^ n + t) = bitsR n t := by
  unfold bitsR
  refine List.map_congr_left fun i hi => ?_
  have hi := List.mem_range.mp hi
  obtain ⟨d, rfl⟩ : ∃ d, n = i + (d + 1) := ⟨n - i - 1, by omega⟩
  rw [Nat.pow_add, Nat.mul_add_div (Nat.two_pow_pos i), Nat.pow_succ]
  omega
theorem rowsB_succ (n : Nat) : rowsB (n + 1) = (rowsB n).map (· ++ [0]) ++ (rowsB n).map (· ++ [1]) := by
  unfold rowsB
  have e : 2 ^ (n + 1) = 2 ^ n + 2 ^ n := by rw [Nat.pow_succ]; omega
  rw [e, List.range_add, List.map_append, List.map_map, List.map_map, List.map_map]
  congr 1
  · refine List.map_congr_left fun t ht => ?_
    have ht := List.mem_range.mp ht
    show bitsR (n + 1) t = bitsR n t ++ [0]
    rw [bitsR_succ, Nat.div_eq_of_lt ht]
  · refine List.map_congr_left fun t ht => ?_
    have ht := List.mem_range.mp ht
    show bitsR (n + 1) (2 ^ n + t) = bitsR n t ++ [1]
    rw [bitsR_succ, bitsR_high, Nat.add_div_left _ (Nat.two_pow_pos n), Nat.div_eq_of_lt ht]
theorem bitsR_zero (n t : Nat) : bitsR n t = [] ↔ n = 0 := by
  constructor
  · intro h
    have := congrArg List.length h
    rw [bitsR_len] at this
    exact this
  · intro h
    subst h
    rfl
section
variable {P : Program} {w : World} {K : PySem.W.Frag} {mg : Str → Option Value} {base : Heap}
def LK (H : Hp) (p : Addr) (ts : List (List Nat)) : Prop := ∃ xs, H p = some (.lst xs) ∧ Paired (TK H) xs ts
theorem TKs.tm {H H' : Hp} (e : Tm H H') : ∀ {xs : List V} {ts : List (List Nat)}, Paired (TK H) xs ts → Paired (TK H') xs ts
  | _, _, .nil => .nil
  | _, _, .cons r t => .cons (r.tm e) (TKs.tm e t)
theorem LK.same {H H' : Hp} {p : Addr} {ts : List (List Nat)} (h : LK H p ts) (s : Same H H') : LK H' p ts := let ⟨xs, a, b⟩ := h; ⟨xs, s _ _ a, TKs.tm (.of s) b⟩
def spLBits : Sp := fun vs H Q _ => ∃ m : Nat, vs = [nI m] ∧ m ≤ 6 ∧ ∀ p H', Same H H' → H p = none → LK H' p (rowsB m) → Q (.ref p) H'
theorem sc_law_bits : FnScope ["inputs", "found", "turn", "bits"] ["inputs"] (defScope s_law_bits) := ⟨rfl, rfl, rfl, by decide +kernel, rfl, by decide +kernel, by decide +kernel⟩
theorem rows_cap {n : Nat} (h : n ≤ 6) : (rowsB n).length ≤ 64 := by rw [rowsB_len]; exact pow6 h
/-- one side: bits and one more -/
theorem bits_side {j : Nat} {te : TE} {vs : List Nat} {σ : L2.St} {H1 : Hp} {D fl : Addr} {Qd : Hp → Prop} {n b : Nat} {xs : List V} (hx : H1 fl = some (.lst xs)) (px : Paired (TK H1) xs (rowsB n)) (hn : n ≤ 6) (hD : H1 D = none)
    (hw : ∀ x, wipe ((wipe σ vs).set j (some x)) vs = wipe σ vs)
    (hte : ∀ (x : V) (a : Addr) (t : List Nat) (H : Hp) (Q : VK), x = .ref a → H a = some (.tup (nIs t)) → t.length ≤ 10 → (∀ v H', Same H H' → TK H' v (t ++ [b]) → Q v H') → te ((wipe σ vs).set j (some x)) H Q)
    (hd : ∀ H zs, Same H1 H → H D = some (.lst zs) → Paired (TK H) zs ((rowsB n).map (· ++ [b])) → Qd H) :
    ∃ W : Nat → Nat → Hp → Prop, (∃ m, W 0 m (upd H1 D (.lst []))) ∧ ∀ i m H, W i m H →
      ((Itl K fl).stop i H ∧ Qd H) ∨ ((Itl K fl).go i H ∧ ∃ Nx : Hp → Prop, (∀ H', Nx H' → ∃ m', m' < m ∧ W (i + 1) m' H') ∧ ∀ x H', (Itl K fl).yld i H x H' → gName j x (wipe σ vs) H' fun σ2 H2 => wipe σ2 vs = wipe σ vs ∧ tYes σ2 H2 fun b H3 =>
        if b = true then te σ2 H3 fun y H4 => ∃ acc, H4 D = some (.lst acc) ∧ acc.length < sizeLine ∧ Nx (upd H4 D (.lst (acc ++ [y]))) else Nx H3) := by
  have hxl := Paired.length px
  have h64 := rows_cap hn
  refine lc_listM (xs := xs) (fun H v t => TK H v t) ((rowsB n).map (· ++ [b])) (fun H H' v t e r => TK.tm e r) (fun H s => SqL.of (s _ _ hx)) (by omega) (by rw [List.length_map, hxl]) hD hw (fun i x t hi ht H s Q q => ?_) hd
  obtain ⟨t0, h0, a, rfl, ha⟩ := Paired.getL px hi
  rw [List.getElem?_map, h0] at ht
  have ht : t0 ++ [b] = t := Option.some.inj ht
  subst ht
  have hl : t0.length ≤ 10 := by
    obtain ⟨t', _, e⟩ := List.mem_map.mp (List.mem_of_getElem? h0)
    rw [← e, bitsR_len]
    omega
  exact hte _ a t0 H _ rfl (s _ _ ha) hl q
theorem has_law_bits (T : Top K mg "_law_bits" s_law_bits ["inputs"]) (B : Bi mg) : Has P w K mg base CX0 1 "_law_bits" ["inputs"] spLBits := by
  refine T.ok sc_law_bits (fun vs H Q E h => ?_) (fun f cdv A outer s H vs Q E hr h => ?_)
  · obtain ⟨m, rfl, _⟩ := h
    rfl
  · obtain ⟨m, rfl, hm, q⟩ := h
    refine ⟨_, pss_cons (ps_set (i := 1) sc_law_bits.nd rfl (Or.inl rfl) (pe_lst (pa_cons (pe_tup pa_nil) pa_nil)))
      (pss_cons (ps_for PassesOwn.never rfl (pi_range1 (by rfl) B.range (pa_cons (pv 0) pa_nil)) (pg_name (i := 2) sc_law_bits.nd rfl (Or.inl rfl))
        (pss_one (ps_set (i := 1) sc_law_bits.nd rfl (Or.inl rfl) (pe_op op_cat
          (pe_lc (own := [("bits", 3)]) (g := gName 3) (te := tOp (rCatA K) (tVar 3) (tTup (tCons (tC (.int 0)) tNil))) (by rfl) sc_law_bits.nd (pi_list (pv 1)) (blkOk_by (own := [("bits", 3)]) (N := ["inputs", "found", "turn", "bits"]) (sc := defScope s_law_bits) (by decide +kernel))
            (fun _ _ _ _ _ => pg_name (i := 3) sc_law_bits.nd rfl (Or.inl rfl)) (fun _ _ _ _ _ => pts_nil) (fun _ _ _ _ _ => pe_op op_catA (pv 3) (pe_tup (pa_cons pe_int pa_nil))))
          (pe_lc (own := [("bits", 3)]) (g := gName 3) (te := tOp (rCatA K) (tVar 3) (tTup (tCons (tC (.int 1)) tNil))) (by rfl) sc_law_bits.nd (pi_list (pv 1)) (blkOk_by (own := [("bits", 3)]) (N := ["inputs", "found", "turn", "bits"]) (sc := defScope s_law_bits) (by decide +kernel))
            (fun _ _ _ _ _ => pg_name (i := 3) sc_law_bits.nd rfl (Or.inl rfl)) (fun _ _ _ _ _ => pts_nil) (fun _ _ _ _ _ => pe_op op_catA (pv 3) (pe_tup (pa_cons pe_int pa_nil))))))))
      (pss_one (ps_ret (pv 1)))), ?_⟩
    refine ⟨Nat.zero_le _, fun t0 ht0 => ⟨by show 1 ≤ sizeLine; decide, fun l0 hl0 => ?_⟩⟩
    have s1 := same_new (o := .tup []) ht0
    have s2 := same_new (o := .lst [V.ref t0]) hl0
    have s12 := s1.trans s2
    have cat : ∀ (b : Nat) (x : V) (a : Addr) (t : List Nat) (H : Hp) (Q : VK), x = .ref a → H a = some (.tup (nIs t)) → t.length ≤ 10 → (∀ v H', Same H H' → TK H' v (t ++ [b]) → Q v H') → ∀ (p : Addr), H p = none → rCatA K x (.ref p) (upd H p (.tup [V.int (b : Int)])) Q := by
      intro b x a t H Q ex ha hl q p hp
      subst ex
      have s3 := same_new (o := .tup [V.int (b : Int)]) hp
      refine ⟨a, p, nIs t, [V.int (b : Int)], rfl, rfl, SqT.of (s3 _ _ ha), SqT.of upd_same, by rw [sizeLine_eq, nIs_len]; show t.length + 1 ≤ _; omega, fun e => ?_, fun _ e => (by cases e), fun _ _ p2 hp2 => q _ _ (s3.trans (same_new hp2)) ⟨p2, rfl, ?_⟩⟩
      · have : t = [] := by
          cases t with
          | nil => rfl
          | cons => cases e
        subst this
        exact q _ _ s3 ⟨p, rfl, upd_same⟩
      · rw [upd_same]
        unfold nIs
        rw [List.map_append]
        rfl
    refine ⟨_, rfl, (m : Int), rfl, by omega, by omega, for_range (lo := 0) (n := (m : Int).toNat) (fun i σ H' => ∃ l y2 y3, σ = [some (nI m), some (.ref l), y2, y3] ∧ Same H H' ∧ H l = none ∧ LK H' l (rowsB i))
      ⟨l0, none, none, rfl, s12, s1.free hl0, [V.ref t0], upd_same, .cons ⟨t0, rfl, s2 _ _ upd_same⟩ .nil⟩ ?_ ?_⟩
    · rintro i σ H' hi ⟨l, y2, y3, rfl, sm, hl, xs, hx, px⟩
      have hi6 : i ≤ 6 := by omega
      have px' : Paired (TK H') xs (rowsB i) := px
      refine ⟨_, rfl, l, rfl, ⟨_, SqL.of hx⟩, fun D1 hD1 => bits_side (b := 0) hx px' hi6 hD1 (fun x => rfl) (fun x a t H Q ex ha hl q => ?_) (fun H2 zs s2 hz pz => ?_)⟩
      · subst ex
        exact ⟨_, rfl, by show 1 ≤ sizeLine; decide, fun p hp => cat 0 _ a t H Q rfl ha hl q p hp⟩
      · have hx2 := s2 _ _ hx
        have px2 := TKs.tm (.of s2) px'
        refine ⟨_, rfl, l, rfl, ⟨_, SqL.of hx2⟩, fun D2 hD2 => bits_side (b := 1) hx2 px2 hi6 hD2 (fun x => rfl) (fun x a t H Q ex ha hl q => ?_) (fun H3 zs3 s3 hz3 pz3 => ?_)⟩
        · subst ex
          exact ⟨_, rfl, by show 1 ≤ sizeLine; decide, fun p hp => cat 1 _ a t H Q rfl ha hl q p hp⟩
        · have hz2 := s3 _ _ hz
          have pz2 := TKs.tm (.of s3) pz
          have e1 := Paired.length pz2
          have e2 := Paired.length pz3
          rw [List.length_map] at e1 e2
          have h64 := rows_cap hi6
          refine ⟨_, _, _, _, rfl, rfl, hz2, hz3, by rw [sizeLine_eq]; omega, fun p hp => ?_⟩
          have s4 := same_new (o := .lst (zs ++ zs3)) hp
          have sA := (sm.trans (s2.trans s3)).trans s4
          refine ⟨p, _, y3, rfl, sA, (sm.trans (s2.trans s3)).free hp, zs ++ zs3, upd_same, ?_⟩
          rw [rowsB_succ]
          exact Paired.app (TKs.tm (.of s4) pz2) (TKs.tm (.of s4) pz3)
    · rintro σ H' ⟨l, y2, y3, rfl, sm, hl, lk⟩
      exact ⟨_, rfl, q l H' sm hl lk⟩
end
end Lt

set_option Elab.async false
set_option linter.all false
set_option maxRecDepth 100000
set_option maxHeartbeats 1000000
/-! what the law's tree comes to on a row of bits -/
namespace Lt
open PySem PySem.Spec PyProof.Rows L2
def evL : Fm → List Nat → Nat
  | .x i, bs => bs.getD i 0
  | .no f, bs => 1 - evL f bs
  | .two j f g, bs => if j = ("and" : Str) then evL f bs * evL g bs else if j = ("or" : Str) then max (evL f bs) (evL g bs) else (evL f bs + evL g bs) % 2
theorem evL_bits {m t : Nat} : ∀ {f : Fm}, f.Ok m → evL f (bitsR m t) = evF f t
  | .x i, h => by
    have h : i < m := h
    show (bitsR m t).getD i 0 = t / 2 ^ i % 2
    rw [List.getD_eq_getElem?_getD, bitsR_get h]
    rfl
  | .no f, h => by
    show 1 - evL f _ = 1 - evF f t
    rw [evL_bits (f := f) h]
  | .two j f g, h => by
    obtain ⟨_, h1, h2⟩ := h
    unfold evL evF
    rw [evL_bits h1, evL_bits h2]
theorem evL_le {bs : List Nat} (hb : ∀ x ∈ bs, x ≤ 1) : ∀ f : Fm, evL f bs ≤ 1
  | .x i => by
    show bs.getD i 0 ≤ 1
    by_cases h : i < bs.length
    · rw [List.getD_eq_getElem?_getD, List.getElem?_eq_getElem h]
      exact hb _ (List.getElem_mem h)
    · rw [List.getD_eq_getElem?_getD, List.getElem?_eq_none (by omega)]
      exact Nat.zero_le _
  | .no f => Nat.sub_le ..
  | .two j f g => by
    have h1 := evL_le hb f
    have h2 := evL_le hb g
    unfold evL
    split
    · exact Nat.le_trans (Nat.mul_le_mul h1 h2) (by decide)
    · split
      · omega
      · omega
section
variable {X : Cx}
theorem op_modN2 : OpR X (binaryOp .Mod) (fun x y H Q => ∃ n m : Nat, x = .int (n : Int) ∧ y = .int (m : Int) ∧ 1 ≤ m ∧ Q (.int ((n % m : Nat) : Int)) H) := by
  intro pins s σ H x y v u Q I rx ry h
  obtain ⟨n, m, rfl, rfl, hm, q⟩ := h
  refine op_modN pins s σ H _ _ v u Q I rx ry ⟨_, _, rfl, rfl, by omega, ?_⟩
  have e : Int.fmod (n : Int) (m : Int) = ((n % m : Nat) : Int) := by rw [Int.fmod_eq_emod_of_nonneg _ (by omega), Int.natCast_emod]
  show Q (.int (Int.fmod (n : Int) (m : Int))) H
  rw [e]
  exact q
end
theorem val3 {j : Str} (hj : j ∈ joins) (u1 u2 u3 : V) : valV (mergeK [] [(.inr "and", u1), (.inr "or", u2), (.inr "xor", u3)]) (.inr j) = some (if j = ("and" : Str) then u1 else if j = ("or" : Str) then u2 else u3) := by
  have a1 : ("and" : Str) ≠ "or" := by decide +kernel
  have a2 : ("and" : Str) ≠ "xor" := by decide +kernel
  have a3 : ("or" : Str) ≠ "xor" := by decide +kernel
  have a4 : ("or" : Str) ≠ "and" := by decide +kernel
  have a5 : ("xor" : Str) ≠ "and" := by decide +kernel
  have a6 : ("xor" : Str) ≠ "or" := by decide +kernel
  have e : mergeK [] [((.inr "and" : Key), u1), (.inr "or", u2), (.inr "xor", u3)] = [(.inr "and", u1), (.inr "or", u2), (.inr "xor", u3)] := by
    simp only [mergeK, List.foldl_cons, List.foldl_nil, putK, List.any_nil, List.any_cons, Bool.false_eq_true, if_false, List.nil_append, Sum.inr.injEq, a1, a2, a3, decide_false, Bool.or_false, List.cons_append, List.singleton_append]
  rw [e]
  unfold valV
  unfold joins at hj
  rcases List.mem_cons.mp hj with rfl | hj
  · simp
  · rcases List.mem_cons.mp hj with rfl | hj
    · simp [a1, a4]
    · rcases List.mem_cons.mp hj with rfl | hj
      · simp [a2, a3, a5, a6]
      · cases hj
section
variable {P : Program} {w : World} {K : PySem.W.Frag} {mg : Str → Option Value} {base : Heap}
def spLW (fu : Nat) : Sp := fun vs H Q _ => ∃ (m : Nat) (b : Addr) (bs : List Nat) (v : V) (f : Fm), vs = [v, .ref b] ∧ bs.length = m ∧ (∀ x ∈ bs, x ≤ 1) ∧ H b = some (.tup (nIs bs)) ∧ f.Ok m ∧ f.deep < fu ∧ f.LAt H v ∧ ∀ H', Same H H' → Q (nI (evL f bs)) H'
theorem sc_law_worth : FnScope ["tree", "bits", "one", "other"] ["tree", "bits"] (defScope s_law_worth) := ⟨rfl, rfl, rfl, by decide +kernel, rfl, by decide +kernel, by decide +kernel⟩
theorem has_law_worth (T : Top K mg "_law_worth" s_law_worth ["tree", "bits"]) (B : Bi mg) (bm : mg "max" = none) : ∀ f, Has P w K mg base CX0 (f + 2) "_law_worth" ["tree", "bits"] (spLW f)
  | 0 => T.ok sc_law_worth (fun vs H Q E h => by obtain ⟨m, b, bs, v, f, rfl, _⟩ := h; rfl) (fun f cdv A outer s H vs Q E hr h => by
      obtain ⟨m, b, bs, v, f, rfl, _, _, _, _, h5, _⟩ := h
      exact absurd h5 (Nat.not_lt_zero _))
  | fu + 1 => by
    have ih := has_law_worth T B bm fu
    refine T.ok sc_law_worth (fun vs H Q E h => ?_) (fun f cdv A outer s H vs Q E hr h => ?_)
    · obtain ⟨m, b, bs, v, f, rfl, _⟩ := h
      rfl
    · obtain ⟨m, b, bs, v, fm, rfl, hm, h1, hb, ok, hdp, la, q⟩ := h
      have hu1 := hr.units
      have hu : (cxOf CX0 P w K mg base ["tree", "bits", "one", "other"] "_law_worth" (defScope s_law_worth) f cdv A outer s H E).nox.A.units + 1 < cLine := by
        show (A.deeper _).units + 1 < cLine
        omega
      refine ⟨_, pss_cons (ps_if (pt_cmpR op_eq (pe_ix ix_tup (pv 0) pe_int (fun _ _ => rfl)) pe_str (nomark _)) (pss_one (ps_ret (pe_ix ix_tup (pv 1) (pe_ix ix_tup (pv 0) pe_int (fun _ _ => rfl)) (fun _ _ => rfl)))) pss_nil)
        (pss_cons (ps_set (i := 2) sc_law_worth.nd rfl (Or.inl rfl) (pe_has ih hr (by rfl) (pa_cons (pe_ix ix_tup (pv 0) pe_int (fun _ _ => rfl)) (pa_cons (pv 1) pa_nil))))
        (pss_cons (ps_if (pt_cmpR op_eq (pe_ix ix_tup (pv 0) pe_int (fun _ _ => rfl)) pe_str (nomark _)) (pss_one (ps_ret (pe_op op_subN pe_int (pv 2)))) pss_nil)
        (pss_cons (ps_set (i := 3) sc_law_worth.nd rfl (Or.inl rfl) (pe_has ih hr (by rfl) (pa_cons (pe_ix ix_tup (pv 0) pe_int (fun _ _ => rfl)) (pa_cons (pv 1) pa_nil))))
        (pss_one (ps_ret (pe_dget hu (pe_disp (pps_cons pe_str (pe_op op_mulN (pv 2) (pv 3)) (pps_cons pe_str (pe_callB (call_max2 (by rfl)) (by rfl) bm (by rfl) (pa_cons (pv 2) (pa_cons (pv 3) pa_nil))) (pps_cons pe_str (pe_op op_modN2 (pe_op op_add (pv 2) (pv 3)) pe_int) pps_nil))) (by rfl) (by rfl) (by intro z; cases z) (by decide)) (pe_ix ix_tup (pv 0) pe_int (fun _ _ => rfl)) (fun _ _ => rfl))))))), ?_⟩
      cases fm with
      | x i =>
        obtain ⟨a, rfl, ha⟩ := la
        have hi : i < m := ok
        have e : (nIs bs)[i]? = some (nI (bs.getD i 0)) := by
          unfold nIs
          rw [List.getElem?_map, List.getElem?_eq_getElem (by omega), List.getD_eq_getElem?_getD, List.getElem?_eq_getElem (by omega)]
          rfl
        exact ⟨_, rfl, a, _, 0, .str "x", rfl, rfl, SqT.of ha, rfl, rfl, true, rfl, iteT ⟨_, rfl, _, rfl, a, _, 1, nI i, rfl, rfl, SqT.of ha, rfl, b, _, i, _, rfl, rfl, SqT.of hb, atI_nat e, q _ (Same.refl _)⟩⟩
      | no f =>
        obtain ⟨a, u, rfl, ha, hu'⟩ := la
        have hd1 : f.deep + 1 < fu + 1 := hdp
        have l1 := evL_le h1 f
        refine ⟨_, rfl, a, _, 0, .str wNot, rfl, rfl, SqT.of ha, rfl, rfl, false, rfl, iteF ⟨_, rfl, a, _, 1, u, rfl, rfl, SqT.of ha, rfl, _, rfl, m, b, bs, u, f, rfl, hm, h1, hb, ok, by omega, hu', fun H1 s1 => ?_⟩⟩
        refine ⟨_, rfl, a, _, 0, .str wNot, rfl, rfl, SqT.of (s1 _ _ ha), rfl, rfl, true, rfl, iteT ⟨_, rfl, 1, evL f bs, rfl, rfl, l1, q _ s1⟩⟩
      | two j f f2 =>
        obtain ⟨a, u, u2, rfl, ha, hu1, hu2⟩ := la
        obtain ⟨hj, ok1, ok2⟩ := ok
        have hd1 : max f.deep f2.deep + 1 < fu + 1 := hdp
        have hjn : j ≠ wNot := fun z => by rw [z] at hj; exact absurd hj (by decide +kernel)
        have hjx : j ≠ ("x" : Str) := fun z => by rw [z] at hj; exact absurd hj (by decide +kernel)
        have l1 := evL_le h1 f
        have l2 := evL_le h1 f2
        refine ⟨_, rfl, a, _, 0, .str j, rfl, rfl, SqT.of ha, rfl, rfl, false, congrArg V.bl ((word_eq j _).trans (decide_eq_false hjx)), iteF ⟨_, rfl, a, _, 1, u, rfl, rfl, SqT.of ha, rfl, _, rfl, m, b, bs, u, f, rfl, hm, h1, hb, ok1, by omega, hu1, fun H1 s1 => ?_⟩⟩
        refine ⟨_, rfl, a, _, 0, .str j, rfl, rfl, SqT.of (s1 _ _ ha), rfl, rfl, false, congrArg V.bl ((word_eq j wNot).trans (decide_eq_false hjn)), iteF ⟨_, rfl, a, _, 2, u2, rfl, rfl, SqT.of (s1 _ _ ha), rfl, _, rfl, m, b, bs, u2, f2, rfl, hm, h1, s1 _ _ hb, ok2, by omega, hu2.tm (.of s1), fun H2 s2 => ?_⟩⟩
        intro p hp
        refine ⟨_, rfl, _, rfl, evL f bs, evL f2 bs, rfl, rfl, by omega, _, rfl, _, rfl, (evL f bs : Int), (evL f2 bs : Int), rfl, ?_⟩
        refine ⟨_, rfl, _, rfl, (evL f bs : Int), (evL f2 bs : Int), rfl, rfl, evL f bs + evL f2 bs, 2, ?_, rfl, by decide, ?_⟩
        · show V.int _ = V.int _
          congr 1
        have sA := s1.trans s2
        have sp := same_new (o := HO.dK []) hp
        refine ⟨upd_same, [(.inr "and", _), (.inr "or", _), (.inr "xor", _)], rfl, by show 3 ≤ 15; decide, _, rfl, a, [.str j, u, u2], 0, .str j, rfl, rfl, SqT.of ?_, rfl, p, _, rfl, (val3 hj _ _ _) ▸ DGet.k upd_same, ?_⟩
        · exact (upd_ne (ne_of_none (sA _ _ ha) hp)).trans (sp _ _ (sA _ _ ha))
        · have e : (if j = ("and" : Str) then nI (evL f bs * evL f2 bs) else if j = ("or" : Str) then V.int (if (evL f2 bs : Int) > (evL f bs : Int) then (evL f2 bs : Int) else (evL f bs : Int)) else nI ((evL f bs + evL f2 bs) % 2)) = nI (evL (.two j f f2) bs) := by
            show _ = nI (if j = ("and" : Str) then evL f bs * evL f2 bs else if j = ("or" : Str) then max (evL f bs) (evL f2 bs) else (evL f bs + evL f2 bs) % 2)
            split
            · rfl
            · split
              · show V.int _ = V.int _
                congr 1
                split <;> omega
              · rfl
          have q' : ∀ H', Same H H' → ∀ v, v = nI (evL (.two j f f2) bs) → Q v H' := fun H' s v ev => ev ▸ q H' s
          refine q' _ (fun b' o' hb' => ?_) _ e
          have hb2 := sA _ _ hb'
          exact (upd_ne (ne_of_none hb2 hp)).trans (sp _ _ hb2)
end
end Lt

set_option Elab.async false
set_option linter.all false
set_option maxRecDepth 100000
set_option maxHeartbeats 1000000
/-! a comprehension with a test, over whatever is walked -/
namespace Lt
open PySem PySem.Spec PyProof.Rows L2
def Cf {β : Type} (H1 : Hp) (D : Addr) (R : Hp → V → β → Prop) (ys : List β) (i : Nat) (H : Hp) : Prop := Same H1 H ∧ ∃ zs, H D = some (.lst zs) ∧ Paired (R H) zs ys ∧ zs.length ≤ i
theorem lc_genF {J : It} {g : TG} {tt : L2.TT} {te : TE} {vs : List Nat} {σ : L2.St} {H1 : Hp} {D : Addr} {Qd : Hp → Prop} {β : Type} {n : Nat} (R : Hp → V → β → Prop) (p : Nat → Bool) (f : Nat → β) (mono : ∀ H H' v b, Tm H H' → R H v b → R H' v b) (hz : n ≤ 100000) (hD : H1 D = none)
    (hgo : ∀ i H, i < n → Same H1 H → J.go i H) (hst : ∀ H, Same H1 H → J.stop n H)
    (hs : ∀ i H x H', i < n → Same H1 H → J.yld i H x H' → Same H H' ∧ ∃ σ2, (∀ Kk : L2.St → Hp → Prop, Kk σ2 H' → g x (wipe σ vs) H' Kk) ∧ wipe σ2 vs = wipe σ vs ∧ (∀ Q, (∀ H3, Same H' H3 → Q (p i) H3) → tt σ2 H' Q) ∧
      (p i = true → ∀ H3, Same H' H3 → ∀ Q : VK, (∀ v H4, Same H3 H4 → R H4 v (f i) → Q v H4) → te σ2 H3 Q))
    (hd : ∀ H zs, Same H1 H → H D = some (.lst zs) → Paired (R H) zs (((List.range n).filter p).map f) → Qd H) :
    ∃ W : Nat → Nat → Hp → Prop, (∃ m, W 0 m (upd H1 D (.lst []))) ∧ ∀ i m H, W i m H →
      (J.stop i H ∧ Qd H) ∨ (J.go i H ∧ ∃ Nx : Hp → Prop, (∀ H', Nx H' → ∃ m', m' < m ∧ W (i + 1) m' H') ∧ ∀ x H', J.yld i H x H' → g x (wipe σ vs) H' fun σ2 H2 => wipe σ2 vs = wipe σ vs ∧ tt σ2 H2 fun b H3 =>
        if b = true then te σ2 H3 fun y H4 => ∃ acc, H4 D = some (.lst acc) ∧ acc.length < sizeLine ∧ Nx (upd H4 D (.lst (acc ++ [y]))) else Nx H3) := by
  refine ⟨fun i m H => m = n - i ∧ i ≤ n ∧ Cf H1 D R (((List.range i).filter p).map f) i H, ⟨n, by simp, Nat.zero_le _, same_new hD, [], upd_same, .nil, Nat.le_refl _⟩, ?_⟩
  rintro i m H ⟨rfl, hi, c⟩
  obtain ⟨sm, zs, h1, pr, hl⟩ := c
  by_cases hlt : i < n
  · refine .inr ⟨hgo i H hlt sm, Cf H1 D R (((List.range (i + 1)).filter p).map f) (i + 1), fun H' p' => ⟨n - (i + 1), by omega, rfl, hlt, p'⟩, fun x H' y => ?_⟩
    obtain ⟨s', σ2, hg, hw, ht, he⟩ := hs i H x H' hlt sm y
    refine hg _ ⟨hw, ht _ fun H3 s3 => ?_⟩
    have s13 := s'.trans s3
    cases hp : p i with
    | false =>
      rw [if_neg (by decide)]
      refine ⟨sm.trans s13, zs, s13 _ _ h1, ?_, by omega⟩
      rw [List.range_succ, List.filter_append]
      show Paired (R H3) zs ((List.filter p (List.range i) ++ List.filter p [i]).map f)
      rw [List.filter_cons_of_neg (by rw [hp]; decide), List.filter_nil, List.append_nil]
      exact paired_mono (fun a b r => mono _ _ _ _ (Tm.of s13) r) pr
    | true =>
      rw [if_pos rfl]
      refine he hp H3 s3 _ fun v H4 s4 r => ?_
      have s14 := s13.trans s4
      have h4 := s14 _ _ h1
      have t4 : Tm H4 (upd H4 D (.lst (zs ++ [v]))) := Tm.lst h4
      refine ⟨zs, h4, Nat.lt_of_le_of_lt hl (Nat.lt_of_lt_of_le (Nat.lt_of_lt_of_le hlt hz) (by decide)), same_mut (sm.trans s14) hD, zs ++ [v], upd_same, ?_, by rw [List.length_append]; show zs.length + 1 ≤ i + 1; omega⟩
      rw [List.range_succ, List.filter_append]
      show Paired _ _ ((List.filter p (List.range i) ++ List.filter p [i]).map f)
      rw [List.filter_cons_of_pos hp, List.filter_nil, List.map_append]
      exact Paired.app (paired_mono (fun a b q => mono _ _ _ _ ((Tm.of s14).trans t4) q) pr) (Paired.one (mono _ _ _ _ t4 r))
  · have e : i = n := by omega
    subst e
    exact .inl ⟨hst H sm, hd H zs sm h1 pr⟩
/-- over a range -/
theorem lc_rangeF {j : Nat} {tt : L2.TT} {te : TE} {vs : List Nat} {σ : L2.St} {H1 : Hp} {D : Addr} {Qd : Hp → Prop} {β : Type} {n : Nat} (R : Hp → V → β → Prop) (p : Nat → Bool) (f : Nat → β) (mono : ∀ H H' v b, Tm H H' → R H v b → R H' v b) (hz : n ≤ 100000) (hD : H1 D = none)
    (hw : ∀ x, wipe ((wipe σ vs).set j (some x)) vs = wipe σ vs)
    (ht : ∀ i H, i < n → Same H1 H → ∀ Q, (∀ H3, Same H H3 → Q (p i) H3) → tt ((wipe σ vs).set j (some (.int ((0 : Int) + (i : Nat))))) H Q)
    (he : ∀ i H, i < n → p i = true → Same H1 H → ∀ Q : VK, (∀ v H4, Same H H4 → R H4 v (f i) → Q v H4) → te ((wipe σ vs).set j (some (.int ((0 : Int) + (i : Nat))))) H Q)
    (hd : ∀ H zs, Same H1 H → H D = some (.lst zs) → Paired (R H) zs (((List.range n).filter p).map f) → Qd H) :
    ∃ W : Nat → Nat → Hp → Prop, (∃ m, W 0 m (upd H1 D (.lst []))) ∧ ∀ i m H, W i m H →
      ((Itr 0 n).stop i H ∧ Qd H) ∨ ((Itr 0 n).go i H ∧ ∃ Nx : Hp → Prop, (∀ H', Nx H' → ∃ m', m' < m ∧ W (i + 1) m' H') ∧ ∀ x H', (Itr 0 n).yld i H x H' → gName j x (wipe σ vs) H' fun σ2 H2 => wipe σ2 vs = wipe σ vs ∧ tt σ2 H2 fun b H3 =>
        if b = true then te σ2 H3 fun y H4 => ∃ acc, H4 D = some (.lst acc) ∧ acc.length < sizeLine ∧ Nx (upd H4 D (.lst (acc ++ [y]))) else Nx H3) :=
  lc_genF (J := Itr 0 n) R p f mono hz hD (fun i H hi _ => hi) (fun H _ => Nat.le_refl _) (fun i H x H' hi sm y => by
    obtain ⟨rfl, rfl⟩ := y
    exact ⟨Same.refl _, _, fun Kk q => q, hw _, fun Q q => ht i _ hi sm Q q, fun hp H3 s3 Q q => he i H3 hi hp (sm.trans s3) Q q⟩) hd
/-- over enumerate of a tuple -/
theorem lc_enumF {K : PySem.W.Frag} {g : TG} {tt : L2.TT} {te : TE} {vs : List Nat} {σ : L2.St} {H1 : Hp} {D a : Addr} {Qd : Hp → Prop} {β : Type} {j1 j2 : Nat} {xs : List V} (R : Hp → V → β → Prop) (p : Nat → Bool) (f : Nat → β) (mono : ∀ H H' v b, Tm H H' → R H v b → R H' v b)
    (hx : ∀ H, Same H1 H → SqT K H a xs) (hz : xs.length ≤ 100000) (hD : H1 D = none)
    (hg : ∀ T x (i : Nat) σ H Q, H T = some (.tup [nI i, x]) → Q ((σ.set j1 (some (nI i))).set j2 (some x)) H → g (.ref T) σ H Q)
    (hw : ∀ x y, wipe (((wipe σ vs).set j1 x).set j2 y) vs = wipe σ vs)
    (ht : ∀ i x H, xs[i]? = some x → Same H1 H → ∀ Q, (∀ H3, Same H H3 → Q (p i) H3) → tt (((wipe σ vs).set j1 (some (nI i))).set j2 (some x)) H Q)
    (he : ∀ i x H, xs[i]? = some x → p i = true → Same H1 H → ∀ Q : VK, (∀ v H4, Same H H4 → R H4 v (f i) → Q v H4) → te (((wipe σ vs).set j1 (some (nI i))).set j2 (some x)) H Q)
    (hd : ∀ H zs, Same H1 H → H D = some (.lst zs) → Paired (R H) zs (((List.range xs.length).filter p).map f) → Qd H) :
    ∃ W : Nat → Nat → Hp → Prop, (∃ m, W 0 m (upd H1 D (.lst []))) ∧ ∀ i m H, W i m H →
      ((Itet K a).stop i H ∧ Qd H) ∨ ((Itet K a).go i H ∧ ∃ Nx : Hp → Prop, (∀ H', Nx H' → ∃ m', m' < m ∧ W (i + 1) m' H') ∧ ∀ x H', (Itet K a).yld i H x H' → g x (wipe σ vs) H' fun σ2 H2 => wipe σ2 vs = wipe σ vs ∧ tt σ2 H2 fun b H3 =>
        if b = true then te σ2 H3 fun y H4 => ∃ acc, H4 D = some (.lst acc) ∧ acc.length < sizeLine ∧ Nx (upd H4 D (.lst (acc ++ [y]))) else Nx H3) :=
  lc_genF (J := Itet K a) (n := xs.length) R p f mono hz hD (fun i H hi s => ⟨xs, xs[i], hx H s, by simp [hi]⟩) (fun H s => ⟨xs, hx H s, rfl⟩) (fun i H x H' hi sm y => by
    obtain ⟨T, x, rfl, hT, rfl, hx2⟩ := y
    have hx2 := hx2 xs (hx H sm)
    have sT := same_new (o := .tup [V.int (i : Nat), x]) hT
    exact ⟨sT, _, fun Kk q => hg T x i _ _ _ upd_same q, hw _ _, fun Q q => ht i x _ hx2 (sm.trans sT) Q q, fun hp H3 s3 Q q => he i x H3 hx2 hp ((sm.trans sT).trans s3) Q q⟩) hd
end Lt

set_option Elab.async false
set_option linter.all false
set_option maxRecDepth 100000
set_option maxHeartbeats 1000000
/-! tasks.py: what is checked, the inputs and the parts of a table -/
namespace Lt
open PySem PySem.Spec PyProof.Rows L2
/-- a module's tuple of numbers -/
def Cti (K : PySem.W.Frag) (mg : Str → Option Value) (x : Str) (ns : List Int) : Prop := ∃ J : Addr, mg x = some (.ref J) ∧ ∀ H, SqT K H J (ns.map V.int)
def outD (d : PyData) : Prop := isNum d = false ∨ ∃ i, d = .int i ∧ ¬ ((1 : Int) ≤ i ∧ i ≤ 6)
def bitD01 (d : PyData) : Bool := isNum d && decide (numOf d = 0 ∨ numOf d = 1)
def tabLens : List Int := [2, 4, 8, 16, 32, 64]
def isTab : PyData → Bool
  | .tuple ds => ds.all bitD01 && tabLens.contains (ds.length : Int)
  | _ => false
/-- the inputs of a place -/
def insOf (t : Nat) : List Nat := (List.range 6).filter fun i => t / 2 ^ i % 2 == 1
section
variable {P : Program} {w : World} {K : PySem.W.Frag} {mg : Str → Option Value} {base : Heap} {CN CT : Addr}
def spCheckI (CN : Addr) : Sp := fun vs H Q E => ∃ (v : V) (d : PyData), vs = [v] ∧ Rp H v d ∧ ((∃ m : Nat, d = .int m ∧ 1 ≤ m ∧ m ≤ 6 ∧ Q .non H) ∨ (outD d ∧ Bad0 CN H E))
theorem has_check_inputs2 (T : Top K mg "check_inputs" s_check_inputs ["inputs"]) (G : ∃ u, mg "MOST_INPUTS" = some u ∧ RelV (.int 6) u) (X0 : Err0 K mg "BadNumber" CN) (hN : Has P w K mg base CX0 1 "is_number" ["value"] spNum) : Has P w K mg base (L2.CX P w) 3 "check_inputs" ["inputs"] (spCheckI CN) := by
  refine T.okX sc_check_inputs (fun vs H Q E h => ?_) (fun f cdv A outer s H vs Q E hr h => ?_)
  · obtain ⟨v, d, rfl, _⟩ := h
    rfl
  · obtain ⟨v, d, rfl, hd, cs⟩ := h
    have hr1 : Room 1 _ := hr.mono (by decide)
    refine ⟨_, pss_one (ps_if (PW.pt (pw_or (pt_not (pt_val (pe_has hN hr1 (by rfl) (pa_cons (pv 0) pa_nil)))) (pw_or1 (pt_not (pt_chain op_le op_le pe_int (pv 0) (pe_gc2 (by rfl) G)))))) (pss_one (ps_raise rfl (takes_of rfl rfl rfl rfl) (pmk_err0 X0 (by rfl)))) pss_nil), ?_⟩
    rcases cs with ⟨m, rfl, h1, h6, q⟩ | ⟨out, bad⟩
    · cases hd
      refine ⟨_, rfl, nI m, .int m, rfl, .int _, true, rfl, iteF ⟨_, rfl, 1, (m : Int), rfl, rfl, true, congrArg V.bl (decide_eq_true (show (1 : Int) ≤ (m : Int) by omega)), iteT ⟨(m : Int), 6, rfl, rfl, true, congrArg V.bl (decide_eq_true (show (m : Int) ≤ 6 by omega)), iteF q⟩⟩⟩
    · have go : E (.ref CN) none H := bad H (Same.refl _)
      rcases out with hn | ⟨i, rfl, hi⟩
      · exact ⟨_, rfl, v, d, rfl, hd, isNum d, rfl, by rw [hn]; exact iteT (iteT go)⟩
      · cases hd
        refine ⟨_, rfl, .int i, .int i, rfl, .int _, true, rfl, iteF ⟨_, rfl, 1, i, rfl, rfl, decide ((1 : Int) ≤ i), rfl, ?_⟩⟩
        by_cases h1 : (1 : Int) ≤ i
        · rw [decide_eq_true h1]
          exact iteT ⟨i, 6, rfl, rfl, false, congrArg V.bl (decide_eq_false fun z => hi ⟨h1, z⟩), iteT go⟩
        · rw [decide_eq_false h1]
          exact iteF ⟨false, rfl, iteT go⟩
def spCheckP (CN : Addr) : Sp := fun vs H Q E => ∃ v, vs = [v] ∧ flatV v = true ∧ ((inV v ([2, 3, 5, 7].map V.int) = true ∧ Q .non H) ∨ (inV v ([2, 3, 5, 7].map V.int) = false ∧ Bad0 CN H E))
theorem sc_check_prime : FnScope ["prime"] ["prime"] (defScope s_check_prime) := ⟨rfl, rfl, rfl, by decide +kernel, rfl, by decide +kernel, by decide +kernel⟩
theorem has_check_prime (T : Top K mg "check_prime" s_check_prime ["prime"]) (G : Cti K mg "PRIMES" [2, 3, 5, 7]) (X0 : Err0 K mg "BadNumber" CN) : Has P w K mg base (L2.CX P w) 1 "check_prime" ["prime"] (spCheckP CN) := by
  obtain ⟨J, hJ, sq⟩ := G
  refine T.okX sc_check_prime (fun vs H Q E h => ?_) (fun f cdv A outer s H vs Q E hr h => ?_)
  · obtain ⟨v, rfl, _⟩ := h
    rfl
  · obtain ⟨v, rfl, fv, cs⟩ := h
    refine ⟨_, pss_one (ps_if (pt_cmpR op_notIn_seq (pv 0) (pe_glob (v := .ref J) (by rfl) hJ rfl) (by rfl)) (pss_one (ps_raise rfl (takes_of rfl rfl rfl rfl) (pmk_err0 X0 (by rfl)))) pss_nil), ?_⟩
    rcases cs with ⟨hin, q⟩ | ⟨hin, bad⟩
    · exact ⟨_, rfl, J, _, rfl, .inr (sq H), fv, rfl, false, by rw [hin]; rfl, iteF q⟩
    · exact ⟨_, rfl, J, _, rfl, .inr (sq H), fv, rfl, true, by rw [hin]; rfl, iteT (bad H (Same.refl _))⟩
def spCheckT (CT : Addr) : Sp := fun vs H Q E => ∃ (v : V) (d : PyData), vs = [v] ∧ Rp H v d ∧ (∀ ds, d = .tuple ds → ds.length ≤ 1000) ∧ ((isTab d = true ∧ ∀ H', Same H H' → Q .non H') ∨ (isTab d = false ∧ Bad0 CT H E))
theorem sc_check_table : FnScope ["table", "bit", "inputs"] ["table"] (defScope s_check_table) := ⟨rfl, rfl, rfl, by decide +kernel, rfl, by decide +kernel, by decide +kernel⟩
theorem isTab_no {d : PyData} (h : isNums d = false) : isTab d = false := by
  cases d with
  | tuple ds =>
    have h : ds.all isNum = false := h
    show (ds.all bitD01 && _) = false
    rw [List.all_eq_false] at h
    obtain ⟨x, hx, hn⟩ := h
    have : ds.all bitD01 = false := by
      rw [List.all_eq_false]
      refine ⟨x, hx, fun z => hn ?_⟩
      unfold bitD01 at z
      rw [Bool.and_eq_true] at z
      exact z.1
    rw [this]
    rfl
  | _ => rfl
theorem in01' (i : Int) : inV (.int i) [.int 0, .int 1] = decide (i = 0 ∨ i = 1) := by
  show (((0 : Int) == i) || (((1 : Int) == i) || false)) = _
  rw [Bool.or_false, Bool.decide_or]
  congr 1
  · by_cases h : i = 0
    · subst h; rfl
    · rw [decide_eq_false h]; exact beq_eq_false_iff_ne.mpr (fun e => h e.symm)
  · by_cases h : i = 1
    · subst h; rfl
    · rw [decide_eq_false h]; exact beq_eq_false_iff_ne.mpr (fun e => h e.symm)
theorem num_V' {H : Hp} {v : V} {d : PyData} (h : Rp H v d) (hn : isNum d = true) : v = .int (numOf d) := by
  cases h <;> first | rfl | cases hn
theorem nums_tup' {d : PyData} (h : isNums d = true) : ∃ ds, d = .tuple ds ∧ ds.all isNum = true := by
  cases d with
  | tuple ds => exact ⟨ds, rfl, h⟩
  | _ => cases h
theorem inV_lens : ∀ (ns : List Int) (i : Int), inV (.int i) (ns.map V.int) = ns.contains i
  | [], i => rfl
  | n :: ns, i => by
    show ((n == i) || inV (.int i) (ns.map V.int)) = _
    rw [inV_lens ns i, List.contains_cons]
    congr 1
    exact Bool.beq_comm
theorem bls_of' {H : Hp} : ∀ {zs : List V} {bs : List Bool}, Paired (fun v b => v = V.bl b) zs bs → zs = bs.map V.bl
  | _, _, .nil => rfl
  | _, _, .cons r t => by rw [(show _ = V.bl _ from r), bls_of' (H := H) t]; rfl
theorem has_check_table (T : Top K mg "check_table" s_check_table ["table"]) (B : Bi mg) (G : ∃ u, mg "MOST_INPUTS" = some u ∧ RelV (.int 6) u) (X0 : Err0 K mg "BadTask" CT) (hN : Has P w K mg base CX0 2 "are_numbers" ["value"] spNums) : Has P w K mg base (L2.CX P w) 3 "check_table" ["table"] (spCheckT CT) := by
  refine T.okX sc_check_table (fun vs H Q E h => ?_) (fun f cdv A outer s H vs Q E hr h => ?_)
  · obtain ⟨v, d, rfl, _⟩ := h
    rfl
  · obtain ⟨v, d, rfl, hd, hl, cs⟩ := h
    refine ⟨_, pss_cons (ps_if (PW.pt (pw_or (pt_not (pt_val (pe_has hN hr (by rfl) (pa_cons (pv 0) pa_nil)))) (pw_or1 (pt_not (pt_val
        (pe_callB (cr_all (by rfl)) (by rfl) B.all PyProof.Rows.boot_all (pa_cons (pe_lc (own := [("bit", 1)]) (g := gName 1) (te := tOp (rIn K false) (tVar 1) (tTup (tCons (tC (.int 0)) (tCons (tC (.int 1)) tNil)))) (by rfl) sc_check_table.nd (pi_tup (pv 0)) (blkOk_by (own := [("bit", 1)]) (N := ["table", "bit", "inputs"]) (sc := defScope s_check_table) (by decide +kernel))
        (fun _ _ _ _ _ => pg_name (i := 1) sc_check_table.nd rfl (Or.inl rfl)) (fun _ _ _ _ _ => pts_nil) (fun _ _ _ _ _ => pe_cmpR op_in_seq (pv 1) (pe_tup (pa_cons pe_int (pa_cons pe_int pa_nil))) (by rfl))) pa_nil)))))))
        (pss_one (ps_raise rfl (takes_of rfl rfl rfl rfl) (pmk_err0 X0 (by rfl)))) pss_nil)
      (pss_one (ps_if (pt_cmpR op_notIn_seq (pe_callB call_len_seq (by rfl) B.len PySem.boot_len (pa_cons (pv 0) pa_nil)) (pe_lc (own := [("inputs", 2)]) (g := gName 2) (te := tOp (rI CPow fun i j => .int (i * 2 ^ j.toNat)) (tC (.int 1)) (tVar 2)) (by rfl) sc_check_table.nd (pi_range2 (by rfl) B.range (pa_cons pe_int (pa_cons (pe_op op_add (pe_gc2 (by rfl) G) pe_int) pa_nil))) (blkOk_by (own := [("inputs", 2)]) (N := ["table", "bit", "inputs"]) (sc := defScope s_check_table) (by decide +kernel))
        (fun _ _ _ _ _ => pg_name (i := 2) sc_check_table.nd rfl (Or.inl rfl)) (fun _ _ _ _ _ => pts_nil) (fun _ _ _ _ _ => pe_op op_shl pe_int (pv 2))) (by rfl))
        (pss_one (ps_raise rfl (takes_of rfl rfl rfl rfl) (pmk_err0 X0 (by rfl)))) pss_nil)), ?_⟩
    have bad : isTab d = false → ∀ H', Same H H' → E (.ref CT) none H' := fun z => by
      rcases cs with ⟨y, _⟩ | ⟨_, b⟩
      · rw [z] at y; cases y
      · exact b
    have good : isTab d = true → ∀ H', Same H H' → Q .non H' := fun z => by
      rcases cs with ⟨_, b⟩ | ⟨y, _⟩
      · exact b
      · rw [z] at y; cases y
    refine ⟨_, rfl, v, d, rfl, hd, hl, fun H1 s1 => ⟨isNums d, rfl, ?_⟩⟩
    cases e1 : isNums d with
    | false => exact iteT (iteT (bad (isTab_no e1) _ s1))
    | true =>
      obtain ⟨ds, rfl, hall⟩ := nums_tup' e1
      refine iteF ?_
      cases hd with
      | @tup a xs ds ha hx =>
        have hlen := hl ds rfl
        have hxl := hx.len
        have ha1 := ha.sm s1
        refine ⟨_, rfl, a, rfl, ⟨_, ha1.sq⟩, fun D hD => lc_tupM (fun _ v b => v = V.bl b) (ds.map bitD01) (fun _ _ _ _ _ r => r) (ha1.sq) (fun H' sm => (ha1.sm sm).sq) (by omega) (by rw [List.length_map, hxl]) hD (fun x => rfl) (fun i v n hi hn H' sm Q' q' => ?_) (fun H' zs sm hz pr => ?_)⟩
        · obtain ⟨d, e1, e2⟩ := hx.get hi
          rw [List.getElem?_map, e1] at hn
          have hn : bitD01 d = n := Option.some.inj hn
          have hd := List.all_eq_true.mp hall d (List.mem_of_getElem? e1)
          have hv := num_V' e2 hd
          subst hv
          refine ⟨_, rfl, by show 2 ≤ sizeLine; decide, fun p hp => ⟨p, _, rfl, .inr (SqT.of upd_same), rfl, rfl, q' _ _ (same_new hp) ?_⟩⟩
          rw [← hn]
          unfold bitD01
          rw [hd, Bool.true_and]
          exact congrArg V.bl (in01' _)
        · refine ⟨D, ds.map bitD01, rfl, SqL.of (by rw [hz, bls_of' (H := H') pr]), (ds.map bitD01).all id, rfl, ?_⟩
          have e : (ds.map bitD01).all id = ds.all bitD01 := by rw [List.all_map]; rfl
          rw [e]
          have sB := s1.trans sm
          cases e5 : ds.all bitD01 with
          | false =>
            refine iteT (bad ?_ _ sB)
            show (ds.all bitD01 && _) = false
            rw [e5]
            rfl
          | true =>
            refine iteF ?_
            refine ⟨_, rfl, a, xs, rfl, .inr (ha1.sm sm).sq, 6, 1, rfl, rfl, 1, 6 + 1, rfl, ⟨by decide, by decide, by decide, by decide⟩, fun D2 hD2 => lc_genF (J := Itr 1 ((6 + 1 : Int) - 1).toNat) (n := 6) RI (fun _ => true) (fun i => 2 ^ (i + 1)) (fun _ _ _ _ _ r => r) (by decide) hD2 (fun i H hi _ => (show i < 6 from hi)) (fun H _ => (show 6 ≤ 6 from Nat.le_refl _)) (fun i H2 x H3 hi sm2 y => ?_) (fun H2 zs2 sm2 hz2 pr2 => ?_)⟩
            · obtain ⟨rfl, rfl⟩ := y
              refine ⟨Same.refl _, _, fun Kk q => q, rfl, fun Q q => q _ (Same.refl _), fun _ H3 s3 Q q => ?_⟩
              refine ⟨_, rfl, 1, (1 : Int) + (i : Nat), rfl, rfl, ⟨by omega, by omega, by decide⟩, q _ _ (Same.refl _) ?_⟩
              show V.int _ = V.int _
              congr 1
              have e : ((1 : Int) + (i : Nat)).toNat = i + 1 := by omega
              rw [e, Int.one_mul]
            · have e2 : zs2 = tabLens.map V.int := by
                rw [RI.all pr2]
                rfl
              refine ⟨D2, _, rfl, .inl (SqL.of hz2), rfl, by rw [e2]; rfl, !(tabLens.contains (ds.length : Int)), ?_, ?_⟩
              · rw [e2, inV_lens, hxl]
                rfl
              · have sC := sB.trans sm2
                have e3 : isTab (.tuple ds) = tabLens.contains (ds.length : Int) := by
                  show (ds.all bitD01 && _) = _
                  rw [e5]
                  rfl
                rw [e3] at bad good
                cases e6 : tabLens.contains (ds.length : Int) with
                | false => exact iteT (bad e6 _ sC)
                | true => exact iteF (good e6 _ sC)
end
end Lt

set_option Elab.async false
set_option linter.all false
set_option maxRecDepth 100000
set_option maxHeartbeats 4000000
/-! sorted of data that are alike, any length -/
namespace Lt
open PySem PySem.Spec PyProof.Rows L2
open PySem.W (EachIs AllAlike Sortable dataLe)
theorem each_of_paired {α β γ : Type} {R : α → β → Prop} {S : γ → α → Prop} : ∀ {xs : List α} {us : List γ} {bs : List β}, Paired R xs bs → Paired (fun x u => S u x) xs us → EachIs (fun u b => ∃ x, S u x ∧ R x b) us bs
  | _, _, _, .nil, .nil => .nil
  | _, _, _, .cons r t, .cons s u => .cons ⟨_, s, r⟩ (each_of_paired t u)
theorem each_mono {α β : Type} {R S : α → β → Prop} (h : ∀ a b, R a b → S a b) : ∀ {us : List α} {bs : List β}, EachIs R us bs → EachIs S us bs
  | _, _, .nil => .nil
  | _, _, .cons r t => .cons (h _ _ r) (each_mono h t)
/-- what the machine's list holds -/
theorem each_back {β : Type} {R : V → β → Prop} (hr : ∀ v b, R v b → ∃ p, v = .ref p) : ∀ {us : List Value} {bs : List β}, EachIs (fun u b => ∃ v, RelV v u ∧ R v b) us bs → ∃ vs, Vals vs us ∧ Paired R vs bs
  | _, _, .nil => ⟨[], .nil, .nil⟩
  | _, _, .cons ⟨v, rv, r⟩ t => let ⟨vs, h1, h2⟩ := each_back hr t; ⟨v :: vs, .cons rv h1, .cons r h2⟩
def rSortedD (K : PySem.W.Frag) : List V → Hp → VK → Prop := fun vs H Q => ∃ (a : Addr) (xs : List V) (β : Type) (bs : List β) (enc : β → PyData) (R : V → β → Prop), vs = [.ref a] ∧ SqL K H a xs ∧ Paired R xs bs ∧ (∀ v b, R v b → ∃ p, v = .ref p) ∧ (∀ v b, R v b → Dp K H v (enc b)) ∧
  AllAlike (bs.map enc) ∧ Sortable (bs.map enc) ∧ (∀ b ∈ bs, (enc b).depth ≤ 60) ∧ ∀ ys p, Paired R ys (bs.mergeSort (dataLe false enc)) → H p = none → Q (.ref p) (upd H p (.lst ys))
section
variable {X : Cx}
theorem cr_sortedD (hu : X.A.units + 64 < cLine) : CallR X (.builtin "sorted") (rSortedD X.K) := by
  intro pins s σ H vs us Q I r h
  obtain ⟨a, xs, β, bs, enc, R, rfl, hs, hp, hr, hd, hal, hk, hdep, q⟩ := h
  obtain ⟨its, rv, hl, hz⟩ := I.list hs
  obtain ⟨u, rfl, ru⟩ := vals1 r
  obtain rfl : u = Value.ref a := ru
  have e : EachIs (fun (u : Value) b => ∃ v, RelV v u ∧ R v b) its bs := each_of_paired (S := fun (u : Value) v => RelV v u) hp rv
  refine PySem.W.sorted_data (enc := enc) hl.isList e (each_mono (fun u b ⟨v, r1, r2⟩ => Dp.reads I (enc b) v u (hd v b r2) r1) e) hal hk (by rw [← e.length, ← rv.length]; exact hz) (fun b hb => by have := hdep b hb; omega) fun out ol oe => ?_
  obtain ⟨ys, y1, y2⟩ := each_back hr oe
  have hol : out.length ≤ sizeLine := by rw [ol, ← e.length, ← rv.length]; exact hz
  have hat := sortedAll_at s.heap its out.toArray
  refine ⟨.ref (s.heap.objs.size + 1), upd H (s.heap.objs.size + 1) (.lst ys), I.laid (t' := s.toks) (fun b o e => sortedAll_old e) (Nat.le_succ _) ⟨?_, out, ?_⟩, rfl, q ys _ y2 (I.hok.fresh (Nat.le_succ _))⟩
  · rw [y1.length]; exact hol
  · exact hat.elim fun n hn => ⟨n, y1, hn⟩
end
end Lt

set_option Elab.async false
set_option linter.all false
set_option maxRecDepth 100000
set_option maxHeartbeats 4000000
/-! sorted(xs, key=lambda x: (len(x[0]), x[0])), x[0] a tuple of numbers -/
namespace Lt
open PySem PySem.Spec PyProof.Rows L2 NdefX LamX LmX
open PySem.W (EachIs AllAlike Sortable dataLe KeyPure)
def keyE (x : Str) (j1 j2 k : Nat) (p1 p2 p3 p4 p5 p6 p7 p8 p9 : Pos) : Expr := .Tuple [.Call (.Name "len" p1) [.Subscript (.Name x p2) (.Constant (.int 0) j1 p3) p4] [] p5, .Subscript (.Name x p6) (.Constant (.int 0) j2 p7) p8] k p9
def keyD (t : List Nat) : PyData := .tuple [.int t.length, dT t]
theorem reads_nats {h : Heap} : ∀ {t : List Nat} {its : List Value}, Vals (nIs t) its → ReadsAll h its (t.map dN) []
  | [], _, .nil => .nil
  | n :: t, _, .cons r s => by
    obtain ⟨k, rfl⟩ := r
    exact .cons (.int _ _) (reads_nats s)
section
variable {X : Cx} {pins : List (Addr × Obj)} {σ : L2.St} {H : Hp} {s : Shared}
theorem name_at {x : Str} {i : Nat} {t : Addr} {E : Value → Shared → Prop} {Q : Value → Shared → Prop} {p1 : Pos} (I : Inv X pins σ H s) (hN : X.N[i]? = some x) (hv : Vis X.env.scope x) (hd : (x == ("__debug__" : Str)) = false) (hcd : (x == ("__classdict__" : Str)) = false) (hσ : σ[i]? = some (some (.ref t)))
    (h : Q (.ref t) s) : wpAny (model X.prog X.w) X.A (eval (.Name x p1) X.env) Q E s := by
  obtain ⟨m, hn, hl⟩ := I.loc
  obtain ⟨u, r, l⟩ := hl i x _ hN hσ hv
  obtain rfl : u = Value.ref t := r
  rcases l with ⟨hk, hm⟩ | ⟨hk | hk, c, hc, hcell⟩
  · exact wpAny_Name (wpAny_loadName_local I.ok.kind hk hn hm h) hd
  · exact wpAny_Name (wpAny_loadName_cell I.ok.kind hk hc hcell h) hd
  · exact wpAny_Name (wpAny_loadName_free I.ok.kind hk hc hcell h hcd) hd
theorem part_at {x : Str} {i : Nat} {t p : Addr} {w : V} {E : Value → Shared → Prop} {Q : Value → Shared → Prop} {j : Nat} {p1 p2 p3 : Pos} (I : Inv X pins σ H s) (hN : X.N[i]? = some x) (hv : Vis X.env.scope x) (hd : (x == ("__debug__" : Str)) = false) (hcd : (x == ("__classdict__" : Str)) = false) (hσ : σ[i]? = some (some (.ref t)))
    (ht : SqT X.K H t [.ref p, w]) (h : ∀ k, Q (.ref p) { s with toks := k }) : wpAny (model X.prog X.w) X.A (eval (.Subscript (.Name x p1) (.Constant (.int 0) j p2) p3) X.env) Q E s := by
  refine Subscript_ (name_at I hN hv hd hcd hσ (wpAny_Constant_int ?_))
  have I2 := I.tok (s.toks + 1)
  obtain ⟨its, r, pl, hz⟩ := I2.tuple ht
  have hl := r.length
  have l2 : its.length = 2 := hl.symm
  obtain ⟨u, e1, e2⟩ : ∃ u, its[0]? = some u ∧ L2.RelV (.ref p) u := r.get (i := 0) rfl
  obtain rfl : u = Value.ref p := e2
  exact subscriptTail_builtinR (x := .ref p) pl.typeIs slot_tuple_getitem.lookup (getItem_tuple (j := 0) pl (by decide) (by decide) (by rw [List.size_toArray, l2]; rfl) (by simpa using e1) ⟨rfl, h _⟩)
theorem key_body {x : Str} {i : Nat} {t p : Addr} {w : V} {tn : List Nat} {E : Value → Shared → Prop} {j1 j2 k : Nat} {p1 p2 p3 p4 p5 p6 p7 p8 p9 : Pos} (I : Inv X pins σ H s) (hN : X.N[i]? = some x) (hv : Vis X.env.scope x) (hd : (x == ("__debug__" : Str)) = false) (hcd : (x == ("__classdict__" : Str)) = false) (hσ : σ[i]? = some (some (.ref t)))
    (gl : Gl X ("len" : Str)) (ml : X.mg "len" = none) (ht : SqT X.K H t [.ref p, w]) (hp : SqT X.K H p (nIs tn)) : wpAny (model X.prog X.w) X.A (eval (keyE x j1 j2 k p1 p2 p3 p4 p5 p6 p7 p8 p9) X.env) (KeyPure (keyD tn) s) E s := by
  refine wpAny_Tuple_spliced ?_
  show wpAny _ _ (spliced ((false, eval (.Call (.Name "len" p1) [.Subscript (.Name x p2) (.Constant (.int 0) j1 p3) p4] [] p5) X.env) :: (false, eval (.Subscript (.Name x p6) (.Constant (.int 0) j2 p7) p8) X.env) :: [])) _ _ _
  refine Calls.spliced_cons (wpAny_Call_Name_kw (ld_blt I gl ml PySem.boot_len (PyProof.Rows.callWith_builtin1 ?_ (by rfl) (by rfl))))
  show wpAny _ _ (spliced ((false, eval (.Subscript (.Name x p2) (.Constant (.int 0) j1 p3) p4) X.env) :: [])) _ _ _
  refine Calls.spliced_cons (part_at I hN hv hd hcd hσ ht fun k1 => Calls.spliced_nil ?_)
  have I3 := I.tok k1
  obtain ⟨its, r, pl, hz⟩ := I3.tuple hp
  have hl := r.length
  rw [nIs_len] at hl
  have hs63 : (its.toArray.size : Int) < 2 ^ 63 := by
    rw [List.size_toArray]
    have h1 : its.length ≤ sizeLine := by rw [← r.length]; exact hz
    rw [sizeLine_eq] at h1
    omega
  refine PyProof.Rows.len_tuple pl hs63 ?_
  have I4 := (I3.tok (k1 + 1)).tok (k1 + 1 + 1)
  refine Calls.spliced_cons (part_at I4 hN hv hd hcd hσ ht fun k2 => Calls.spliced_nil ?_)
  have I5 := I4.tok k2
  obtain ⟨its5, r5, ⟨o5, ho5, hc5, n5, hd5⟩, _⟩ := I5.tuple hp
  refine ⟨by show 2 ≤ sizeLine; decide, _, k2, rfl, fun b o e => Heap.get?_push_of_some _ e, ?_⟩
  refine .tuple (Heap.get?_push_size _ rfl) rfl rfl ?_
  have e1 : its.toArray.size = tn.length := by rw [List.size_toArray, hl]
  have r2 := reads_nats (h := s.heap.push { cls := .type "tuple", data := .seq [Value.int (its.toArray.size : Int) (k1 + 1), Value.ref p].toArray }) r5
  rw [e1]
  refine .cons (.int _ _) (.cons (bs := []) (as := []) (.tuple (Heap.get?_push_of_some _ ho5) hc5 hd5 ?_) .nil)
  rw [e1] at r2
  exact (by simpa using r2)
end
theorem alike_nats : ∀ a b : List Nat, PySem.W.alikeAll (a.map dN) (b.map dN) = true
  | [], _ => by simp [PySem.W.alikeAll]
  | _ :: _, [] => by simp [PySem.W.alikeAll]
  | x :: a, y :: b => by
    rw [List.map_cons, List.map_cons, PySem.W.alikeAll, alike_nats a b]
    rfl
theorem alike_key (a b : List Nat) : PySem.W.alike (keyD a) (keyD b) = true := by
  show (true && (PySem.W.alikeAll (a.map dN) (b.map dN) && true)) = true
  rw [alike_nats]
  rfl
theorem depth_key (a : List Nat) : (keyD a).depth = 2 := by
  show max 0 (max (PyData.depthAll (a.map dN) + 1) 0) + 1 = 2
  rw [depth_nats]
  rfl
def rSortedK (K : PySem.W.Frag) (q : Str) (params : Arguments) (scope : Scope) (cells : List (Str × Addr)) (body : Expr) : List V → List V → Hp → VK → Prop := fun vs zs H Q => ∃ (a f c' : Addr) (xs : List V) (β : Type) (bs : List β) (key : β → List Nat) (R : V → β → Prop), vs = [.ref a] ∧ zs = [.ref f] ∧ SqL K H a xs ∧ Paired R xs bs ∧
  (∀ v b, R v b → ∃ t p w, v = .ref t ∧ SqT K H t [.ref p, w] ∧ SqT K H p (nIs (key b))) ∧ H f = some (LmO f (lmF q params scope cells c') body .none) ∧ H c' = some (CodeO c' q) ∧
  ∀ ys p, Paired R ys (bs.mergeSort (dataLe false fun b => keyD (key b))) → H p = none → Q (.ref p) (upd H p (.lst ys))
section
variable {X : Cx}
theorem cr_sortedK {q x : Str} {params : Arguments} {scope : Scope} {body : Expr} {N : List Str} {j1 j2 k : Nat} {p1 p2 p3 p4 p5 p6 p7 p8 p9 : Pos} (hb : body = keyE x j1 j2 k p1 p2 p3 p4 p5 p6 p7 p8 p9) (S : NScope N [x] [] scope) (hN : N[0]? = some x) (hd : (x == ("__debug__" : Str)) = false) (hcd : (x == ("__classdict__" : Str)) = false)
    (gl : scope.names.lookup ("len" : Str) = some .globalImplicit) (ml : X.mg "len" = none) (cp : X.Ok → Caps X (cloFrom X.env.cells scope.names []) [] []) (hr : Room 4 X.A)
    (hbi : ∀ (s : Shared) (F : NF) (doc pm ctv u : Value), F.params = params → BindsTo s (lmFd F body .none doc pm ctv) ⟨[u], []⟩ ([x].zip [u])) :
    CallRK X (.builtin "sorted") ["key"] (rSortedK X.K q params scope X.env.cells body) := by
  subst hb
  intro pins s σ H vs zs us ws Q I rv rz h
  obtain ⟨a, f, c', xs, β, bs, key, R, rfl, rfl, hs, hp, hR, hf, hc, qq⟩ := h
  obtain ⟨its, ri, hl, hz⟩ := I.list hs
  obtain ⟨u, rfl, ru⟩ := vals1 rv
  obtain rfl : u = Value.ref a := ru
  obtain ⟨u2, rfl, ru2⟩ := vals1 rz
  obtain rfl : u2 = Value.ref f := ru2
  have hu := hr.units
  have e : EachIs (fun (u : Value) b => ∃ v, RelV v u ∧ R v b) its bs := each_of_paired (S := fun (u : Value) v => RelV v u) hp ri
  have hbl : bs.length ≤ sizeLine := by rw [← e.length, ← ri.length]; exact hz
  show wpAny _ _ (call (.builtin "sorted") [.ref a] [(Str.ofString "key", .ref f)]) _ _ s
  refine PySem.W.sorted_key_data (b := false) (f := .ref f) (fun b => keyD (key b)) hl.isList e (fun d hd d' hd' => ?_) (.inl fun d hd => ?_) hbl (fun b _ => ?_) (PyProof.Rows.ksk_s1 _ _) (fun _ => PyProof.Rows.ksk_l1 _ _) (fun _ => PyProof.Rows.ksk_t1 _ _) (fun v b hv hb' h' tk kp => ?_) fun out c h' tk kp fr hat hol oe => ?_
  · obtain ⟨b, _, rfl⟩ := List.mem_map.mp hd
    obtain ⟨b', _, rfl⟩ := List.mem_map.mp hd'
    exact alike_key _ _
  · obtain ⟨b, _, rfl⟩ := List.mem_map.mp hd
    exact ⟨_, _, rfl⟩
  · have z := depth_key (key b)
    show X.A.units + 2 + (keyD (key b)).depth < cLine
    omega
  · obtain ⟨v', rv', hR'⟩ := hv
    obtain ⟨t, p, w, rfl, ht, hpp⟩ := hR v' b hR'
    obtain rfl : v = Value.ref t := rv'
    have I1 : Inv X pins σ H { s with heap := h', toks := tk } := I.kept kp
    obtain ⟨od, sl, doc, pm, ctv, ho⟩ := lmO_at I1.hok hf
    have C := cells_of I1 (cp I1.ok)
    have e0 := I1.env0.in1.in1
    have hr2 : Room 2 X.A.in1.in1 := hr.in1.in1
    have rc : codeAny (model X.prog X.w) X.A.in1.in1 (.call (.ref f) ⟨[.ref t], []⟩) (fun r s2 => match r with | .error _ => False | .ok (.ret u) => KeyPure (keyD (key b)) { s with heap := h', toks := tk } u s2 | .ok _ => False) { s with heap := h', toks := tk } := by
      refine PySem.W.kla_callFunE hr2.depth ho rfl S.co S.gen rfl (codeO_at I1.hok hc) (hbi _ _ doc pm ctv _ rfl _ _ _ _ ?_)
      refine wpAny_newFunctionEnv S.nocell (fun ⟨n, _⟩ hy => S.par n (List.of_mem_zip hy).1) (fun h₁ hns hsb => ⟨I1.nolimit.fresh _ hsb, ?_⟩) S.kind
      show codeAny _ _ (.expr (keyE x j1 j2 k p1 p2 p3 p4 p5 p6 p7 p8 p9) (envF (lmF q params scope X.env.cells c') f h'.objs.size)) _ _
      have kp1 : ∀ b o, h'.get? b = some o → h₁.get? b = some o := fun b o q => hsb.extBut b o (Nat.ne_of_lt (Heap.lt_size q)) (Heap.get?_push_of_some _ q)
      have J := inv_startN (CX := C8.CX0) (E := C8.E0) (f := f) (N := N) (F := lmF q params scope X.env.cells c') (vs := [V.ref t]) (us := [Value.ref t]) (tk := tk + ([x].zip [Value.ref t]).length) S hr2.hd e0 rfl (.cons rfl .nil) C hns kp1
      refine PySem.W.kla_codeExpr (wpAny_mono (key_body (i := 0) J hN (.inl (S.par x List.mem_cons_self)) hd hcd rfl gl ml ht hpp) (fun v s' hq => ?_) fun e s' hq => hq)
      obtain ⟨h2, tk2, e2, k2, r2⟩ := hq
      exact ⟨h2, tk2, e2, fun b o q => k2 b o (kp1 b o q), r2⟩
    refine wpAny_call (codeAny_mono rc fun o s' hq => ?_)
    rcases o with e | fl
    · exact hq.elim
    · cases fl with
      | ret u => exact hq
      | next => exact hq.elim
      | brk => exact hq.elim
      | cont => exact hq.elim
  · have hbr : ∀ v b, R v b → ∃ p, v = V.ref p := fun v b r => let ⟨t, _, _, e, _⟩ := hR v b r; ⟨t, e⟩
    obtain ⟨ys, y1, y2⟩ := each_back hbr oe
    refine ⟨.ref (s.heap.objs.size + 1), upd H (s.heap.objs.size + 1) (.lst ys), I.laid (t' := tk) kp (Nat.le_succ _) ⟨?_, out, c, y1, hat⟩, rfl, qq ys _ y2 (I.hok.fresh (Nat.le_succ _))⟩
    rw [y1.length, hol]; exact hbl
end
end Lt

set_option Elab.async false
set_option linter.all false
set_option maxRecDepth 100000
set_option maxHeartbeats 2000000
/-! zip of a list and a tuple; max(xs, default=None) -/
namespace Lt
open PySem PySem.Spec PyProof.Rows L2
/-- the list at a, the tuple at b -/
def ItzM (K : PySem.W.Frag) (a b : Addr) : It :=
  ⟨fun i H => ∃ (xs ys : List V) (x y : V), SqL K H a xs ∧ SqT K H b ys ∧ xs[i]? = some x ∧ ys[i]? = some y,
    fun i H v H' => ∃ T x y, v = .ref T ∧ H T = none ∧ H' = upd H T (.tup [x, y]) ∧ (∀ xs, SqL K H a xs → xs[i]? = some x) ∧ ∀ ys, SqT K H b ys → ys[i]? = some y,
    fun i H => ∃ xs ys : List V, SqL K H a xs ∧ SqT K H b ys ∧ i = min xs.length ys.length⟩
theorem turn_zipM {P : Program} {w : World} {K : PySem.W.Frag} {elts : List Expr} {kk : Nat} {tpos : Pos} {a b z TI TO i1 i2 : Addr} (S : ZipSep2 z TI TO i1 i2 [i1, a] [i2, b]) (ha : a ≠ i1) (hb : b ≠ i2) :
    Turn P w K (.Tuple elts kk tpos) (ItzM K a b) [z, TI, TO, i1, i2] z (fun i h => IsZip h z TI TO .none ∧ IsTupOf2 h TI (.ref i1) (.ref i2) ∧ (∃ x y, IsTupOf2 h TO x y) ∧ h.IsListIter i1 a i ∧ h.IsTupleIter i2 b i) where
  mem := by simp
  obj := fun i h st c hc => by
    obtain ⟨hz, hTI, ⟨x, y, hTO⟩, ⟨o1, e1, _, d1⟩, ⟨o2, e2, _, d2⟩⟩ := st
    have e' : c = z ∨ c = TI ∨ c = TO ∨ c = i1 ∨ c = i2 := by simpa using hc
    rcases e' with q | q | q | q | q
    · rw [q]; exact ⟨_, hz, fun v q => nomatch q⟩
    · rw [q]; exact ⟨_, hTI, fun v q => nomatch q⟩
    · rw [q]; exact ⟨_, hTO, fun v q => nomatch q⟩
    · rw [q]; exact ⟨o1, e1, fun v q => by rw [d1] at q; cases q⟩
    · rw [q]; exact ⟨o2, e2, fun v q => by rw [d2] at q; cases q⟩
  keep := fun i h h' st k => by
    obtain ⟨hz, hTI, ⟨x, y, hTO⟩, h1, h2⟩ := st
    exact ⟨k z (by simp) _ hz, k TI (by simp) _ hTI, ⟨x, y, k TO (by simp) _ hTO⟩, h1.at fun o q => k i1 (by simp) o q, h2.at fun o q => k i2 (by simp) o q⟩
  item := by
    intro X hP hw hK hc i pins s σ H E I hf st hg
    subst hP hw hK
    obtain ⟨hz, hTI, hTO, h1, h2⟩ := id st
    obtain ⟨xs, ys, x, y, hqx, hqy, hx, hy⟩ := hg
    obtain ⟨its, rv, p, _⟩ := I.list hqx
    obtain ⟨its2, rv2, p2, _⟩ := I.tuple hqy
    obtain ⟨u, hu, ru⟩ := rv.get hx
    obtain ⟨u2, hu2, ru2⟩ := rv2.get hy
    have hh : X.A.in1.handled = none := I.ok.hd hc
    have l1 := (List.getElem?_eq_some_iff.mp hu).1
    have l2 := (List.getElem?_eq_some_iff.mp hu2).1
    have W := WalksT.zipD2 (prog := X.prog) (w := X.w) (A := X.A) S (Draws.list hh i1 a ha its.toArray) (Draws.tuple hh i2 b hb its2.toArray)
    refine W.item i s _ E (by simp; omega) ⟨hz, hTI, hTO, ⟨h1, p.isList⟩, ⟨h2, p2⟩⟩ fun T vals h' tk hv hle hT mid kx => ⟨.ref T, rfl, W.go elts kk tpos i T _ _ E mid fun h'' st' k2 => ?_⟩
    obtain ⟨x1, x2, e1, e2, rfl⟩ := hv
    have hx1 : x1 = u := by
      have e1 : its.toArray[i]? = some x1 := e1
      rw [List.getElem?_toArray, hu] at e1
      exact (Option.some.inj e1).symm
    have hx2 : x2 = u2 := by
      have e2 : its2.toArray[i]? = some x2 := e2
      rw [List.getElem?_toArray, hu2] at e2
      exact (Option.some.inj e2).symm
    subst hx1 hx2
    have hTw := W.apart i T h' mid
    have hT2 : h''.IsTuple T #[x1, x2] := hT.at fun o e => k2 T o hTw e
    obtain ⟨z', TI', TO', ⟨h1', _⟩, ⟨h2', _⟩⟩ := st'
    have fr : H T = none := I.hok.fresh hle
    have sub : ∀ c, c ∉ [z, TI, TO, i1, i2] → c ∉ [z, TO, i1, i2] := fun c hc hm => hc (by
      have e' : c = z ∨ c = TO ∨ c = i1 ∨ c = i2 := by simpa using hm
      simp
      rcases e' with q | q | q | q <;> simp [q])
    have I1 : Inv X pins σ (upd H T (.tup [x, y])) { s with heap := h'', toks := tk } :=
      I.turnedNew (t' := tk) (ch := [z, TI, TO, i1, i2]) (fun c o hb q => k2 c o (sub c hb) (kx c o (sub c hb) q)) hf hle ⟨by show 2 ≤ sizeLine; decide, [x1, x2], .cons ru (.cons ru2 .nil), hT2⟩
    refine ⟨.ref T, _, I1, rfl, ⟨_, x, y, rfl, fr, rfl, fun l hl => by rw [I.list_inj hl hqx]; exact hx, fun l hl => by rw [I.tuple_inj hl hqy]; exact hy⟩, ⟨z', TI', TO', h1', h2'⟩, fun c hcm => ?_⟩
    have hlt : c < s.heap.objs.size := by
      obtain ⟨_, _, hTO⟩ := hTO
      have e' : c = z ∨ c = TI ∨ c = TO ∨ c = i1 ∨ c = i2 := by simpa using hcm
      rcases e' with q | q | q | q | q
      · rw [q]; exact Heap.lt_size hz
      · rw [q]; exact Heap.lt_size hTI
      · rw [q]; exact Heap.lt_size hTO
      · rw [q]; obtain ⟨_, e1, _⟩ := h1; exact Heap.lt_size e1
      · rw [q]; obtain ⟨_, e2, _⟩ := h2; exact Heap.lt_size e2
    rw [upd_ne (Nat.ne_of_lt (Nat.lt_of_lt_of_le hlt hle))]
    exact (hf c hcm).1
  done := by
    intro X hP hw hK hc i pins s σ H E I hf st hg
    subst hP hw hK
    obtain ⟨hz, hTI, hTO, h1, h2⟩ := id st
    obtain ⟨xs, ys, hqx, hqy, hend⟩ := hg
    obtain ⟨its, rv, p, _⟩ := I.list hqx
    obtain ⟨its2, rv2, p2, _⟩ := I.tuple hqy
    have hh : X.A.in1.handled = none := I.ok.hd hc
    have W := WalksT.zipD2 (prog := X.prog) (w := X.w) (A := X.A) S (Draws.list hh i1 a ha its.toArray) (Draws.tuple hh i2 b hb its2.toArray)
    have en : i = min its.toArray.size its2.toArray.size := by
      rw [List.size_toArray, List.size_toArray, ← rv.length, ← rv2.length]
      exact hend
    refine W.done s _ E ?_ fun h' tk kk => ⟨rfl, I.turnedL (t' := tk) (ch := [z, TI, TO, i1, i2]) (fun c o hb q => kk c o (fun hm => hb ?_) q) hf⟩
    · rw [← en]
      exact ⟨hz, hTI, hTO, ⟨h1, p.isList⟩, ⟨h2, p2⟩⟩
    · have e' : c = z ∨ c = TO ∨ c = i1 ∨ c = i2 := by simpa using hm
      simp
      rcases e' with q | q | q | q <;> simp [q]
  self := fun A i s Q E st h => wpAny_pyIter_zip st.1 h
def iZipM (K : PySem.W.Frag) (ta : TA) : TI := fun σ H R => ta σ H fun vs H1 => ∃ a b xs ys, vs = [.ref a, .ref b] ∧ SqL K H1 a xs ∧ SqT K H1 b ys ∧ R (ItzM K a b) H1
theorem pi_zipM {X : Cx} {e e2 : Expr} {ta : TA} {p pos tpos : Pos} {elts : List Expr} {kk : Nat} (hg : Gl X "zip") (hm : X.mg "zip" = none) (ha : PA X [e, e2] ta)
    (hs : starEach [e, e2] X.env = (false, eval e X.env) :: starEach [e2] X.env := by rfl) (hpl : (backTo pos (starEach [e2] X.env)).any (·.1) = false := by rfl) :
    PI X (.Tuple elts kk tpos) (.Call (.Name "zip" p) [e, e2] [] pos) (iZipM X.K ta) := by
  refine ⟨fun pins s σ H R I h => ?_⟩
  refine Call_ (ld_blt I hg hm PyProof.Rows.boot_zip (PyProof.Rows.callWith_type1 (thn (ha.run pos pins s σ H _ I h) fun us s1 ⟨vs, H1, I1, r1, q1⟩ => ?_) hs hpl))
  obtain ⟨a, b, xs, ys, ex, hqx, hqy, q⟩ := q1
  subst ex
  obtain ⟨v1, v2, rfl, e1, e2⟩ := vals2 r1
  obtain rfl : v1 = Value.ref a := e1
  obtain rfl : v2 = Value.ref b := e2
  obtain ⟨its, rv, p1, _⟩ := I1.list hqx
  obtain ⟨its2, rv2, p2, _⟩ := I1.tuple hqy
  obtain ⟨o2, ho2, _⟩ := id p2
  have la : a < s1.heap.objs.size := p1.lt
  have lb : b < s1.heap.objs.size := Heap.lt_size ho2
  refine zip_begins2 (begins_list a its.toArray) (begins_tuple b its2.toArray) p1.isList p2 fun h' hz hTI hTO g1 g2 hsz hk => wpAny_pyIter_zip hz ?_
  have I2 : Inv X pins σ H1 { s1 with heap := h' } := I1.kept (t' := s1.toks) hk
  have F : ∀ c, c ∈ [s1.heap.objs.size + 4, s1.heap.objs.size + 2, s1.heap.objs.size + 3, s1.heap.objs.size, s1.heap.objs.size + 1] → FpOk X pins H1 c := fun c hcm => by
    have e' : c = s1.heap.objs.size + 4 ∨ c = s1.heap.objs.size + 2 ∨ c = s1.heap.objs.size + 3 ∨ c = s1.heap.objs.size ∨ c = s1.heap.objs.size + 1 := by simpa using hcm
    have hle : s1.heap.objs.size ≤ c := by
      rcases e' with z | z | z | z | z
      · rw [z]; exact Nat.le_add_right _ _
      · rw [z]; exact Nat.le_add_right _ _
      · rw [z]; exact Nat.le_add_right _ _
      · rw [z]; exact Nat.le_refl _
      · rw [z]; exact Nat.le_add_right _ _
    exact I1.fpOk hle (I1.hok.fresh hle)
  exact ⟨s1.heap.objs.size + 4, [s1.heap.objs.size + 4, s1.heap.objs.size + 2, s1.heap.objs.size + 3, s1.heap.objs.size, s1.heap.objs.size + 1], _, _, H1, rfl, I2,
    turn_zipM (zip_sep2 (N := s1.heap.objs.size) (fp1 := [a]) (fp2 := [b]) (fun c hc => by rw [List.mem_singleton.mp hc]; exact la) (fun c hc => by rw [List.mem_singleton.mp hc]; exact lb)) (Nat.ne_of_lt la) (Nat.ne_of_lt (Nat.lt_succ_of_lt lb)),
    ⟨hz, hTI, ⟨_, _, hTO⟩, ⟨_, g1, rfl, rfl⟩, ⟨_, g2, rfl, rfl⟩⟩, F, q⟩
theorem for_zipM {K : PySem.W.Frag} {a b : Addr} {xs ys : List V} {g : TG} {tb : TS} {D : Ends} {σ : L2.St} {H : Hp} (hl : xs.length = ys.length) (Pv : Nat → L2.St → Hp → Prop) (h0 : Pv 0 σ H) (hq : ∀ i σ H, Pv i σ H → SqL K H a xs ∧ SqT K H b ys)
    (hs : ∀ (i : Nat) (x y : V) (T : Addr) (σ : L2.St) (H : Hp), xs[i]? = some x → ys[i]? = some y → Pv i σ H → H T = none → g (.ref T) σ (upd H T (.tup [x, y])) fun σ2 H2 => tb { D with nx := Pv (i + 1), ct := Pv (i + 1), bk := D.nx } σ2 H2) (hd : ∀ σ H, Pv xs.length σ H → D.nx σ H) :
    ∃ W : Nat → Nat → L2.St → Hp → Prop, (∃ m, W 0 m σ H) ∧ ∀ i m σ H, W i m σ H →
      ((ItzM K a b).stop i H ∧ D.nx σ H) ∨ ((ItzM K a b).go i H ∧ ∃ N : L2.St → Hp → Prop, (∀ σ' H', N σ' H' → ∃ m', m' < m ∧ W (i + 1) m' σ' H') ∧ ∀ v H', (ItzM K a b).yld i H v H' → g v σ H' fun σ2 H2 => tb { D with nx := N, ct := N, bk := D.nx } σ2 H2) := by
  refine ⟨fun i m σ H => m = xs.length - i ∧ i ≤ xs.length ∧ Pv i σ H, ⟨xs.length, rfl, Nat.zero_le _, h0⟩, ?_⟩
  rintro i m σ H ⟨rfl, hi, p⟩
  obtain ⟨qx, qy⟩ := hq i σ H p
  by_cases hlt : i < xs.length
  · refine .inr ⟨⟨xs, ys, _, _, qx, qy, List.getElem?_eq_getElem hlt, List.getElem?_eq_getElem (by omega)⟩, Pv (i + 1), fun σ' H' p' => ⟨xs.length - (i + 1), by omega, rfl, hlt, p'⟩, fun v H' y => ?_⟩
    obtain ⟨T, x', y', rfl, hT, rfl, f1, f2⟩ := y
    exact hs i x' y' T σ H (f1 xs qx) (f2 ys qy) p hT
  · have e : i = xs.length := by omega
    subst e
    exact .inl ⟨⟨xs, ys, qx, qy, by omega⟩, hd σ H p⟩
/-! ### max(xs, default=None) -/
def rMaxDN (K : PySem.W.Frag) : List V → List V → Hp → VK → Prop := fun vs zs H Q => ∃ (a : Addr) (ns : List Nat), vs = [.ref a] ∧ zs = [.non] ∧ SqL K H a (nIs ns) ∧ Q (if ns = [] then .non else nI (ns.foldl max 0)) H
theorem foldl_max_cast : ∀ (ns : List Nat) (n : Nat), (ns.map fun (k : Nat) => (k : Int)).foldl max (n : Int) = ((ns.foldl max n : Nat) : Int)
  | [], n => rfl
  | m :: ns, n => by
    rw [List.map_cons, List.foldl_cons, List.foldl_cons, ← foldl_max_cast ns (max n m)]
    congr 1
    omega
theorem alk_mx (ns : List Nat) : PySem.W.AlikeAll (ns.map dN) := ⟨fun x hx y hy => by
  obtain ⟨a, _, rfl⟩ := List.mem_map.mp hx
  obtain ⟨b, _, rfl⟩ := List.mem_map.mp hy
  rfl, fun x hx => by
  obtain ⟨a, _, rfl⟩ := List.mem_map.mp hx
  intro z
  cases z⟩
theorem dep_mx : ∀ ns : List Nat, PyData.depthAll (ns.map dN) = 0
  | [] => rfl
  | n :: ns => by
    show max 0 (PyData.depthAll (ns.map dN)) = 0
    rw [dep_mx ns]
    rfl
theorem map_dN (ns : List Nat) : ns.map dN = (ns.map fun (k : Nat) => (k : Int)).map PyData.int := by
  rw [List.map_map]
  rfl
theorem cr_maxDN {X : Cx} (hc : X.calm = true) (hu : X.A.units + 1 < cLine) : CallRK X (.builtin "max") [Str.ofString "default"] (rMaxDN X.K) := by
  intro pins s σ H vs zs us ws Q I r rz h
  obtain ⟨a, ns, rfl, rfl, hs, q⟩ := h
  obtain rfl := Vals.ref1 r
  obtain ⟨w1, rfl, e1⟩ := vals1 rz
  obtain rfl : w1 = Value.none := e1
  obtain ⟨its, rv, hl, _⟩ := I.list hs
  have hd := dep_mx ns
  refine PySem.W.max_list_default (xs := ns.map dN) (as := []) (I.ok.hd hc) hl.isList (reads_nats rv) (alk_mx ns) (by rw [hd]; exact hu) (fun e h' tk kp => ?_) fun y ys i v h' tk bs e hv rd kp => ?_
  · have e : ns = [] := List.map_eq_nil_iff.mp e
    rw [if_pos e] at q
    exact ⟨.non, H, I.kept kp, rfl, q⟩
  · cases ns with
    | nil => cases e
    | cons n ns =>
      rw [List.map_cons] at e
      injection e with e1 e2
      subst e1 e2
      rw [if_neg (fun z => by cases z)] at q
      have e3 : PySem.W.maxD (dN n) (ns.map dN) = .int (((n :: ns).foldl max 0 : Nat) : Int) := by
        rw [map_dN]
        refine (PySem.W.maxD_ints (n : Int) _).trans ?_
        rw [foldl_max_cast, List.foldl_cons, Nat.zero_max]
      rw [e3] at rd
      cases rd with
      | int => exact ⟨nI _, H, I.kept kp, ⟨_, rfl⟩, q⟩
end Lt

set_option Elab.async false
set_option linter.all false
set_option maxRecDepth 100000
set_option maxHeartbeats 1000000
/-! the order of a polynomial's parts -/
namespace Lt
open PySem PySem.Spec PyProof.Rows L2 PySem.W
def kcL : List Nat := [0, 1, 2, 7, 3, 8, 12, 22, 4, 9, 13, 23, 16, 26, 32, 42, 5, 10, 14, 24, 17, 27, 33, 43, 19, 29, 35, 45, 38, 48, 52, 57, 6, 11, 15, 25, 18, 28, 34, 44, 20, 30, 36, 46, 39, 49, 53, 58, 21, 31, 37, 47, 40, 50, 54, 59, 41, 51, 55, 60, 56, 61, 62, 63]
def kc (t : Nat) : Nat := kcL.getD t 0
abbrev Sg := Int ⊕ List Nat
def keyA (t : Nat) : List Sg := .inl 1 :: .inl (insOf t).length :: .inl 1 :: keyToks (dT (insOf t))
def diffIn : List Sg → List Sg → Bool
  | x :: r, y :: t => if x = y then diffIn r t else true
  | _, _ => false
theorem lex_in : ∀ {a b : List Sg} (x y : List Sg), diffIn a b = true → lexLt itemOrd (a ++ x) (b ++ y) = lexLt itemOrd a b
  | [], _, _, _, h => by cases h
  | _ :: _, [], _, _, h => by cases h
  | p :: a, q :: b, x, y, h => by
    rw [List.cons_append, List.cons_append]
    by_cases e : p = q
    · subst e
      unfold diffIn at h
      rw [if_pos rfl] at h
      rw [lex_self (O := itemOrd), lex_self (O := itemOrd)]
      exact lex_in x y h
    · rw [lex_diff (O := itemOrd) e, lex_diff (O := itemOrd) e]
def okPair (t u : Nat) : Bool := t == u || (diffIn (keyA t) (keyA u) && (lexLt itemOrd (keyA t) (keyA u) == decide (kc t < kc u)) && !(kc t == kc u))
theorem okAll : ((List.range 64).all fun t => (List.range 64).all fun u => okPair t u) = true := by decide +kernel
theorem ok_at {t u : Nat} (ht : t < 64) (hu : u < 64) (hn : t ≠ u) : diffIn (keyA t) (keyA u) = true ∧ lexLt itemOrd (keyA t) (keyA u) = decide (kc t < kc u) ∧ kc t ≠ kc u := by
  have h := List.all_eq_true.mp (List.all_eq_true.mp okAll t (List.mem_range.mpr ht)) u (List.mem_range.mpr hu)
  unfold okPair at h
  rw [Bool.or_eq_true] at h
  rcases h with h | h
  · exact absurd (by simpa using h) hn
  · simp only [Bool.and_eq_true, beq_iff_eq, Bool.not_eq_true', beq_eq_false_iff_ne] at h
    exact ⟨h.1.1, h.1.2, h.2⟩
theorem kc_inj {t u : Nat} (ht : t < 64) (hu : u < 64) (e : kc t = kc u) : t = u := by
  by_cases h : t = u
  · exact h
  · exact absurd e (ok_at ht hu h).2.2
/-- a key with the length and the part in front -/
theorem le_of_key {enc : Nat → PyData} {tl : Nat → List Sg} (he : ∀ t, keyToks (enc t) = keyA t ++ tl t) {t u : Nat} (ht : t < 64) (hu : u < 64) : dataLe false enc t u = decide (kc t ≤ kc u) := by
  show (!lexLt itemOrd (keyToks (enc u)) (keyToks (enc t))) = _
  by_cases h : u = t
  · subst h
    have : lexLt itemOrd (keyToks (enc u)) (keyToks (enc u)) = false := (listOrd itemOrd).irrefl _
    rw [this, decide_eq_true (Nat.le_refl _)]
    rfl
  · obtain ⟨h1, h2, h3⟩ := ok_at hu ht h
    rw [he, he, lex_in _ _ h1, h2, ← decide_not]
    congr 1
    exact propext Nat.not_lt
/-- the encodings of both sides -/
def encT (g : Nat → Int) (t : Nat) : PyData := .tuple [.int (insOf t).length, dT (insOf t), .int (g t)]
theorem encT_key (g : Nat → Int) (t : Nat) : keyToks (encT g t) = keyA t ++ [.inl 1, .inl (g t), .inl 0] := by
  show Sum.inl 1 :: (keyToks (.int (insOf t).length) ++ (Sum.inl 1 :: (keyToks (dT (insOf t)) ++ (Sum.inl 1 :: (keyToks (.int (g t)) ++ [Sum.inl 0]))))) = _
  show Sum.inl 1 :: Sum.inl _ :: Sum.inl 1 :: (keyToks (dT (insOf t)) ++ (Sum.inl 1 :: Sum.inl (g t) :: [Sum.inl 0])) = _
  rfl
theorem keyD_key (t : Nat) : keyToks (keyD (insOf t)) = keyA t ++ [.inl 0] := by
  show Sum.inl 1 :: (keyToks (.int (insOf t).length) ++ (Sum.inl 1 :: (keyToks (dT (insOf t)) ++ [Sum.inl 0]))) = _
  rfl
/-- sorted by such keys and chosen, or chosen and sorted -/
theorem sorted_alike {enc enc' : Nat → PyData} {tl tl' : Nat → List Sg} (he : ∀ t, keyToks (enc t) = keyA t ++ tl t) (he' : ∀ t, keyToks (enc' t) = keyA t ++ tl' t) (p : Nat → Bool) {N : Nat} (hN : N ≤ 64) :
    ((List.range N).mergeSort (dataLe false enc)).filter p = ((List.range N).filter p).mergeSort (dataLe false enc') := by
  have T1 := sortLe_total (listOrd itemOrd) false fun t => keyToks (enc t)
  have T2 := sortLe_total (listOrd itemOrd) false fun t => keyToks (enc' t)
  have m1 : ∀ x ∈ ((List.range N).mergeSort (dataLe false enc)).filter p, x < 64 := fun x hx => by
    have := List.mem_mergeSort.mp (List.mem_filter.mp hx).1
    have := List.mem_range.mp this
    omega
  have m2 : ∀ x ∈ ((List.range N).filter p).mergeSort (dataLe false enc'), x < 64 := fun x hx => by
    have := (List.mem_filter.mp (List.mem_mergeSort.mp hx)).1
    have := List.mem_range.mp this
    omega
  have p1 : (((List.range N).mergeSort (dataLe false enc)).filter p).Perm ((List.range N).filter p) := (List.mergeSort_perm _ _).filter p
  have p2 : (((List.range N).filter p).mergeSort (dataLe false enc')).Perm ((List.range N).filter p) := List.mergeSort_perm _ _
  have s1 : (((List.range N).mergeSort (dataLe false enc)).filter p).Pairwise (fun a b => kc a ≤ kc b) := by
    have h := (List.pairwise_mergeSort (le := dataLe false enc) T1.trans (fun a b => by rw [Bool.or_eq_true]; exact T1.total a b) (List.range N)).filter p
    exact h.imp_of_mem fun ha hb e => by
      rw [le_of_key he (m1 _ ha) (m1 _ hb)] at e
      exact of_decide_eq_true e
  have s2 : (((List.range N).filter p).mergeSort (dataLe false enc')).Pairwise (fun a b => kc a ≤ kc b) := by
    have h := List.pairwise_mergeSort (le := dataLe false enc') T2.trans (fun a b => by rw [Bool.or_eq_true]; exact T2.total a b) ((List.range N).filter p)
    exact h.imp_of_mem fun ha hb e => by
      rw [le_of_key he' (m2 _ ha) (m2 _ hb)] at e
      exact of_decide_eq_true e
  exact List.Perm.eq_of_pairwise (fun a b ha hb h1 h2 => kc_inj (m1 a ha) (m2 b hb) (Nat.le_antisymm h1 h2)) s1 s2 (p1.trans p2.symm)
end Lt

set_option Elab.async false
set_option linter.all false
set_option maxRecDepth 100000
set_option maxHeartbeats 1000000
/-! the factors of a polynomial: differences, one input after the other, and sums over what lies within -/
namespace Lt
open PySem PySem.Spec PyProof.Rows L2
/-- the program's: after the first k inputs -/
def Gm (p : Int) (f : Nat → Int) : Nat → Nat → Int
  | 0, t => f t
  | k + 1, t => if t / 2 ^ k % 2 = 1 then (Gm p f k t - Gm p f k (t - 2 ^ k)) % p else Gm p f k t
def Tw : Nat → (Nat → Int) → Nat → Int
  | 0, f, _ => f 0
  | k + 1, f, t => if t / 2 ^ k % 2 = 1 then Tw k (fun s => f (2 ^ k + s)) t - Tw k f t else Tw k f t
theorem bit_high {j k t : Nat} (h : j < k) : (2 ^ k + t) / 2 ^ j % 2 = t / 2 ^ j % 2 := by
  obtain ⟨d, rfl⟩ : ∃ d, k = j + (d + 1) := ⟨k - j - 1, by omega⟩
  rw [Nat.pow_add, Nat.mul_add_div (Nat.two_pow_pos j), Nat.pow_succ]
  omega
theorem Gm_shift (p : Int) : ∀ (k j : Nat) (f : Nat → Int) (t : Nat), k ≤ j → Gm p f k (2 ^ j + t) = Gm p (fun s => f (2 ^ j + s)) k t
  | 0, j, f, t, _ => rfl
  | k + 1, j, f, t, h => by
    unfold Gm
    rw [bit_high (show k < j by omega)]
    split
    · rename_i hb
      have hle : 2 ^ k ≤ t := by
        by_cases z : t < 2 ^ k
        · rw [Nat.div_eq_of_lt z] at hb; omega
        · omega
      have e : 2 ^ j + t - 2 ^ k = 2 ^ j + (t - 2 ^ k) := Nat.add_sub_assoc hle _
      rw [e, Gm_shift p k j f t (by omega), Gm_shift p k j f (t - 2 ^ k) (by omega)]
    · exact Gm_shift p k j f t (by omega)
theorem Tm_shift : ∀ (k j : Nat) (f : Nat → Int) (t : Nat), k ≤ j → Tw k f (2 ^ j + t) = Tw k f t
  | 0, j, f, t, _ => rfl
  | k + 1, j, f, t, h => by
    unfold Tw
    rw [bit_high (show k < j by omega), Tm_shift k j _ t (by omega), Tm_shift k j f t (by omega)]
theorem split_bit {k t : Nat} (ht : t < 2 ^ (k + 1)) (hb : t / 2 ^ k % 2 = 1) : ∃ u, u < 2 ^ k ∧ t = 2 ^ k + u := by
  have hp := Nat.two_pow_pos k
  have hle : 2 ^ k ≤ t := by
    by_cases z : t < 2 ^ k
    · rw [Nat.div_eq_of_lt z] at hb; omega
    · omega
  rw [Nat.pow_succ] at ht
  exact ⟨t - 2 ^ k, by omega, by omega⟩
theorem low_bit {k t : Nat} (ht : t < 2 ^ (k + 1)) (hb : ¬ t / 2 ^ k % 2 = 1) : t < 2 ^ k := by
  by_cases z : t < 2 ^ k
  · exact z
  · rw [Nat.pow_succ] at ht
    have h1 : t / 2 ^ k = 1 := by
      refine Nat.div_eq_of_lt_le (by omega) (by omega)
    rw [h1] at hb
    exact absurd rfl hb
theorem Gm_Tm (p : Int) : ∀ (k : Nat) (f : Nat → Int) (t : Nat), t < 2 ^ k → Gm p f k t % p = Tw k f t % p
  | 0, f, t, h => by
    have : t = 0 := by
      have : t < 1 := h
      omega
    subst this
    rfl
  | k + 1, f, t, h => by
    unfold Gm Tw
    split
    · rename_i hb
      obtain ⟨u, hu, rfl⟩ := split_bit h hb
      have e : 2 ^ k + u - 2 ^ k = u := by omega
      rw [e, Gm_shift p k k f u (Nat.le_refl _), Tm_shift k k _ u (Nat.le_refl _), Tm_shift k k f u (Nat.le_refl _), Int.emod_emod_of_dvd _ (Int.dvd_refl p), Int.sub_emod, Gm_Tm p k _ u hu, Gm_Tm p k f u hu, ← Int.sub_emod]
    · rename_i hb
      exact Gm_Tm p k f t (low_bit h hb)
theorem Gm_red {p : Int} {f : Nat → Int} (hp : 0 < p) (hf : ∀ t, 0 ≤ f t ∧ f t < p) : ∀ (k t : Nat), 0 ≤ Gm p f k t ∧ Gm p f k t < p
  | 0, t => hf t
  | k + 1, t => by
    unfold Gm
    split
    · exact ⟨Int.emod_nonneg _ (by omega), Int.emod_lt_of_pos _ hp⟩
    · exact Gm_red hp hf k t
theorem Gm_eq {p : Int} {f : Nat → Int} (hp : 0 < p) (hf : ∀ t, 0 ≤ f t ∧ f t < p) {k t : Nat} (ht : t < 2 ^ k) : Gm p f k t = Tw k f t % p := by
  obtain ⟨h1, h2⟩ := Gm_red hp hf k t
  rw [← Gm_Tm p k f t ht, Int.emod_eq_of_lt h1 h2]
/-! ### the law's sum -/
def subL (a b : List Nat) : Bool := (a.zip b).all fun q => decide (q.1 ≤ q.2)
def sgL (a b : List Nat) : Int := if ((b.sum : Nat) : Int) - ((a.sum : Nat) : Int) = 0 ∨ (((b.sum : Nat) : Int) - ((a.sum : Nat) : Int)) % 2 = 0 then 1 else 0 - 1
def tmL (f : Int) (a b : List Nat) : Int := if subL a b = true then f * sgL a b else 0
def tot (k : Nat) (f : Nat → Int) (t : Nat) : Int := ((List.range (2 ^ k)).map fun s => tmL (f s) (bitsR k s) (bitsR k t)).sum
theorem subL_app {a b : List Nat} {x y : Nat} (h : a.length = b.length) : subL (a ++ [x]) (b ++ [y]) = (subL a b && decide (x ≤ y)) := by
  unfold subL
  rw [List.zip_append h, List.all_append]
  show (_ && (decide (x ≤ y) && true)) = _
  rw [Bool.and_true]
theorem sum_snoc (a : List Nat) (x : Nat) : (a ++ [x]).sum = a.sum + x := by rw [List.sum_append]; simp
theorem sg_same {a b : List Nat} (x : Nat) : sgL (a ++ [x]) (b ++ [x]) = sgL a b := by
  unfold sgL
  rw [sum_snoc, sum_snoc]
  have e : (((b.sum + x : Nat) : Int)) - ((a.sum + x : Nat) : Int) = ((b.sum : Nat) : Int) - ((a.sum : Nat) : Int) := by omega
  rw [e]
theorem sg_flip {a b : List Nat} : sgL (a ++ [0]) (b ++ [1]) = 0 - sgL a b := by
  unfold sgL
  rw [sum_snoc, sum_snoc]
  split <;> split <;> omega
theorem sum_neg : ∀ (l : List Nat) (g : Nat → Int), (l.map fun s => 0 - g s).sum = 0 - (l.map g).sum
  | [], g => rfl
  | a :: l, g => by
    rw [List.map_cons, List.map_cons, List.sum_cons, List.sum_cons, sum_neg l g]
    omega
theorem sum_zero : ∀ (l : List Nat), (l.map fun _ => (0 : Int)).sum = 0
  | [] => rfl
  | a :: l => by rw [List.map_cons, List.sum_cons, sum_zero l]; rfl
theorem sum_congr {l : List Nat} {g h : Nat → Int} (e : ∀ s ∈ l, g s = h s) : (l.map g).sum = (l.map h).sum := by rw [List.map_congr_left e]
theorem tot_Tm : ∀ (k : Nat) (f : Nat → Int) (t : Nat), tot k f t = Tw k f t
  | 0, f, t => by
    show f 0 * 1 + 0 = f 0
    omega
  | k + 1, f, t => by
    have len : ∀ s, (bitsR k s).length = (bitsR k t).length := fun s => by rw [bitsR_len, bitsR_len]
    have e : 2 ^ (k + 1) = 2 ^ k + 2 ^ k := by rw [Nat.pow_succ]; omega
    unfold tot
    rw [e, List.range_add, List.map_append, List.sum_append, List.map_map, bitsR_succ k t]
    have h1 : ∀ s ∈ List.range (2 ^ k), bitsR (k + 1) s = bitsR k s ++ [0] := fun s hs => by
      rw [bitsR_succ, Nat.div_eq_of_lt (List.mem_range.mp hs)]
    have h2 : ∀ s ∈ List.range (2 ^ k), bitsR (k + 1) (2 ^ k + s) = bitsR k s ++ [1] := fun s hs => by
      rw [bitsR_succ, bitsR_high, Nat.add_div_left _ (Nat.two_pow_pos k), Nat.div_eq_of_lt (List.mem_range.mp hs)]
    unfold Tw
    have hbit : t / 2 ^ k % 2 = 0 ∨ t / 2 ^ k % 2 = 1 := by omega
    rcases hbit with hb | hb
    · rw [if_neg (by omega), hb, ← tot_Tm k f t]
      have e1 : ((List.range (2 ^ k)).map fun s => tmL (f s) (bitsR (k + 1) s) (bitsR k t ++ [0])).sum = tot k f t := sum_congr fun s hs => by
        rw [h1 s hs]
        unfold tmL
        rw [subL_app (len s), sg_same, decide_eq_true (Nat.le_refl 0), Bool.and_true]
      have e2 : ((List.range (2 ^ k)).map ((fun s => tmL (f s) (bitsR (k + 1) s) (bitsR k t ++ [0])) ∘ fun x => 2 ^ k + x)).sum = 0 := by
        rw [← sum_zero (List.range (2 ^ k))]
        refine sum_congr fun s hs => ?_
        show tmL (f (2 ^ k + s)) (bitsR (k + 1) (2 ^ k + s)) _ = 0
        rw [h2 s hs]
        unfold tmL
        rw [subL_app (len s), decide_eq_false (show ¬ 1 ≤ 0 by decide), Bool.and_false]
        rfl
      rw [e1, e2, Int.add_zero]
    · rw [if_pos hb, hb, ← tot_Tm k f t, ← tot_Tm k _ t]
      have e1 : ((List.range (2 ^ k)).map fun s => tmL (f s) (bitsR (k + 1) s) (bitsR k t ++ [1])).sum = 0 - tot k f t := by
        unfold tot
        rw [← sum_neg]
        refine sum_congr fun s hs => ?_
        rw [h1 s hs]
        unfold tmL
        rw [subL_app (len s), sg_flip, decide_eq_true (Nat.zero_le 1), Bool.and_true]
        split
        · rw [Int.mul_sub, Int.mul_zero]
        · rfl
      have e2 : ((List.range (2 ^ k)).map ((fun s => tmL (f s) (bitsR (k + 1) s) (bitsR k t ++ [1])) ∘ fun x => 2 ^ k + x)).sum = tot k (fun s => f (2 ^ k + s)) t := by
        unfold tot
        refine sum_congr fun s hs => ?_
        show tmL (f (2 ^ k + s)) (bitsR (k + 1) (2 ^ k + s)) _ = _
        rw [h2 s hs]
        unfold tmL
        rw [subL_app (len s), sg_same, decide_eq_true (Nat.le_refl 1), Bool.and_true]
      rw [e1, e2]
      omega
end Lt

set_option Elab.async false
set_option linter.all false
set_option maxRecDepth 100000
set_option maxHeartbeats 1000000
/-! tasks.py: inputs_of, part_of, factors_of -/
namespace Lt
open PySem PySem.Spec PyProof.Rows L2
theorem bits_pow : ∀ n, n ≤ 6 → Builtin.Int.intBits ((2 ^ n : Nat) : Int) = n + 1 := by decide +kernel
theorem bit_val (j i : Nat) : ((0 : Int) + (j : Nat)) / 2 ^ i % 2 ^ 1 = ((j / 2 ^ i % 2 : Nat) : Int) := by
  rw [Int.zero_add, Int.natCast_emod, Int.natCast_ediv, Int.natCast_pow]
  rfl
theorem tru_bit {K : PySem.W.Frag} {H : Hp} (j i : Nat) {z : Int} (e : z = ((j / 2 ^ i % 2 : Nat) : Int)) : TruV K (.int z) H (j / 2 ^ i % 2 == 1) := by
  subst e
  show (j / 2 ^ i % 2 == 1) = (((j / 2 ^ i % 2 : Nat) : Int) != 0)
  have h : j / 2 ^ i % 2 = 0 ∨ j / 2 ^ i % 2 = 1 := by omega
  rcases h with h | h <;> rw [h] <;> rfl
theorem bit_off {j i : Nat} (h : j / 2 ^ i % 2 = 1) : 2 ^ i ≤ j ∧ (j - 2 ^ i) / 2 ^ i % 2 = 0 := by
  have hp := Nat.two_pow_pos i
  have hle : 2 ^ i ≤ j := by
    by_cases z : j < 2 ^ i
    · rw [Nat.div_eq_of_lt z] at h; omega
    · omega
  obtain ⟨u, rfl⟩ : ∃ u, j = 2 ^ i + u := ⟨j - 2 ^ i, by omega⟩
  rw [Nat.add_div_left _ hp] at h
  refine ⟨hle, ?_⟩
  rw [Nat.add_sub_cancel_left]
  omega
/-- a list of numbers by their places -/
def Lf (N : Nat) (g : Nat → Int) : List V := (List.range N).map fun t => V.int (g t)
theorem Lf_len (N : Nat) (g : Nat → Int) : (Lf N g).length = N := by unfold Lf; rw [List.length_map, List.length_range]
theorem Lf_get {N j : Nat} {g : Nat → Int} (h : j < N) : (Lf N g)[j]? = some (V.int (g j)) := by
  unfold Lf
  rw [List.getElem?_map, List.getElem?_range h]
  rfl
theorem Lf_congr {N : Nat} {g h : Nat → Int} (e : ∀ t, t < N → g t = h t) : Lf N g = Lf N h := by
  unfold Lf
  exact List.map_congr_left fun t ht => by rw [e t (List.mem_range.mp ht)]
theorem Lf_set {N j : Nat} {g : Nat → Int} {v : Int} : (Lf N g).set j (V.int v) = Lf N fun t => if t = j then v else g t := by
  refine List.ext_getElem? fun k => ?_
  rw [List.getElem?_set, Lf_len]
  by_cases hk : k < N
  · rw [Lf_get hk, Lf_get hk]
    by_cases e : j = k
    · subst e
      rw [if_pos rfl, if_pos hk, if_pos rfl]
    · rw [if_neg e, if_neg (fun z => e z.symm)]
  · have h1 : ∀ g', (Lf N g')[k]? = none := fun g' => List.getElem?_eq_none (by rw [Lf_len]; omega)
    rw [h1, h1]
    by_cases e : j = k
    · rw [if_pos e, if_neg (by omega)]
    · rw [if_neg e]
/-- the numbers of a table, by place -/
def fT (bs : List Nat) (t : Nat) : Int := ((bs.getD t 0 : Nat) : Int)
theorem nIs_Lf (bs : List Nat) : nIs bs = Lf bs.length (fT bs) := by
  refine List.ext_getElem? fun k => ?_
  by_cases hk : k < bs.length
  · rw [Lf_get hk]
    unfold nIs fT
    rw [List.getElem?_map, List.getElem?_eq_getElem hk, List.getD_eq_getElem?_getD, List.getElem?_eq_getElem hk]
    rfl
  · rw [List.getElem?_eq_none (by unfold nIs; rw [List.length_map]; omega), List.getElem?_eq_none (by rw [Lf_len]; omega)]
section
variable {P : Program} {w : World} {K : PySem.W.Frag} {mg : Str → Option Value} {base : Heap}
def spInsOf : Sp := fun vs H Q _ => ∃ (v : V) (bs : List Nat) (n : Nat), vs = [v] ∧ TK H v bs ∧ bs.length = 2 ^ n ∧ n ≤ 6 ∧ Q (nI n) H
theorem sc_inputs_of : FnScope ["table"] ["table"] (defScope s_inputs_of) := ⟨rfl, rfl, rfl, by decide +kernel, rfl, by decide +kernel, by decide +kernel⟩
theorem has_inputs_of (T : Top K mg "inputs_of" s_inputs_of ["table"]) (B : Bi mg) : Has P w K mg base CX0 1 "inputs_of" ["table"] spInsOf := by
  refine T.ok sc_inputs_of (fun vs H Q E h => ?_) (fun f cdv A outer s H vs Q E hr h => ?_)
  · obtain ⟨v, bs, n, rfl, _⟩ := h
    rfl
  · obtain ⟨v, bs, n, rfl, ⟨a, rfl, ha⟩, hl, hn, q⟩ := h
    refine ⟨_, pss_one (ps_ret (pe_op op_subN (pe_bits (pe_callB call_len_seq (by rfl) B.len PySem.boot_len (pa_cons (pv 0) pa_nil))) pe_int)), ?_⟩
    refine ⟨_, rfl, a, nIs bs, rfl, .inr (SqT.of ha), ((nIs bs).length : Int), rfl, n + 1, 1, ?_, rfl, by omega, q⟩
    show V.int _ = V.int _
    congr 1
    rw [nIs_len, hl, bits_pow n hn]
def spPart : Sp := fun vs H Q _ => ∃ t : Nat, vs = [nI t] ∧ ∀ v H', Same H H' → TK H' v (insOf t) → Q v H'
theorem sc_part_of : FnScope ["place", "own"] ["place"] (defScope s_part_of) := ⟨rfl, rfl, rfl, by decide +kernel, rfl, by decide +kernel, by decide +kernel⟩
abbrev rShrN : R2 := fun x y H Q => ∃ (i : Int) (k : Nat), x = .int i ∧ y = .int (k : Int) ∧ Q (.int (i / 2 ^ k)) H
abbrev rAndM : R2 := fun x y H Q => ∃ (i : Int) (k : Nat), x = .int i ∧ y = .int (2 ^ k - 1) ∧ Q (.int (i % 2 ^ k)) H
def tBit (K : PySem.W.Frag) (i j : Nat) : L2.TT := fun σ H Q => (tOp rAndM (tOp rShrN (tVar i) (tVar j)) (tC (.int 1))) σ H fun x H' => ∃ k, TruV K x H' k ∧ Q k H'
theorem has_part_of (T : Top K mg "part_of" s_part_of ["place"]) (B : Bi mg) (G : ∃ u, mg "MOST_INPUTS" = some u ∧ RelV (.int 6) u) : Has P w K mg base CX0 1 "part_of" ["place"] spPart := by
  refine T.ok sc_part_of (fun vs H Q E h => ?_) (fun f cdv A outer s H vs Q E hr h => ?_)
  · obtain ⟨t, rfl, _⟩ := h
    rfl
  · obtain ⟨t, rfl, q⟩ := h
    refine ⟨_, pss_one (ps_ret (pe_tupleOf (by rfl) B.tuple (pe_lc (own := [("own", 1)]) (g := gName 1) (te := tVar 1) (tt := tBit K 0 1) (by rfl) sc_part_of.nd (pi_range1 (by rfl) B.range (pa_cons (pe_gc2 (by rfl) G) pa_nil)) (blkOk_by (own := [("own", 1)]) (N := ["place", "own"]) (sc := defScope s_part_of) (by decide +kernel))
      (fun _ _ _ _ _ => pg_name (i := 1) sc_part_of.nd rfl (Or.inl rfl)) (fun _ _ _ _ _ => pts_one (pt_truth (by exact pe_op op_andM (pe_op op_shrN (pv 0) (pv 1)) pe_int) (by intro _; rfl))) (fun _ _ _ _ _ => pv 1)))), ?_⟩
    refine ⟨6, rfl, by decide, by decide, fun D hD => lc_rangeF (n := (6 : Int).toNat) (j := 1) (te := tVar 1) (tt := tBit K 0 1) RN (fun i => t / 2 ^ i % 2 == 1) (fun i => i) (fun _ _ _ _ _ r => r) (by decide) hD (fun x => rfl) (fun i H1 hi s1 Q1 q1 => ?_) (fun i H1 hi hp s1 Q1 q1 => ?_) (fun H' zs sm hz pr => ?_)⟩
    · refine ⟨_, rfl, _, rfl, (t : Int), i, rfl, by show V.int ((0 : Int) + (i : Nat)) = _; rw [Int.zero_add], _, 1, rfl, rfl, _, tru_bit t i ?_, q1 _ (Same.refl _)⟩
      rw [← bit_val, Int.zero_add]
    · exact ⟨_, rfl, q1 _ _ (Same.refl _) (by show V.int _ = V.int _; rw [Int.zero_add])⟩
    · refine .inl ⟨D, zs, rfl, SqL.of hz, fun p hp => q _ _ (sm.trans (same_new hp)) (tn_of upd_same ?_)⟩
      rw [RN.all pr, List.map_id']
      rfl
def spFacs : Sp := fun vs H Q _ => ∃ (p : Nat) (v : V) (bs : List Nat) (n : Nat), vs = [nI p, v] ∧ 1 ≤ p ∧ TK H v bs ∧ bs.length = 2 ^ n ∧ n ≤ 6 ∧ ∀ l H', Same H H' → H l = none → H' l = some (.lst (Lf (2 ^ n) (Gm p (fT bs) n))) → Q (.ref l) H'
theorem sc_factors_of : FnScope ["prime", "table", "factors", "own", "place"] ["prime", "table"] (defScope s_factors_of) := ⟨rfl, rfl, rfl, by decide +kernel, rfl, by decide +kernel, by decide +kernel⟩
theorem has_factors_of (T : Top K mg "factors_of" s_factors_of ["prime", "table"]) (B : Bi mg) (hI : Has P w K mg base CX0 1 "inputs_of" ["table"] spInsOf) : Has P w K mg base CX0 2 "factors_of" ["prime", "table"] spFacs := by
  refine T.ok sc_factors_of (fun vs H Q E h => ?_) (fun f cdv A outer s H vs Q E hr h => ?_)
  · obtain ⟨p, v, bs, n, rfl, _⟩ := h
    rfl
  · obtain ⟨p, v, bs, n, rfl, hp, ⟨a, rfl, ha⟩, hl, hn, q⟩ := h
    have h64 := pow6 hn
    refine ⟨_, pss_cons (ps_set (i := 2) sc_factors_of.nd rfl (Or.inl rfl) (pe_callTy call_list_of (by rfl) B.list PyProof.Rows.boot_list (pa_cons (pv 1) pa_nil)))
      (pss_cons (ps_for PassesOwn.never rfl (pi_range1 (by rfl) B.range (pa_cons (pe_has hI hr (by rfl) (pa_cons (pv 1) pa_nil)) pa_nil)) (pg_name (i := 3) sc_factors_of.nd rfl (Or.inl rfl))
        (pss_one (ps_for PassesOwn.never rfl (pi_range1 (by rfl) B.range (pa_cons (pe_callB call_len_seq (by rfl) B.len PySem.boot_len (pa_cons (pv 1) pa_nil)) pa_nil)) (pg_name (i := 4) sc_factors_of.nd rfl (Or.inl rfl))
          (pss_one (ps_if (pt_truth (pe_op op_andM (pe_op op_shrN (pv 4) (pv 3)) pe_int) (by intro _; rfl))
            (pss_one (ps_asg (pe_op op_modN (pe_op op_sub (pe_ix ix_list (pv 2) (pv 4) (fun _ _ => rfl)) (pe_ix ix_list (pv 2) (pe_op op_sub (pv 4) (pe_op op_shl pe_int (pv 3))) (fun _ _ => rfl))) (pv 0)) (pg_sub (pv 2) (pv 4) set_list))) pss_nil)))))
      (pss_one (ps_ret (pv 2)))), ?_⟩
    refine ⟨_, rfl, a, nIs bs, rfl, .inr (SqT.of ha), fun l hll => ?_⟩
    have s0 := same_new (o := .lst (nIs bs)) hll
    have e0 : nIs bs = Lf (2 ^ n) (Gm p (fT bs) 0) := by rw [nIs_Lf, hl]; rfl
    refine ⟨_, rfl, _, bs, n, rfl, ⟨a, rfl, s0 _ _ ha⟩, hl, hn, (n : Int), rfl, by omega, by omega, for_range (lo := 0) (n := (n : Int).toNat) (fun i σ H' => ∃ y3 y4, σ = [some (nI p), some (.ref a), some (.ref l), y3, y4] ∧ Same H H' ∧ H' l = some (.lst (Lf (2 ^ n) (Gm p (fT bs) i))))
      ⟨none, none, rfl, s0, by rw [← e0]; exact upd_same⟩ ?_ ?_⟩
    · rintro i σ H1 hi ⟨y3, y4, rfl, s1, h1⟩
      have hi : i < n := by omega
      refine ⟨_, rfl, a, nIs bs, rfl, .inr (SqT.of (s1 _ _ ha)), ((nIs bs).length : Int), rfl, by rw [nIs_len, hl]; omega, by rw [nIs_len, hl]; omega, ?_⟩
      refine for_range (lo := 0) (n := (((nIs bs).length : Nat) : Int).toNat) (fun j σ H' => ∃ y4, σ = [some (nI p), some (.ref a), some (.ref l), some (.int ((0 : Int) + (i : Nat))), y4] ∧ Same H H' ∧ H' l = some (.lst (Lf (2 ^ n) fun t => if t < j then Gm p (fT bs) (i + 1) t else Gm p (fT bs) i t)))
        ⟨y4, rfl, s1, by rw [h1]; exact congrArg (fun z => some (HO.lst z)) (Lf_congr fun t _ => (if_neg (Nat.not_lt_zero t)).symm)⟩ ?_ ?_
      · rintro j σ H2 hj ⟨y4, rfl, s2, h2⟩
        have hj : j < 2 ^ n := by
          have : j < (nIs bs).length := by omega
          rwa [nIs_len, hl] at this
        refine ⟨_, rfl, _, rfl, (0 : Int) + (j : Nat), i, rfl, by show V.int ((0 : Int) + (i : Nat)) = _; rw [Int.zero_add], _, 1, rfl, rfl, _, tru_bit j i (bit_val j i), ?_⟩
        by_cases hb : j / 2 ^ i % 2 = 1
        · obtain ⟨hle, hoff⟩ := bit_off hb
          rw [hb]
          refine iteT ?_
          have g1 : (Lf (2 ^ n) fun t => if t < j then Gm p (fT bs) (i + 1) t else Gm p (fT bs) i t)[j]? = some (V.int (Gm p (fT bs) i j)) := by
            rw [Lf_get hj]
            exact congrArg (fun z => some (V.int z)) (if_neg (Nat.lt_irrefl j))
          have hlt : j - 2 ^ i < j := Nat.sub_lt (Nat.lt_of_lt_of_le (Nat.two_pow_pos i) hle) (Nat.two_pow_pos i)
          have g2 : (Lf (2 ^ n) fun t => if t < j then Gm p (fT bs) (i + 1) t else Gm p (fT bs) i t)[j - 2 ^ i]? = some (V.int (Gm p (fT bs) i (j - 2 ^ i))) := by
            rw [Lf_get (Nat.lt_trans hlt hj)]
            refine congrArg (fun z => some (V.int z)) ((if_pos hlt).trans ?_)
            exact if_neg (by rw [hoff]; decide)
          have ei : (0 : Int) + (j : Nat) = ((j : Nat) : Int) := Int.zero_add _
          have ed : ((0 : Int) + (j : Nat)) - 1 * 2 ^ ((0 : Int) + (i : Nat)).toNat = ((j - 2 ^ i : Nat) : Int) := by
            have : ((0 : Int) + (i : Nat)).toNat = i := by omega
            rw [this, Int.one_mul, Int.zero_add, Int.natCast_sub hle, Int.natCast_pow]
            rfl
          refine ⟨_, rfl, _, rfl, l, _, _, _, rfl, rfl, SqL.of h2, by rw [ei]; exact atI_nat g1, _, rfl, _, rfl, _, rfl, 1, (0 : Int) + (i : Nat), rfl, rfl, ⟨by omega, by omega, by decide⟩, _, _, rfl, rfl, l, _, _, _, rfl, rfl, SqL.of h2, by rw [ed]; exact atI_nat g2, _, _, rfl, rfl, _, rfl, _, (p : Int), rfl, rfl, (show (p : Int) ≠ 0 by omega), ?_⟩
          have ev : Int.fmod (Gm p (fT bs) i j - Gm p (fT bs) i (j - 2 ^ i)) p = Gm p (fT bs) (i + 1) j := by
            rw [Int.fmod_eq_emod_of_nonneg _ (by omega)]
            exact (if_pos hb).symm
          refine ⟨_, rfl, _, rfl, l, _, _, _, rfl, rfl, h2, by rw [ei]; exact Evl.ixN_nat (by rw [Lf_len]; exact hj), ?_⟩
          refine ⟨_, rfl, same_mut s2 hll, ?_⟩
          rw [upd_same]
          show some (HO.lst (List.set _ j (V.int (Int.fmod _ _)))) = _
          rw [ev, Lf_set]
          refine congrArg (fun z => some (HO.lst z)) (Lf_congr fun t _ => ?_)
          by_cases e1 : t = j
          · subst e1
            rw [if_pos rfl, if_pos (Nat.lt_succ_self t)]
          · rw [if_neg e1]
            by_cases e2 : t < j
            · rw [if_pos e2, if_pos (by omega)]
            · rw [if_neg e2, if_neg (by omega)]
        · have h0 : (j / 2 ^ i % 2 == 1) = false := by rw [beq_eq_false_iff_ne]; exact hb
          rw [h0]
          refine iteF ⟨_, rfl, s2, ?_⟩
          rw [h2]
          refine congrArg (fun z => some (HO.lst z)) (Lf_congr fun t _ => ?_)
          by_cases e1 : t = j
          · subst e1
            rw [if_neg (Nat.lt_irrefl t), if_pos (Nat.lt_succ_self t)]
            exact (if_neg hb).symm
          · by_cases e2 : t < j
            · rw [if_pos e2, if_pos (by omega)]
            · rw [if_neg e2, if_neg (by omega)]
      · rintro σ H2 ⟨y4, rfl, s2, h2⟩
        refine ⟨_, y4, rfl, s2, ?_⟩
        rw [h2]
        refine congrArg (fun z => some (HO.lst z)) (Lf_congr fun t ht => ?_)
        refine if_pos ?_
        rw [nIs_len, hl, Int.toNat_natCast]
        exact ht
    · rintro σ H2 ⟨y3, y4, rfl, s2, h2⟩
      refine ⟨_, rfl, q l H2 s2 hll ?_⟩
      rw [h2, Int.toNat_natCast]
end
end Lt

set_option Elab.async false
set_option linter.all false
set_option maxRecDepth 100000
set_option maxHeartbeats 2000000
/-! a tuple once: t * 1 -/
namespace Lt
open PySem PySem.Spec PyProof.Rows L2
theorem tuple_mul1 (l : Addr) (items : Array Value) (n : Nat) (dd : Option Addr) (sl : Array (Option Value)) (u : PySem.Tok) :
    Meets (Builtin.«tuple.__mul__» ⟨[.ref l, .int 1 u], []⟩) (fun _ R s => s.heap.get? l = some { cls := .type "tuple", dict := dd, data := .seq items n, slots := sl } ∧ R (.ok (.ret (Value.ref l))) s) :=
  .of_wp fun prog w A R s h => by
    obtain ⟨hp, g, d, tk, os⟩ := s
    obtain ⟨hl, h⟩ := h
    have f1 := AutoSeq1.idx_int
    wp_walk using wpAny_loadPart' hl
    exact ⟨_, rfl, h⟩
def rRepA (K : PySem.W.Frag) : R2 := fun x y H Q => ∃ l k xs, x = .ref l ∧ y = .int k ∧ SqT K H l xs ∧ xs ≠ [] ∧ 1 ≤ k ∧ k ≤ 1000 ∧ xs.length ≤ 1000 ∧ (k = 1 → Q (.ref l) H) ∧ (2 ≤ k → ∀ p, H p = none → Q (.ref p) (upd H p (.tup (List.replicate k.toNat xs).flatten)))
theorem op_repA {X : Cx} : OpR X (binaryOp .Mult) (rRepA X.K) := by
  intro pins s σ H x y v u Q I rx ry h
  obtain ⟨l, k, xs, rfl, rfl, hT, hne, h1, h2, hz, q1, q2⟩ := h
  by_cases hk : k = 1
  · subst hk
    cases rx
    obtain ⟨t, rfl⟩ := ry
    obtain ⟨its, r, ⟨⟨cls, dd, data, sl⟩, ho, hc, n, hd⟩, hs⟩ := I.tuple hT
    simp only at hc hd
    subst hc hd
    exact wpAny_binaryOp_repeat_ref (T := "tuple") (U := "int") (by decide) ⟨_, ho, rfl⟩ (fun s' => typeIs_int s' 1 t) noFill_tuple_mul F.fills_int_mul F.slot_int_rmul repeat_tuple F.slot_int_index.lookup
      (call_meets F.slot_int_rmul (typeIs_int s 1 t) F.entry_int_rmul (F.args_int_rmul_2 _ _) (int_rmul_tuple 1 t l its.toArray n dd sl)
        ⟨ho, rfl, ⟨_, ho, rfl⟩, call_meets F.slot_tuple_mul ⟨_, ho, rfl⟩ F.entry_tuple_mul (F.args_tuple_mul_2 _ _) (tuple_mul1 l its.toArray n dd sl t) ⟨ho, ⟨.ref l, H, I, rfl, q1 rfl⟩⟩⟩)
  · exact op_repT pins s σ H _ _ v u Q I rx ry ⟨l, k, xs, rfl, rfl, hT, hne, by omega, h2, hz, q2 (by omega)⟩
end Lt

set_option Elab.async false
set_option linter.all false
set_option maxRecDepth 100000
set_option maxHeartbeats 2000000
/-! tasks.py: polynomial, degree, all_of -/
namespace Lt
open PySem PySem.Spec PyProof.Rows L2
/-- the factors of a table -/
def facG (p n : Nat) (bs : List Nat) (t : Nat) : Int := Gm p (fT bs) n t
/-- the places of a polynomial's parts, in its order -/
def polyL (p n : Nat) (bs : List Nat) : List Nat := ((List.range (2 ^ n)).mergeSort (PySem.W.dataLe false (encT (facG p n bs)))).filter fun t => facG p n bs t != 0
def partAt (g : Nat → Int) (H : Hp) (x : V) (t : Nat) : Prop := ∃ b pt, x = .ref b ∧ H b = some (.tup [.ref pt, .int (g t)]) ∧ H pt = some (.tup (nIs (insOf t)))
def tripAt (g : Nat → Int) (H : Hp) (x : V) (t : Nat) : Prop := ∃ b pt, x = .ref b ∧ H b = some (.tup [nI (insOf t).length, .ref pt, .int (g t)]) ∧ H pt = some (.tup (nIs (insOf t)))
def PolyAt (g : Nat → Int) (H : Hp) (v : V) (ts : List Nat) : Prop := ∃ a xs, v = .ref a ∧ H a = some (.tup xs) ∧ Paired (partAt g H) xs ts
theorem partAt.tm {g : Nat → Int} {H H' : Hp} {x : V} {t : Nat} (e : Tm H H') (h : partAt g H x t) : partAt g H' x t := let ⟨b, pt, e1, e2, e3⟩ := h; ⟨b, pt, e1, e.1 _ _ e2, e.1 _ _ e3⟩
theorem tripAt.tm {g : Nat → Int} {H H' : Hp} {x : V} {t : Nat} (e : Tm H H') (h : tripAt g H x t) : tripAt g H' x t := let ⟨b, pt, e1, e2, e3⟩ := h; ⟨b, pt, e1, e.1 _ _ e2, e.1 _ _ e3⟩
theorem PolyAt.same {g : Nat → Int} {H H' : Hp} {v : V} {ts : List Nat} (s : Same H H') (h : PolyAt g H v ts) : PolyAt g H' v ts :=
  let ⟨a, xs, e1, e2, e3⟩ := h; ⟨a, xs, e1, s _ _ e2, paired_mono (fun _ _ r => partAt.tm (.of s) r) e3⟩
def partD (g : Nat → Int) (t : Nat) : PyData := .tuple [dT (insOf t), .int (g t)]
theorem partAt.rp {g : Nat → Int} {H : Hp} {x : V} {t : Nat} (h : partAt g H x t) : Rp H x (partD g t) := by
  obtain ⟨b, pt, rfl, hb, hp⟩ := h
  exact .tup (.inl hb) (.cons (TN.rp ⟨pt, rfl, .inl hp⟩) (.cons (.int _) .nil))
theorem parts_rp {g : Nat → Int} {H : Hp} : ∀ {xs : List V} {ts : List Nat}, Paired (partAt g H) xs ts → RpAll H xs (ts.map (partD g))
  | _, _, .nil => .nil
  | _, _, .cons r t => .cons r.rp (parts_rp t)
theorem PolyAt.rp {g : Nat → Int} {H : Hp} {v : V} {ts : List Nat} (h : PolyAt g H v ts) : Rp H v (.tuple (ts.map (partD g))) := by
  obtain ⟨a, xs, rfl, ha, hx⟩ := h
  exact .tup (.inl ha) (parts_rp hx)
theorem tripAt.rp {g : Nat → Int} {H : Hp} {x : V} {t : Nat} (h : tripAt g H x t) : Rp H x (encT g t) := by
  obtain ⟨b, pt, rfl, hb, hp⟩ := h
  exact .tup (.inl hb) (.cons (.int _) (.cons (TN.rp ⟨pt, rfl, .inl hp⟩) (.cons (.int _) .nil)))
theorem alike_enc (g : Nat → Int) (t u : Nat) : PySem.W.alike (encT g t) (encT g u) = true := by
  show (true && (PySem.W.alikeAll ((insOf t).map dN) ((insOf u).map dN) && (true && true))) = true
  rw [alike_nats]
  rfl
theorem depth_enc (g : Nat → Int) (t : Nat) : (encT g t).depth ≤ 60 := by
  have h := dep_mx (insOf t)
  show max 0 (max (PyData.depthAll ((insOf t).map dN) + 1) (max 0 0)) + 1 ≤ 60
  rw [h]
  decide
theorem filter_at : ∀ (l : List Nat) (q : Nat → Bool), (((List.range l.length).filter fun i => q (l.getD i 0)).map fun i => l.getD i 0) = l.filter q
  | [], q => rfl
  | a :: l, q => by
    rw [List.length_cons, List.range_succ_eq_map, List.filter_cons, List.filter_map]
    have h := filter_at l q
    have e : ((List.filter ((fun i => q ((a :: l).getD i 0)) ∘ Nat.succ) (List.range l.length)).map Nat.succ).map (fun i => (a :: l).getD i 0) = l.filter q := by
      rw [List.map_map, ← h]
      rfl
    rw [List.filter_cons]
    show (if q a = true then _ else _ : List Nat).map _ = _
    split
    · rw [List.map_cons, e]
      rfl
    · exact e
theorem insOf_lt {t i : Nat} (h : i ∈ insOf t) : i < 6 := List.mem_range.mp (List.mem_filter.mp h).1
theorem insOf_len (t : Nat) : (insOf t).length ≤ 6 := Nat.le_trans (List.length_filter_le _ _) (by rw [List.length_range]; exact Nat.le_refl _)
section
variable {P : Program} {w : World} {K : PySem.W.Frag} {mg : Str → Option Value} {base : Heap} {CN CT : Addr}
def primes : List Nat := [2, 3, 5, 7]
/-- a good task -/
structure Tsk (p n : Nat) (bs : List Nat) : Prop where
  hp : p ∈ primes
  b1 : ∀ b ∈ bs, b ≤ 1
  len : bs.length = 2 ^ n
  n1 : 1 ≤ n
  n6 : n ≤ 6
def spPoly (CN CT : Addr) : Sp := fun vs H Q E => ∃ (pq tv : V) (d : PyData), vs = [pq, tv] ∧ flatV pq = true ∧ Rp H tv d ∧ (∀ ds, d = .tuple ds → ds.length ≤ 1000) ∧
  ((∃ p n bs, pq = nI p ∧ TK H tv bs ∧ d = dT bs ∧ Tsk p n bs ∧ ∀ v H', Same H H' → PolyAt (facG p n bs) H' v (polyL p n bs) → Q v H') ∨
   (inV pq ([2, 3, 5, 7].map V.int) = true ∧ isTab d = false ∧ Bad0 CT H E) ∨ (inV pq ([2, 3, 5, 7].map V.int) = false ∧ Bad0 CN H E))
theorem tsk_tab {p n : Nat} {bs : List Nat} (h : Tsk p n bs) : isTab (dT bs) = true := by
  show ((bs.map dN).all bitD01 && tabLens.contains (((bs.map dN).length : Nat) : Int)) = true
  rw [Bool.and_eq_true]
  constructor
  · rw [List.all_map, List.all_eq_true]
    intro b hb
    have := h.b1 b hb
    show (true && decide ((b : Int) = 0 ∨ (b : Int) = 1)) = true
    rw [Bool.true_and, decide_eq_true (by omega)]
  · rw [List.length_map, h.len]
    have : ∀ n, 1 ≤ n → n ≤ 6 → tabLens.contains ((2 ^ n : Nat) : Int) = true := by
      intro n h1 h6
      have : n = 1 ∨ n = 2 ∨ n = 3 ∨ n = 4 ∨ n = 5 ∨ n = 6 := by omega
      rcases this with rfl | rfl | rfl | rfl | rfl | rfl <;> rfl
    exact this n h.n1 h.n6
theorem prime_in {p : Nat} (h : p ∈ primes) : inV (nI p) ([2, 3, 5, 7].map V.int) = true ∧ 2 ≤ p ∧ p ≤ 7 := by
  unfold primes at h
  simp only [List.mem_cons, List.not_mem_nil, or_false] at h
  rcases h with rfl | rfl | rfl | rfl <;> exact ⟨rfl, by decide, by decide⟩
theorem sc_polynomial : FnScope ["prime", "table", "factors", "parts", "order", "place", "part", "factor", "_"] ["prime", "table"] (defScope s_polynomial) := ⟨rfl, rfl, rfl, by decide +kernel, rfl, by decide +kernel, by decide +kernel⟩
abbrev rLenS (K : PySem.W.Frag) : List V → Hp → VK → Prop := fun xs H Q => ∃ p ys, xs = [V.ref p] ∧ (SqL K H p ys ∨ SqT K H p ys) ∧ Q (.int ys.length) H
theorem has_polynomial (T : Top K mg "polynomial" s_polynomial ["prime", "table"]) (B : Bi mg) (bz : mg "zip" = none) (hP : Has P w K mg base (L2.CX P w) 1 "check_prime" ["prime"] (spCheckP CN)) (hT : Has P w K mg base (L2.CX P w) 3 "check_table" ["table"] (spCheckT CT))
    (hF : Has P w K mg base CX0 2 "factors_of" ["prime", "table"] spFacs) (hA : Has P w K mg base CX0 1 "part_of" ["place"] spPart) : Has P w K mg base (L2.CX P w) 4 "polynomial" ["prime", "table"] (spPoly CN CT) := by
  refine T.okX sc_polynomial (fun vs H Q E h => ?_) (fun f cdv A outer s H vs Q E hr h => ?_)
  · obtain ⟨pq, tv, d, rfl, _⟩ := h
    rfl
  · obtain ⟨pq, tv, d, rfl, fv, hd, hl, cs⟩ := h
    have hr1 : Room 1 _ := hr.mono (by decide)
    have hr2 : Room 2 _ := hr.mono (by decide)
    have hu := hr.units
    refine ⟨_, pss_cons (ps_expr (pe_hasX (E := E) hP hr1 (by rfl) (passes_call (takes_of rfl rfl rfl rfl) (fun _ _ _ _ h => h)) (pa_cons (pv 0) pa_nil)))
      (pss_cons (ps_expr (pe_hasX (E := E) hT hr (by rfl) (passes_call (takes_of rfl rfl rfl rfl) (fun _ _ _ _ h => h)) (pa_cons (pv 1) pa_nil)))
      (pss_cons (ps_set (i := 2) sc_polynomial.nd rfl (Or.inl rfl) (pe_has hF hr2 (by rfl) (pa_cons (pv 0) (pa_cons (pv 1) pa_nil))))
      (pss_cons (ps_setLc (i := 3) (own := [("place", 5)]) (g := gName 5) (te := tCall spPart [] E0 (tCons (tVar 5) tNil)) (by rfl) sc_polynomial.nd rfl rfl (sw_true rfl rfl rfl (by decide +kernel)) (pi_range1 (by rfl) B.range (pa_cons (pe_callB call_len_seq (by rfl) B.len PySem.boot_len (pa_cons (pv 1) pa_nil)) pa_nil)) (blkOk_by (own := [("place", 5)]) (N := ["prime", "table", "factors", "parts", "order", "place", "part", "factor", "_"]) (sc := defScope s_polynomial) (by decide +kernel))
        (fun _ _ _ _ _ => pg_name (i := 5) sc_polynomial.nd rfl (Or.inl rfl)) (fun _ _ _ _ _ => pts_nil) (fun _ _ _ _ _ => pe_has hA hr1 (by rfl) (pa_cons (pv 5) pa_nil)))
      (pss_cons (ps_set (i := 4) sc_polynomial.nd rfl (Or.inl rfl) (pe_callB (cr_sortedD (by exact hu)) (by rfl) B.sorted PyProof.Rows.boot_sorted (pa_cons
        (pe_lc (own := [("part", 6), ("factor", 7)]) (g := gTup K 2 (gCons (gName 6) (gCons (gName 7) gNil))) (te := tTup (tCons (tCB (rLenS K) (tCons (tVar 6) tNil)) (tCons (tVar 6) (tCons (tVar 7) tNil)))) (by rfl) sc_polynomial.nd (pi_zip (by rfl) bz (pa_cons (pv 3) (pa_cons (pv 2) pa_nil))) (blkOk_by (own := [("part", 6), ("factor", 7)]) (N := ["prime", "table", "factors", "parts", "order", "place", "part", "factor", "_"]) (sc := defScope s_polynomial) (by decide +kernel))
          (fun _ _ _ _ _ => pg_tup rfl (pgs_cons (pg_name (i := 6) sc_polynomial.nd rfl (Or.inl rfl)) (pgs_cons (pg_name (i := 7) sc_polynomial.nd rfl (Or.inl rfl)) pgs_nil))) (fun _ _ _ _ _ => pts_nil) (fun _ _ _ _ _ => pe_tup (pa_cons (pe_callB call_len_seq (by rfl) B.len PySem.boot_len (pa_cons (pv 6) pa_nil)) (pa_cons (pv 6) (pa_cons (pv 7) pa_nil))))) pa_nil)))
      (pss_one (ps_ret (pe_tupleOf (by rfl) B.tuple (pe_lc (own := [("_", 8), ("part", 6), ("factor", 7)]) (g := gTup K 3 (gCons (gName 8) (gCons (gName 6) (gCons (gName 7) gNil)))) (te := tTup (tCons (tVar 6) (tCons (tVar 7) tNil))) (tt := tTest (tOp rNe (tVar 7) (tC (.int 0)))) (by rfl) sc_polynomial.nd (pi_list (pv 4)) (blkOk_by (own := [("_", 8), ("part", 6), ("factor", 7)]) (N := ["prime", "table", "factors", "parts", "order", "place", "part", "factor", "_"]) (sc := defScope s_polynomial) (by decide +kernel))
          (fun _ _ _ _ _ => pg_tup rfl (pgs_cons (pg_name (i := 8) sc_polynomial.nd rfl (Or.inl rfl)) (pgs_cons (pg_name (i := 6) sc_polynomial.nd rfl (Or.inl rfl)) (pgs_cons (pg_name (i := 7) sc_polynomial.nd rfl (Or.inl rfl)) pgs_nil)))) (fun _ _ _ _ _ => pts_one (pt_cmpR op_ne (pv 7) pe_int (nomark _))) (fun _ _ _ _ _ => pe_tup (pa_cons (pv 6) (pa_cons (pv 7) pa_nil))))))))))), ?_⟩
    rcases cs with ⟨p, n, bs, rfl, ⟨a, rfl, ha⟩, rfl, tk, q⟩ | ⟨pin, tb, bad⟩ | ⟨pin, bad⟩
    · obtain ⟨pin, p2, p7⟩ := prime_in tk.hp
      have h64 := pow6 tk.n6
      have hlen := tk.len
      refine ⟨_, rfl, nI p, rfl, fv, .inl ⟨pin, ?_⟩⟩
      refine ⟨_, rfl, .ref a, dT bs, rfl, hd, hl, .inl ⟨tsk_tab tk, fun H1 s1 => ?_⟩⟩
      refine ⟨_, rfl, _, rfl, p, .ref a, bs, n, rfl, by omega, ⟨a, rfl, s1 _ _ ha⟩, hlen, tk.n6, fun l H2 s2 hln hlf => ?_⟩
      have s12 := s1.trans s2
      have g0 : ∃ N, N = (nIs bs).length := ⟨_, rfl⟩
      have hN : (nIs bs).length = 2 ^ n := by rw [nIs_len, hlen]
      refine ⟨_, rfl, a, nIs bs, rfl, .inr (SqT.of (s12 _ _ ha)), ((nIs bs).length : Int), rfl, by omega, by omega, fun D hD => lc_rangeM (n := (((nIs bs).length : Nat) : Int).toNat) (fun H v t => TK H v (insOf t)) (List.range (2 ^ n)) (fun _ _ _ _ e r => TK.tm e r) (by omega) (by rw [List.length_range]; omega) hD (fun x => rfl) (fun i t hi ht H3 s3 Q3 q3 => ?_) (fun H3 zs s3 hz pz => ?_)⟩
      · have et : t = i := by
          rw [List.getElem?_range (by omega)] at ht
          exact (Option.some.inj ht).symm
        subst et
        exact ⟨_, rfl, t, by show [V.int ((0 : Int) + (t : Nat))] = _; rw [Int.zero_add]; rfl, q3⟩
      · have s13 := s12.trans s3
        have hlf3 := s3 _ _ hlf
        have lz := Paired.length pz
        rw [List.length_range] at lz
        refine ⟨_, rfl, _, rfl, D, l, zs, _, rfl, SqL.of hz, SqL.of hlf3, fun D2 hD2 => lc_genF (J := Itz K D l) (n := 2 ^ n) (tripAt (facG p n bs)) (fun _ => true) (fun i => i) (fun _ _ _ _ e r => tripAt.tm e r) (by omega) hD2 (fun i H4 hi s4 => ?_) (fun H4 s4 => ?_) (fun i H4 x H5 hi s4 y => ?_) (fun H4 ys s4 hy py => ?_)⟩
        · exact ⟨zs, _, _, _, SqL.of (s4 _ _ hz), SqL.of (s4 _ _ hlf3), List.getElem?_eq_getElem (by omega), Lf_get hi⟩
        · exact ⟨zs, _, SqL.of (s4 _ _ hz), SqL.of (s4 _ _ hlf3), .inl (by omega)⟩
        · obtain ⟨T, x1, y1, rfl, hT, rfl, f1, f2⟩ := y
          have f1 := f1 _ (SqL.of (s4 _ _ hz))
          have f2 := f2 _ (SqL.of (s4 _ _ hlf3))
          rw [Lf_get hi] at f2
          have f2 := (Option.some.inj f2).symm
          subst f2
          obtain ⟨t, ht, pt, rfl, hpt⟩ := Paired.getL pz f1
          rw [List.getElem?_range hi] at ht
          have ht := Option.some.inj ht
          subst ht
          have sT := same_new (o := .tup [V.ref pt, V.int (Gm p (fT bs) n i)]) hT
          refine ⟨sT, _, fun Kk q => ⟨T, _, rfl, SqT.of upd_same, rfl, _, _, rfl, _, _, rfl, rfl, q⟩, rfl, fun Q q => q _ (Same.refl _), fun _ H6 s6 Q q => ?_⟩
          have hpt6 := s6 _ _ (sT _ _ (s4 _ _ hpt))
          refine ⟨_, rfl, pt, nIs (insOf i), rfl, .inr (SqT.of hpt6), _, rfl, _, rfl, by show 3 ≤ sizeLine; decide, fun b hb => q _ _ (same_new hb) ⟨b, pt, rfl, ?_, ?_⟩⟩
          · rw [upd_same, nIs_len]
            rfl
          · exact same_new hb _ _ hpt6
        · have et : (List.filter (fun _ => true) (List.range (2 ^ n))).map (fun i => i) = List.range (2 ^ n) := by
            rw [List.map_id', List.filter_eq_self.mpr (fun _ _ => rfl)]
          rw [et] at py
          have s14 := s13.trans s4
          refine ⟨D2, ys, Nat, List.range (2 ^ n), encT (facG p n bs), tripAt (facG p n bs) H4, rfl, SqL.of hy, py, fun v b r => ?_, fun v b r => Rp.dp _ _ (tripAt.rp r), ?_, ?_, fun b _ => depth_enc _ b, fun zs2 D3 p3 hD3 => ?_⟩
          · obtain ⟨b, _, e, _⟩ := r
            exact ⟨b, e⟩
          · intro d hd d' hd'
            obtain ⟨t, _, rfl⟩ := List.mem_map.mp hd
            obtain ⟨u, _, rfl⟩ := List.mem_map.mp hd'
            exact alike_enc _ t u
          · refine .inl fun d hd => ?_
            obtain ⟨t, _, rfl⟩ := List.mem_map.mp hd
            exact ⟨_, _, rfl⟩
          · have s5 := same_new (o := .lst zs2) hD3
            have s15 := s14.trans s5
            have l3 := Paired.length p3
            rw [List.length_mergeSort, List.length_range] at l3
            obtain ⟨ts, ets⟩ : ∃ ts, ts = (List.range (2 ^ n)).mergeSort (PySem.W.dataLe false (encT (facG p n bs))) := ⟨_, rfl⟩
            rw [← ets] at p3
            have hzd : upd H4 D3 (.lst zs2) D3 = some (.lst zs2) := upd_same
            have p3' : Paired (tripAt (facG p n bs) (upd H4 D3 (.lst zs2))) zs2 ts := paired_mono (fun _ _ r => tripAt.tm (.of s5) r) p3
            have lts : ts.length = zs2.length := (Paired.length p3').symm
            refine ⟨_, rfl, D3, rfl, ⟨_, SqL.of hzd⟩, fun D4 hD4 => lc_genF (J := Itl K D3) (n := zs2.length) (partAt (facG p n bs)) (fun i => facG p n bs (ts.getD i 0) != 0) (fun i => ts.getD i 0) (fun _ _ _ _ e r => partAt.tm e r) (by omega) hD4 (fun i H6 hi s6 => ?_) (fun H6 s6 => ?_) (fun i H6 x H7 hi s6 y => ?_) (fun H6 ws s6 hw pw => ?_)⟩
            · exact ⟨zs2, _, SqL.of (s6 _ _ hzd), List.getElem?_eq_getElem hi⟩
            · exact ⟨zs2, SqL.of (s6 _ _ hzd), Nat.le_refl _⟩
            · obtain ⟨rfl, f1⟩ := y
              have f1 := f1 _ (SqL.of (s6 _ _ hzd))
              obtain ⟨t, ht, b, pt, rfl, hb, hpt⟩ := Paired.getL p3' f1
              have et : ts.getD i 0 = t := by rw [List.getD_eq_getElem?_getD, ht]; rfl
              have hb6 := s6 _ _ hb
              have hpt6 := s6 _ _ hpt
              rw [et]
              refine ⟨Same.refl _, _, fun Kk q => ⟨b, _, rfl, SqT.of hb6, rfl, _, _, rfl, _, _, rfl, _, _, rfl, rfl, q⟩, rfl, fun Q q => ⟨_, rfl, rfl, _, ?_, q _ (Same.refl _)⟩, fun _ H8 s8 Q q => ?_⟩
              · refine congrArg V.bl ?_
                rw [dec_int]
                rfl
              · exact ⟨_, rfl, _, rfl, by show 2 ≤ sizeLine; decide, fun b2 hb2 => q _ _ (same_new hb2) ⟨b2, pt, rfl, upd_same, same_new hb2 _ _ (s8 _ _ hpt6)⟩⟩
            · rw [← lts, filter_at ts fun t => facG p n bs t != 0] at pw
              refine .inl ⟨D4, ws, rfl, SqL.of hw, fun p hp => q _ _ ((s15.trans s6).trans (same_new hp)) ⟨p, ws, rfl, upd_same, ?_⟩⟩
              unfold polyL
              rw [← ets]
              exact paired_mono (fun _ _ r => partAt.tm (.of (same_new hp)) r) pw
    · refine ⟨_, rfl, pq, rfl, fv, .inl ⟨pin, ?_⟩⟩
      exact ⟨_, rfl, tv, d, rfl, hd, hl, .inr ⟨tb, bad⟩⟩
    · exact ⟨_, rfl, pq, rfl, fv, .inr ⟨pin, bad⟩⟩
end
end Lt

set_option Elab.async false
set_option linter.all false
set_option maxRecDepth 100000
set_option maxHeartbeats 2000000
/-! tasks.py: degree, all_of -/
namespace Lt
open PySem PySem.Spec PyProof.Rows L2
def degV (ts : List Nat) : V := if ts = [] then .non else nI ((ts.map fun t => (insOf t).length).foldl max 0)
def allT (m : Nat) : List Nat := List.replicate (2 ^ m - 1) 0 ++ [1]
section
variable {P : Program} {w : World} {K : PySem.W.Frag} {mg : Str → Option Value} {base : Heap} {CN CT : Addr}
def spDeg (CN CT : Addr) : Sp := fun vs H Q E => ∃ (pq tv : V) (d : PyData), vs = [pq, tv] ∧ flatV pq = true ∧ Rp H tv d ∧ (∀ ds, d = .tuple ds → ds.length ≤ 1000) ∧
  ((∃ p n bs, pq = nI p ∧ TK H tv bs ∧ d = dT bs ∧ Tsk p n bs ∧ ∀ H', Same H H' → Q (degV (polyL p n bs)) H') ∨
   (inV pq ([2, 3, 5, 7].map V.int) = true ∧ isTab d = false ∧ Bad0 CT H E) ∨ (inV pq ([2, 3, 5, 7].map V.int) = false ∧ Bad0 CN H E))
theorem sc_degree : FnScope ["prime", "table", "part", "_"] ["prime", "table"] (defScope s_degree) := ⟨rfl, rfl, rfl, by decide +kernel, rfl, by decide +kernel, by decide +kernel⟩
theorem polyL_len (p n : Nat) (bs : List Nat) : (polyL p n bs).length ≤ 2 ^ n := by
  unfold polyL
  refine Nat.le_trans (List.length_filter_le _ _) ?_
  rw [List.length_mergeSort, List.length_range]
  exact Nat.le_refl _
theorem has_degree (T : Top K mg "degree" s_degree ["prime", "table"]) (B : Bi mg) (bm : mg "max" = none) (hP : Has P w K mg base (L2.CX P w) 4 "polynomial" ["prime", "table"] (spPoly CN CT)) : Has P w K mg base (L2.CX P w) 5 "degree" ["prime", "table"] (spDeg CN CT) := by
  refine T.okX sc_degree (fun vs H Q E h => ?_) (fun f cdv A outer s H vs Q E hr h => ?_)
  · obtain ⟨pq, tv, d, rfl, _⟩ := h
    rfl
  · obtain ⟨pq, tv, d, rfl, fv, hd, hl, cs⟩ := h
    have hu := hr.units
    have hu1 : (A.deeper (envOfC "degree" (defScope s_degree) s.heap.objs.size f cdv)).units + 1 < cLine := by omega
    refine ⟨_, pss_one (ps_ret (pe_callBK (cr_maxDN (by rfl) (by exact hu1)) (by rfl) bm (by rfl) (pa_cons (pe_lc (own := [("part", 2), ("_", 3)]) (g := gTup K 2 (gCons (gName 2) (gCons (gName 3) gNil))) (te := tCB (rLenS K) (tCons (tVar 2) tNil)) (by rfl) sc_degree.nd (pi_tup (pe_hasX (E := E) hP hr (by rfl) (passes_call (takes_of rfl rfl rfl rfl) (fun _ _ _ _ h => h)) (pa_cons (pv 0) (pa_cons (pv 1) pa_nil)))) (blkOk_by (own := [("part", 2), ("_", 3)]) (N := ["prime", "table", "part", "_"]) (sc := defScope s_degree) (by decide +kernel))
        (fun _ _ _ _ _ => pg_tup rfl (pgs_cons (pg_name (i := 2) sc_degree.nd rfl (Or.inl rfl)) (pgs_cons (pg_name (i := 3) sc_degree.nd rfl (Or.inl rfl)) pgs_nil))) (fun _ _ _ _ _ => pts_nil) (fun _ _ _ _ _ => pe_callB call_len_seq (by rfl) B.len PySem.boot_len (pa_cons (pv 2) pa_nil))) pa_nil) (pk_cons pe_non pk_nil))), ?_⟩
    rcases cs with ⟨p, n, bs, rfl, hT, rfl, tk, q⟩ | ⟨pin, tb, bad⟩ | ⟨pin, bad⟩
    · have hlp := Nat.le_trans (polyL_len p n bs) (pow6 tk.n6)
      refine ⟨_, rfl, _, rfl, nI p, tv, dT bs, rfl, fv, hd, hl, .inl ⟨p, n, bs, rfl, hT, rfl, tk, fun v H1 s1 pa => ?_⟩⟩
      obtain ⟨a, xs, rfl, ha, hx⟩ := pa
      have hxl := Paired.length hx
      refine ⟨a, rfl, ⟨xs, SqT.of ha⟩, fun D hD => lc_genF (J := Itt K a) (n := xs.length) RN (fun _ => true) (fun i => (insOf ((polyL p n bs).getD i 0)).length) (fun _ _ _ _ e r => r) (by omega) hD (fun i H4 hi s4 => ⟨xs, _, SqT.of (s4 _ _ ha), List.getElem?_eq_getElem hi⟩) (fun H4 s4 => ⟨xs, SqT.of (s4 _ _ ha), Nat.le_refl _⟩) (fun i H4 x H5 hi s4 y => ?_) (fun H4 ys s4 hy py => ?_)⟩
      · obtain ⟨rfl, f1⟩ := y
        have f1 := f1 _ (SqT.of (s4 _ _ ha))
        obtain ⟨t, ht, b, pt, rfl, hb, hpt⟩ := Paired.getL hx f1
        have et : (polyL p n bs).getD i 0 = t := by rw [List.getD_eq_getElem?_getD, ht]; rfl
        rw [et]
        refine ⟨Same.refl _, _, fun Kk q => ⟨b, _, rfl, SqT.of (s4 _ _ hb), rfl, _, _, rfl, _, _, rfl, rfl, q⟩, rfl, fun Q q => q _ (Same.refl _), fun _ H8 s8 Q q => ?_⟩
        exact ⟨_, rfl, pt, nIs (insOf t), rfl, .inr (SqT.of (s8 _ _ (s4 _ _ hpt))), q _ _ (Same.refl _) (by show V.int _ = V.int _; rw [nIs_len])⟩
      · have ey := RN.all py
        subst ey
        have e2 : ((List.range xs.length).filter (fun _ => true)).map (fun i => (insOf ((polyL p n bs).getD i 0)).length) = (polyL p n bs).map fun t => (insOf t).length := by
          rw [hxl]
          have h := filter_at (polyL p n bs) (fun _ => true)
          have h2 : (polyL p n bs).filter (fun _ => true) = polyL p n bs := List.filter_eq_self.mpr fun _ _ => rfl
          rw [h2] at h
          have h3 := congrArg (List.map fun t => (insOf t).length) h
          rw [List.map_map] at h3
          exact h3
        rw [e2] at hy
        refine ⟨D, _, rfl, rfl, SqL.of hy, ?_⟩
        have q' := q H4 (s1.trans s4)
        have e3 : degV (polyL p n bs) = if (polyL p n bs).map (fun t => (insOf t).length) = [] then V.non else nI (((polyL p n bs).map fun t => (insOf t).length).foldl max 0) := by
          unfold degV
          by_cases z : polyL p n bs = []
          · rw [if_pos z, if_pos (by rw [z]; rfl)]
          · rw [if_neg z, if_neg (fun y => z (List.map_eq_nil_iff.mp y))]
        rw [e3] at q'
        exact q'
    · exact ⟨_, rfl, _, rfl, pq, tv, d, rfl, fv, hd, hl, .inr (.inl ⟨pin, tb, bad⟩)⟩
    · exact ⟨_, rfl, _, rfl, pq, tv, d, rfl, fv, hd, hl, .inr (.inr ⟨pin, bad⟩)⟩
def spAll (CN : Addr) : Sp := fun vs H Q E => ∃ (v : V) (d : PyData), vs = [v] ∧ Rp H v d ∧ ((∃ m : Nat, d = .int m ∧ 1 ≤ m ∧ m ≤ 6 ∧ ∀ u H', Same H H' → TK H' u (allT m) → Q u H') ∨ (outD d ∧ Bad0 CN H E))
theorem sc_all_of : FnScope ["inputs"] ["inputs"] (defScope s_all_of) := ⟨rfl, rfl, rfl, by decide +kernel, rfl, by decide +kernel, by decide +kernel⟩
theorem rep_flat (k : Nat) : (List.replicate k [V.int 0]).flatten = nIs (List.replicate k 0) := by
  induction k with
  | zero => rfl
  | succ k ih =>
    rw [List.replicate_succ, List.flatten_cons, ih, List.replicate_succ]
    rfl
theorem has_all_of (T : Top K mg "all_of" s_all_of ["inputs"]) (B : Bi mg) (hC : Has P w K mg base (L2.CX P w) 3 "check_inputs" ["inputs"] (spCheckI CN)) : Has P w K mg base (L2.CX P w) 4 "all_of" ["inputs"] (spAll CN) := by
  refine T.okX sc_all_of (fun vs H Q E h => ?_) (fun f cdv A outer s H vs Q E hr h => ?_)
  · obtain ⟨v, d, rfl, _⟩ := h
    rfl
  · obtain ⟨v, d, rfl, hd, cs⟩ := h
    refine ⟨_, pss_cons (ps_expr (pe_hasX (E := E) hC hr (by rfl) (passes_call (takes_of rfl rfl rfl rfl) (fun _ _ _ _ h => h)) (pa_cons (pv 0) pa_nil)))
      (pss_one (ps_ret (pe_op op_catA (pe_op op_repA (pe_tup (pa_cons pe_int pa_nil)) (pe_op op_sub (pe_op op_shl pe_int (pv 0)) pe_int)) (pe_tup (pa_cons pe_int pa_nil))))), ?_⟩
    rcases cs with ⟨m, rfl, h1, h6, q⟩ | ⟨out, bad⟩
    · cases hd
      have h64 := pow6 h6
      have hpos : 2 ≤ 2 ^ m := by
        obtain ⟨j, rfl⟩ : ∃ j, m = j + 1 := ⟨m - 1, by omega⟩
        have := Nat.two_pow_pos j
        rw [Nat.pow_succ]
        omega
      refine ⟨_, rfl, _, .int m, rfl, .int _, .inl ⟨m, rfl, h1, h6, ?_⟩⟩
      have e1 : (1 : Int) * 2 ^ (m : Int).toNat - 1 = ((2 ^ m - 1 : Nat) : Int) := by
        rw [Int.toNat_natCast, Int.one_mul, Int.natCast_sub (by omega), Int.natCast_pow]
        rfl
      refine ⟨by show 1 ≤ sizeLine; decide, fun l hl => ⟨_, rfl, 1, (m : Int), rfl, rfl, ⟨by omega, by omega, by decide⟩, _, 1, rfl, rfl, ?_⟩⟩
      have s0 := same_new (o := .tup [V.int 0]) hl
      show rRepA K (.ref l) (.int ((1 : Int) * 2 ^ (m : Int).toNat - 1)) _ _
      rw [e1]
      have fin : ∀ (a : Addr) (H1 : Hp), Same H H1 → H1 a = some (.tup (nIs (List.replicate (2 ^ m - 1) 0))) → tTup (tCons (tC (.int 1)) tNil) (start ["inputs"] [nI m]) H1 (fun y H2 => rCatA K (.ref a) y H2 Q) := fun a H1 s1 ha => by
        refine ⟨by show 1 ≤ sizeLine; decide, fun b hb => ?_⟩
        have s2 := same_new (o := .tup [V.int 1]) hb
        refine ⟨a, b, _, _, rfl, rfl, SqT.of (s2 _ _ ha), SqT.of upd_same, ?_, fun z => ?_, fun _ z => (by cases z), fun _ _ c hc => q _ _ ((s1.trans s2).trans (same_new hc)) ⟨c, rfl, ?_⟩⟩
        · rw [nIs_len, List.length_replicate, sizeLine_eq]
          show 2 ^ m - 1 + 1 ≤ _
          omega
        · have := congrArg List.length z
          rw [nIs_len, List.length_replicate] at this
          change 2 ^ m - 1 = 0 at this
          omega
        · rw [upd_same]
          unfold allT nIs
          rw [List.map_append]
          rfl
      refine ⟨l, ((2 ^ m - 1 : Nat) : Int), [V.int 0], rfl, rfl, SqT.of upd_same, (fun z => (by cases z)), (by omega), (by omega), (by show 1 ≤ 1000; decide), fun z => ?_, fun z p hp => ?_⟩
      · refine fin l _ s0 ?_
        have : 2 ^ m - 1 = 1 := by omega
        rw [this]
        exact upd_same
      · refine fin p _ (s0.trans (same_new hp)) ?_
        rw [upd_same, Int.toNat_natCast, rep_flat]
    · exact ⟨_, rfl, v, d, rfl, hd, .inr ⟨out, bad⟩⟩
end
end Lt

set_option Elab.async false
set_option linter.all false
set_option maxRecDepth 100000
set_option maxHeartbeats 2000000
/-! sum of a tuple of numbers -/
namespace Lt
open PySem PySem.Spec PyProof.Rows L2
def rSumT (K : PySem.W.Frag) : List V → Hp → VK → Prop := fun vs H Q => ∃ (a : Addr) (ns : List Nat), vs = [V.ref a] ∧ SqT K H a (nIs ns) ∧ Q (nI ns.sum) H
theorem preSum_nats {its : List Value} : ∀ (ns : List Nat) (k : Nat), k ≤ ns.length → preSum (fun i => ((ns.getD i 0 : Nat) : Int)) k = (((ns.take k).sum : Nat) : Int)
  | ns, 0, _ => by simp [preSum]
  | ns, k + 1, h => by
    show preSum (fun i => ((ns.getD i 0 : Nat) : Int)) k + ((ns.getD k 0 : Nat) : Int) = _
    rw [preSum_nats (its := its) ns k (by omega), List.take_add_one, List.sum_append, List.getElem?_eq_getElem (show k < ns.length by omega), List.getD_eq_getElem?_getD, List.getElem?_eq_getElem (show k < ns.length by omega)]
    simp
theorem cr_sumT {X : Cx} (hc : X.calm = true) : CallR X (.builtin "sum") (rSumT X.K) := by
  intro pins s σ H vs us Q I r h
  obtain ⟨a, ns, rfl, hs, q⟩ := h
  obtain rfl := Vals.ref1 r
  obtain ⟨its, rv, p, _⟩ := I.tuple hs
  have hlen : its.length = ns.length := by
    have := rv.length
    rw [nIs_len] at this
    exact this.symm
  obtain ⟨o, ho, hcl, hd⟩ := id p
  have hlt : a < s.heap.objs.size := Heap.lt_size ho
  refine call_sum_walkG (wpAny_pyIter_tuple p ?_)
  refine ⟨s.heap.objs.size, [s.heap.objs.size, a], [s.heap.objs.size], its.toArray.size, _, _, (fun i => ((ns.getD i 0 : Nat) : Int)), rfl, Walks.tuple (A := X.A.in1) (I.ok.hd hc) _ a (Nat.ne_of_lt hlt) its.toArray, ⟨⟨_, Heap.get?_push_size _ rfl, rfl, rfl⟩, (show s.heap.IsTuple a its.toArray from p).at fun o e => Heap.get?_push_of_some _ e⟩, fun b hb => ?_, fun i v hv => ?_, fun h' tk t' hk => ?_⟩
  · show b < (s.heap.push _).objs.size
    rw [Heap.size_push]
    have : b = s.heap.objs.size ∨ b = a := by simpa using hb
    rcases this with e | e
    · rw [e]; exact Nat.lt_succ_self _
    · rw [e]; exact Nat.lt_succ_of_lt hlt
  · have hv : its.toArray[i]? = some v := hv
    rw [List.getElem?_toArray] at hv
    have hi := (List.getElem?_eq_some_iff.mp hv).1
    obtain ⟨u, hu, ru⟩ := rv.get (i := i) (x := nI (ns.getD i 0)) (by rw [nIs_get, List.getElem?_eq_getElem (by omega), List.getD_eq_getElem?_getD, List.getElem?_eq_getElem (by omega)]; rfl)
    rw [hv] at hu
    cases hu
    exact ru
  · rw [List.size_toArray, hlen, preSum_nats (its := its) ns _ (Nat.le_refl _), List.take_length]
    have kept : ∀ b o, s.heap.get? b = some o → h'.get? b = some o := fun b o e => hk b o (fun hm => by
      have hm : b = s.heap.objs.size := by simpa using hm
      exact absurd (hm ▸ Heap.lt_size e) (Nat.lt_irrefl _)) (Heap.get?_push_of_some _ e)
    exact ⟨nI _, H, I.kept kept, ⟨_, rfl⟩, q⟩
end Lt

set_option Elab.async false
set_option linter.all false
set_option maxRecDepth 100000
set_option maxHeartbeats 2000000
/-! _law_parts: the pieces -/
namespace Lt
open PySem PySem.Spec PyProof.Rows L2 NdefX LamX LmX
/-- a def of the top whose code is known -/
def TopC (K : PySem.W.Frag) (mg : Str → Option Value) (x : Str) (st : Stmt) (ps : List Str) (c : Addr) : Prop := ∃ (f : Addr) (oc : Value) (od : Option Addr) (dV kV doc pm : Value) (an : Option Addr) (ct : Value) (osl : Array (Option Value)),
  mg x = some (.ref f) ∧ K.lookup f = some ⟨oc, od, .func (PySem.W.fnOf x x (defArgs st) (defBody st) (defScope st) dV kV doc pm an (.ref c) ct), osl⟩ ∧ PySem.W.codeIn K (.ref c) x = true ∧ PySem.W.keepIn K (.ref f) = true ∧ Binds K (PySem.W.fnOf x x (defArgs st) (defBody st) (defScope st) dV kV doc pm an (.ref c) ct) ps []
def kwV : Expr → Expr
  | .Call _ _ (k :: _) _ => k.value
  | _ => noX
abbrev q_lamP : Str := "_law_parts.<locals>." ++ "<lambda>"
abbrev parN : List Str := ["prime", "table", "rows", "found", "bits", "total", "own", "one", "small", "great", "at", "bit"]
theorem sc_law_parts : FnScope parN ["prime", "table"] (defScope s_law_parts) := ⟨rfl, rfl, rfl, by decide +kernel, rfl, by decide +kernel, by decide +kernel⟩
def klm : Expr := kwV (valX ((defBody s_law_parts).getD 2 (.Pass ⟨0, 0, 0, 0⟩)))
theorem nsck : NScope ["part"] ["part"] [] (lamS klm) := nscope_by (by decide +kernel)
theorem lbk : ndefB (defScope s_law_parts) (lamS klm) [] = true := by decide +kernel
/-- no one lies above -/
theorem sub_none : ∀ (a b : List Nat), a.length = b.length → ((((List.range a.length).filter fun k => decide (b.getD k 0 < a.getD k 0)) = []) ↔ subL a b = true)
  | [], [], _ => ⟨fun _ => rfl, fun _ => rfl⟩
  | x :: a, y :: b, h => by
    have ih := sub_none a b (by simpa using h)
    rw [List.length_cons, List.range_succ_eq_map, List.filter_cons, List.filter_map]
    have e : ((fun k => decide ((y :: b).getD k 0 < (x :: a).getD k 0)) ∘ Nat.succ) = fun k => decide (b.getD k 0 < a.getD k 0) := rfl
    have e2 : subL (x :: a) (y :: b) = (decide (x ≤ y) && subL a b) := rfl
    rw [e, e2, Bool.and_eq_true]
    show (if decide (y < x) = true then _ else _) = [] ↔ _
    by_cases hxy : y < x
    · rw [if_pos (decide_eq_true hxy)]
      exact ⟨fun z => (by cases z), fun z => absurd (of_decide_eq_true z.1) (by omega)⟩
    · rw [if_neg (by simpa using hxy), List.map_eq_nil_iff, ih]
      exact ⟨fun z => ⟨decide_eq_true (by omega), z⟩, fun z => z.2⟩
  | [], _ :: _, h => by cases h
  | _ :: _, [], h => by cases h
theorem insOf_low {n t : Nat} (hn : n ≤ 6) (ht : t < 2 ^ n) : (List.range n).filter (fun k => (bitsR n t).getD k 0 == 1) = insOf t := by
  unfold insOf
  have e : 6 = n + (6 - n) := by omega
  rw [e, List.range_add, List.filter_append]
  have h2 : List.filter (fun i => t / 2 ^ i % 2 == 1) ((List.range (6 - n)).map fun x => n + x) = [] := by
    rw [List.filter_eq_nil_iff]
    intro x hx
    obtain ⟨j, _, rfl⟩ := List.mem_map.mp hx
    have : t / 2 ^ (n + j) = 0 := Nat.div_eq_of_lt (Nat.lt_of_lt_of_le ht (Nat.pow_le_pow_right (by decide) (by omega)))
    rw [this]
    decide
  rw [h2, List.append_nil]
  refine List.filter_congr fun k hk => ?_
  have hk := List.mem_range.mp hk
  rw [List.getD_eq_getElem?_getD, bitsR_get hk]
  rfl
theorem sg_eq (a b : List Nat) : (if decide (V.int (Int.fmod (((b.sum : Nat) : Int) - ((a.sum : Nat) : Int)) 2) = V.int 0) = true then (1 : Int) else 0 - 1) = sgL a b := by
  unfold sgL
  rw [Int.fmod_eq_emod_of_nonneg _ (by decide)]
  by_cases h : (((b.sum : Nat) : Int) - ((a.sum : Nat) : Int)) % 2 = 0
  · rw [if_pos (decide_eq_true (by rw [h])), if_pos (.inr h)]
  · rw [if_neg (fun z => h (by have := of_decide_eq_true z; injection this)), if_neg (fun z => z.elim (fun y => h (by rw [y]; rfl)) h)]
/-- the sum over the first places -/
def psum (n : Nat) (f : Nat → Int) (t j : Nat) : Int := ((List.range j).map fun s => tmL (f s) (bitsR n s) (bitsR n t)).sum
theorem psum_succ (n : Nat) (f : Nat → Int) (t j : Nat) : psum n f t (j + 1) = psum n f t j + tmL (f j) (bitsR n j) (bitsR n t) := by
  unfold psum
  rw [List.range_succ, List.map_append, List.sum_append]
  simp
theorem fac_mod {p n : Nat} {bs : List Nat} {t : Nat} (tk : Tsk p n bs) (ht : t < 2 ^ n) : Int.fmod (psum n (fT bs) t (2 ^ n)) p = facG p n bs t := by
  obtain ⟨_, p2, p7⟩ := prime_in tk.hp
  have hf : ∀ t, 0 ≤ fT bs t ∧ fT bs t < (p : Int) := fun t => by
    unfold fT
    have : bs.getD t 0 ≤ 1 := by
      by_cases h : t < bs.length
      · rw [List.getD_eq_getElem?_getD, List.getElem?_eq_getElem h]
        exact tk.b1 _ (List.getElem_mem h)
      · rw [List.getD_eq_getElem?_getD, List.getElem?_eq_none (by omega)]
        exact Nat.zero_le _
    omega
  unfold facG
  rw [Gm_eq (by omega) hf ht, ← tot_Tm, Int.fmod_eq_emod_of_nonneg _ (by omega)]
  rfl
def PartsL (g : Nat → Int) (H : Hp) (l : Addr) (ts : List Nat) : Prop := ∃ xs, H l = some (.lst xs) ∧ Paired (partAt g H) xs ts
section
variable {P : Program} {w : World} {K : PySem.W.Frag} {mg : Str → Option Value} {base : Heap} {c2 P2 : Addr}
abbrev PX (P : Program) (w : World) (K : PySem.W.Frag) (mg : Str → Option Value) (base : Heap) (f : Addr) (cd : Value) (A : Around) (outer : List Env) (s : Shared) (H : Hp) (E : XK) : Cx := cxOf CX0 P w K mg base parN "_law_parts" (defScope s_law_parts) f cd A outer s H E
def tSub (K : PySem.W.Frag) : L2.TT := tTest (tOp (rI0 fun i j => .bl (decide (j < i))) (tVar 8) (tVar 9))
def tOn (K : PySem.W.Frag) : L2.TT := tTest (tOp rEq (tVar 11) (tC (.int 1)))
end
end Lt

set_option Elab.async false
set_option linter.all false
set_option maxRecDepth 100000
set_option maxHeartbeats 4000000
/-! _law_parts -/
namespace Lt
open PySem PySem.Spec PyProof.Rows L2 NdefX LamX LmX
theorem lens_at : ∀ m, m < 6 → (tabLens.map V.int)[m]? = some (.int ((2 ^ (m + 1) : Nat) : Int)) := by
  intro m hm
  have : m = 0 ∨ m = 1 ∨ m = 2 ∨ m = 3 ∨ m = 4 ∨ m = 5 := by omega
  rcases this with rfl | rfl | rfl | rfl | rfl | rfl <;> rfl
theorem lens_no {n m : Nat} {z : V} (h6 : n ≤ 6) (hm : m < n - 1) (hz : (tabLens.map V.int)[m]? = some z) : eqV z (.int ((2 ^ n : Nat) : Int)) = false := by
  rw [lens_at m (by omega)] at hz
  cases hz
  show (((2 ^ (m + 1) : Nat) : Int) == ((2 ^ n : Nat) : Int)) = false
  rw [beq_eq_false_iff_ne]
  intro e
  have e : 2 ^ (m + 1) = 2 ^ n := by omega
  have := Nat.pow_lt_pow_right (a := 2) (by decide) (show m + 1 < n by omega)
  omega
section
variable {P : Program} {w : World} {K : PySem.W.Frag} {mg : Str → Option Value} {base : Heap} {c2 P2 : Addr}
def spParts (TS : List (Addr × Str)) : Sp := fun vs H Q _ => ∃ (p : Nat) (bs : List Nat) (n : Nat) (v : V), vs = [nI p, v] ∧ Tsk p n bs ∧ TK H v bs ∧ Tabs TS H ∧ ∀ l H', ExtN H H' → Tabs TS H' → PartsL (facG p n bs) H' l (polyL p n bs) → Q (.ref l) H'
/-- what is known of a turn's rows -/
structure RwAt (H : Hp) (lr : Addr) (rs : List V) (n : Nat) : Prop where
  at_ : H lr = some (.lst rs)
  pr : Paired (TK H) rs (rowsB n)
theorem RwAt.same {H H' : Hp} {lr : Addr} {rs : List V} {n : Nat} (h : RwAt H lr rs n) (s : Same H H') : RwAt H' lr rs n := ⟨s _ _ h.at_, paired_mono (fun _ _ r => TK.tm (.of s) r) h.pr⟩
theorem sh_Ln (t : List Nat) : SeqAt.shaped (.list (t.map dN)) = true := by
  show (PyData.canLayAll0 (t.map dN) && decide (PyData.depthAll (t.map dN) + 1 ≤ 64)) = true
  rw [can_nats, depth_nats]
  rfl
theorem eqv_nil0 (t : List Nat) : PyData.eqv (.list (t.map dN)) (.list []) = decide (t = []) := by
  cases t with
  | nil => rfl
  | cons => rfl
theorem RwAt.mut {H : Hp} {lr lf : Addr} {rs xs ys : List V} {n : Nat} (h : RwAt H lr rs n) (hf : H lf = some (.lst xs)) (hne : lr ≠ lf) : RwAt (upd H lf (.lst ys)) lr rs n :=
  ⟨(upd_ne hne).trans h.at_, paired_mono (fun _ _ r => TK.tm (Tm.lst hf) r) h.pr⟩
theorem filt_one {q : Nat → Bool} {n : Nat} : ((List.range n).filter q).map (fun _ => 1) = [] ↔ (List.range n).filter q = [] := List.map_eq_nil_iff
theorem has_law_parts {TS : List (Addr × Str)} (T : TopC K mg "_law_parts" s_law_parts ["prime", "table"] c2) (B : Bi mg) (bz : mg "zip" = none) (bsum : mg "sum" = none) (TB : TabB base mg c2 P2) (hm : (P2, q_lamP) ∈ TS) (hone : ∀ p ∈ TS, p.1 = P2 → p.2 = q_lamP)
    (hBt : Has P w K mg base CX0 1 "_law_bits" ["inputs"] spLBits) : Has P w K mg base CX0 6 "_law_parts" ["prime", "table"] (spParts TS) := by
  obtain ⟨f, oc, od, dV, kV, doc, pm, an, ct, osl, hg, lk, hcd, kp, hb⟩ := T
  refine ⟨f, _, hg, kp, hb, fn_of lk hcd sc_law_parts (fun vs H Q E h => ?_) fun A outer s H vs Q E hr h => ?_⟩
  · obtain ⟨p, bs, n, v, rfl, _⟩ := h
    rfl
  obtain ⟨p, bs, n, v, rfl, tk, ⟨a, rfl, ha⟩, hT, q⟩ := h
  have hu := hr.units
  have hr1 : Room 1 (PX P w K mg base f (.ref c2) A outer s H E).A := hr.mono (by decide)
  have hu64 : (PX P w K mg base f (.ref c2) A outer s H E).A.units + 64 < cLine := hu
  have h64 := pow6 tk.n6
  have n1 := tk.n1
  have n6 := tk.n6
  have hlen := tk.len
  obtain ⟨_, p2, p7⟩ := prime_in tk.hp
  have hN : (nIs bs).length = 2 ^ n := by rw [nIs_len, hlen]
  refine ⟨_, pss_cons (ps_par (i := 2) (j := 3) (by rfl) sc_law_parts.nd rfl rfl (by decide) rfl rfl (pa_cons (pe_has hBt hr1 (by rfl) (pa_cons (pe_op op_add (pe_bm PySem.F.plainAttrs_list PySem.F.slot_list_index PySem.F.type_list_index mt_index (pe_lst (pa_cons pe_int (pa_cons pe_int (pa_cons pe_int (pa_cons pe_int (pa_cons pe_int (pa_cons pe_int pa_nil)))))))  (pa_cons (pe_callB call_len_seq (by rfl) B.len PySem.boot_len (pa_cons (pv 1) pa_nil)) pa_nil)) pe_int) pa_nil)) (pa_cons (pe_lst pa_nil) pa_nil)) (by rfl))
    (pss_cons (ps_for (passes_of rfl) rfl (pi_list (pv 2)) (pg_name (i := 4) sc_law_parts.nd rfl (Or.inl rfl))
      (pss_cons (ps_set (i := 5) sc_law_parts.nd rfl (Or.inl rfl) pe_int)
      (pss_cons (ps_for (passes_of rfl) rfl (pi_zipM (by rfl) bz (pa_cons (pv 2) (pa_cons (pv 1) pa_nil))) (pg_tup rfl (pgs_cons (pg_name (i := 6) sc_law_parts.nd rfl (Or.inl rfl)) (pgs_cons (pg_name (i := 7) sc_law_parts.nd rfl (Or.inl rfl)) pgs_nil)))
        (pss_one (ps_if (pt_cmpR (op_eqD hu64) (pe_lc (own := [("small", 8), ("great", 9)]) (g := gTup K 2 (gCons (gName 8) (gCons (gName 9) gNil))) (te := tC (.int 1)) (tt := tSub K) (by rfl) sc_law_parts.nd (RZ.pi_zipA (by rfl) bz (pa_cons (pv 6) (pa_cons (pv 4) pa_nil))) (blkOk_by (own := [("small", 8), ("great", 9)]) (N := parN) (sc := defScope s_law_parts) (by decide +kernel))
            (fun _ _ _ _ _ => pg_tup rfl (pgs_cons (pg_name (i := 8) sc_law_parts.nd rfl (Or.inl rfl)) (pgs_cons (pg_name (i := 9) sc_law_parts.nd rfl (Or.inl rfl)) pgs_nil))) (fun _ _ _ _ _ => pts_one (pt_cmpR op_gt (pv 8) (pv 9) (nomark _))) (fun _ _ _ _ _ => pe_int)) (pe_lst pa_nil) (nomark _))
          (pss_one (ps_set (i := 5) sc_law_parts.nd rfl (Or.inl rfl) (pe_op op_add (pv 5) (pe_op op_mul (pv 7) (pe_ifExp (pt_cmpR op_eq (pe_op op_modN (pe_op op_sub (pe_callB (cr_sumT (by rfl)) (by rfl) bsum (by rfl) (pa_cons (pv 4) pa_nil)) (pe_callB (cr_sumT (by rfl)) (by rfl) bsum (by rfl) (pa_cons (pv 6) pa_nil))) pe_int) pe_int (nomark _)) pe_int (pe_op op_sub pe_int pe_int)))))) pss_nil)))
      (pss_one (ps_if (pt_cmpR op_ne (pe_op op_modN (pv 5) (pv 0)) pe_int (nomark _))
        (pss_one (ps_expr (pe_bm PySem.F.plainAttrs_list PySem.F.slot_list_append PySem.F.type_list_append mt_append (pv 3) (pa_cons (pe_tup (pa_cons (pe_tupleOf (by rfl) B.tuple (pe_lc (own := [("at", 10), ("bit", 11)]) (g := gTup K 2 (gCons (gName 10) (gCons (gName 11) gNil))) (te := tVar 10) (tt := tOn K) (by rfl) sc_law_parts.nd (pi_enumT (by rfl) B.enumerate (pa_cons (pv 4) pa_nil)) (blkOk_by (own := [("at", 10), ("bit", 11)]) (N := parN) (sc := defScope s_law_parts) (by decide +kernel))
            (fun _ _ _ _ _ => pg_tup rfl (pgs_cons (pg_name (i := 10) sc_law_parts.nd rfl (Or.inl rfl)) (pgs_cons (pg_name (i := 11) sc_law_parts.nd rfl (Or.inl rfl)) pgs_nil))) (fun _ _ _ _ _ => pts_one (pt_cmpR op_eq (pv 11) pe_int (nomark _))) (fun _ _ _ _ _ => pv 10))) (pa_cons (pe_op op_modN (pv 5) (pv 0)) pa_nil))) pa_nil)))) pss_nil)))))
    (pss_one (ps_ret (pe_callBK (cr_sortedK (q := q_lamP) (body := lamB klm) (params := lamP klm) (scope := lamS klm) (N := ["part"]) rfl nsck rfl (by decide) (by decide) rfl B.len (fun ok => Caps.made ok (ndef_free lbk) (ndef_fr lbk) rfl) (hr.mono (by decide)) (fun s F doc pm ctv u e => .of_eq (by obtain ⟨f1, f2, f3, f4, f5, f6, f7⟩ := F; have e : f3 = lamP klm := e; subst e; rfl))) (by rfl) B.sorted PyProof.Rows.boot_sorted (pa_cons (pv 3) pa_nil) (pk_cons (pe_lm0 (T := TS) TB rfl hm hone (ndef_free lbk) rfl) pk_nil))))), ?_⟩
  refine ⟨by show 6 ≤ sizeLine; decide, fun l1 hl1 => ⟨.inl ⟨rfl, _, SqL.of upd_same⟩, ?_⟩⟩
  have s1 := same_new (o := .lst (tabLens.map V.int)) hl1
  refine ⟨_, rfl, a, nIs bs, rfl, .inr (SqT.of (s1 _ _ ha)), l1, tabLens.map V.int, .int (((nIs bs).length : Nat) : Int), n - 1, .int ((2 ^ n : Nat) : Int), rfl, rfl, SqL.of upd_same, rfl, rfl, ?_, ?_, ?_, ?_⟩
  · have := lens_at (n - 1) (by omega)
    rwa [show n - 1 + 1 = n by omega] at this
  · rw [hN]
    show (((2 ^ n : Nat) : Int) == ((2 ^ n : Nat) : Int)) = true
    exact beq_self_eq_true _
  · intro m z h1 h2
    rw [hN]
    exact lens_no n6 h1 h2
  refine ⟨_, 1, rfl, rfl, n, ?_, n6, fun lr H2 s2 hlr ⟨rs, hrs, prs⟩ => ⟨Nat.zero_le _, fun lf hlf => ⟨_, _, rfl, ?_⟩⟩⟩
  · show [V.int (((n - 1 : Nat) : Int) + 1)] = [nI n]
    have : ((n - 1 : Nat) : Int) + 1 = (n : Int) := by omega
    rw [this]
    rfl
  have s12 := s1.trans s2
  have s3 := same_new (o := .lst []) hlf
  have s13 := s12.trans s3
  have lfH : H lf = none := s12.free hlf
  have rlen := Paired.length prs
  rw [rowsB_len] at rlen
  have rw0 : RwAt (upd H2 lf (.lst [])) lr rs n := RwAt.same ⟨hrs, prs⟩ s3
  refine ⟨_, rfl, lr, rfl, ⟨rs, SqL.of rw0.at_⟩, for_list (K := K) (a := lr) (xs := rs) (fun i σ H' => ∃ y4 y5 y6 y7 zs, σ = [some (nI p), some (.ref a), some (.ref lr), some (.ref lf), y4, y5, y6, y7, none, none, none, none] ∧ Same H H' ∧ RwAt H' lr rs n ∧ H' lf = some (.lst zs) ∧ Paired (partAt (facG p n bs) H') zs ((List.range i).filter fun t => facG p n bs t != 0) ∧ zs.length ≤ i)
    ⟨none, none, none, none, [], rfl, s13, rw0, upd_same, .nil, Nat.le_refl _⟩ (fun i σ H' hi => ?_) ?_ ?_⟩
  · rintro ⟨y4, y5, y6, y7, zs, rfl, sA, rw1, hf, pz, lz⟩
    exact SqL.of rw1.at_
  · rintro i x σ H1 hx ⟨y4, y5, y6, y7, zs, rfl, sA, rw1, hf, pz, lz⟩
    have hi : i < 2 ^ n := by have := (List.getElem?_eq_some_iff.mp hx).1; omega
    obtain ⟨bt, hbt, b, rfl, hbb⟩ := Paired.getL rw1.pr hx
    rw [rowsB_get hi] at hbt
    have hbt := (Option.some.inj hbt).symm
    subst hbt
    refine ⟨_, rfl, _, rfl, lr, a, rs, nIs bs, rfl, SqL.of rw1.at_, SqT.of (sA _ _ ha), for_zipM (K := K) (a := lr) (b := a) (xs := rs) (ys := nIs bs) (by omega) (fun j σ H' => ∃ y6 y7, σ = [some (nI p), some (.ref a), some (.ref lr), some (.ref lf), some (.ref b), some (.int (psum n (fT bs) i j)), y6, y7, none, none, none, none] ∧ Same H1 H')
      ⟨y6, y7, rfl, Same.refl _⟩ ?_ ?_ ?_⟩
    · rintro j σ H' ⟨y6, y7, rfl, sB⟩
      exact ⟨SqL.of (sB _ _ rw1.at_), SqT.of (sB _ _ (sA _ _ ha))⟩
    · rintro j x y T σ H' hxj hyj ⟨y6, y7, rfl, sB⟩ hTn
      have hj : j < 2 ^ n := by have := (List.getElem?_eq_some_iff.mp hxj).1; omega
      have sT := same_new (o := .tup [x, y]) hTn
      have sC := sB.trans sT
      obtain ⟨ot, hot, o, rfl, hoo⟩ := Paired.getL rw1.pr hxj
      rw [rowsB_get hj] at hot
      have hot := (Option.some.inj hot).symm
      subst hot
      have hy : y = .int (fT bs j) := by
        rw [nIs_Lf, Lf_get (by omega)] at hyj
        exact (Option.some.inj hyj).symm
      subst hy
      have hoo2 := sC _ _ hoo
      have hbb2 := sC _ _ hbb
      have gb : ∀ t {k : Nat}, k < n → (nIs (bitsR n t))[k]? = some (nI ((bitsR n t).getD k 0)) := fun t k hk => by
        rw [nIs_get, bitsR_get hk, List.getD_eq_getElem?_getD, bitsR_get hk]
        rfl
      refine ⟨T, _, rfl, SqT.of upd_same, rfl, _, _, rfl, _, _, rfl, rfl, ?_⟩
      refine ⟨_, rfl, _, rfl, o, b, _, _, rfl, .inr ⟨SqT.of hoo2, SqT.of hbb2, fun D hD => lc_genF (J := RZ.ItzT K o b) (n := n) RN (fun k => decide ((bitsR n i).getD k 0 < (bitsR n j).getD k 0)) (fun _ => 1) (fun _ _ _ _ _ r => r) (by omega) hD (fun k H4 hk s4 => ⟨_, _, _, _, SqT.of (s4 _ _ hoo2), SqT.of (s4 _ _ hbb2), gb j hk, gb i hk⟩) (fun H4 s4 => ⟨_, _, SqT.of (s4 _ _ hoo2), SqT.of (s4 _ _ hbb2), .inl (by rw [nIs_len, bitsR_len]; exact Nat.le_refl _)⟩) (fun k H4 x H5 hk s4 y => ?_) (fun H4 ws s4 hw pw => ?_)⟩⟩
      · obtain ⟨T2, x2, y2, rfl, hT2, rfl, f1, f2⟩ := y
        have f1 := f1 _ (SqT.of (s4 _ _ hoo2))
        have f2 := f2 _ (SqT.of (s4 _ _ hbb2))
        rw [gb j hk] at f1
        rw [gb i hk] at f2
        have f1 := (Option.some.inj f1).symm
        have f2 := (Option.some.inj f2).symm
        subst f1 f2
        refine ⟨same_new hT2, _, fun Kk q => ⟨T2, _, rfl, SqT.of upd_same, rfl, _, _, rfl, _, _, rfl, rfl, q⟩, rfl, fun Q q => ⟨_, rfl, _, rfl, (((bitsR n j).getD k 0 : Nat) : Int), (((bitsR n i).getD k 0 : Nat) : Int), rfl, rfl, _, congrArg V.bl (decide_eq_decide.mpr (by omega)), q _ (Same.refl _)⟩, fun _ H6 s6 Q q => q _ _ (Same.refl _) rfl⟩
      · have sD := sC.trans s4
        have ew := RN.all pw
        subst ew
        obtain ⟨zl, ezl⟩ : ∃ zl, zl = ((List.range n).filter fun k => decide ((bitsR n i).getD k 0 < (bitsR n j).getD k 0)).map fun _ => 1 := ⟨_, rfl⟩
        rw [← ezl] at hw
        have hsub : zl = [] ↔ subL (bitsR n j) (bitsR n i) = true := by
          rw [ezl, filt_one]
          have := sub_none (bitsR n j) (bitsR n i) (by rw [bitsR_len, bitsR_len])
          rw [bitsR_len] at this
          exact this
        refine ⟨Nat.zero_le _, fun p0 hp0 => ?_⟩
        have s5 := same_new (o := .lst []) hp0
        have sE := sD.trans s5
        refine ⟨.list (zl.map dN), .list [], Rp.dp _ _ (.lst (s5 _ _ hw) (rp_nats zl)), .lst (SqL.of upd_same) .nil, sh_Ln zl, rfl, decide (zl = []), congrArg V.bl (eqv_nil0 zl), ?_⟩
        have s45 := s4.trans s5
        have hoo3 := s45 _ _ hoo2
        have hbb3 := s45 _ _ hbb2
        by_cases hz : zl = []
        · rw [decide_eq_true hz]
          obtain ⟨c, hc⟩ : ∃ c, c = decide (V.int (Int.fmod ((((bitsR n i).sum : Nat) : Int) - (((bitsR n j).sum : Nat) : Int)) 2) = V.int 0) := ⟨_, rfl⟩
          have sg := sg_eq (bitsR n j) (bitsR n i)
          rw [← hc] at sg
          have etm : tmL (fT bs j) (bitsR n j) (bitsR n i) = fT bs j * sgL (bitsR n j) (bitsR n i) := if_pos (hsub.mp hz)
          have small : fT bs j = 0 ∨ fT bs j = 1 := by
            have h1 := tk.b1 (bs.getD j 0) (by rw [List.getD_eq_getElem?_getD, List.getElem?_eq_getElem (by omega)]; exact List.getElem_mem _)
            unfold fT
            omega
          refine iteT ⟨_, rfl, _, rfl, _, rfl, b, bitsR n i, rfl, SqT.of hbb3, _, rfl, o, bitsR n j, rfl, SqT.of hoo3, _, _, rfl, rfl, _, 2, rfl, rfl, (show (2 : Int) ≠ 0 by decide), rfl, c, congrArg V.bl hc.symm, ?_⟩
          have fin : ∀ sgn : Int, sgn = sgL (bitsR n j) (bitsR n i) → psum n (fT bs) i j + fT bs j * sgn = psum n (fT bs) i (j + 1) := fun sgn e => by rw [psum_succ, etm, e]
          cases c with
          | true => exact iteT ⟨_, _, rfl, rfl, .inl ⟨by omega, by omega⟩, _, _, rfl, rfl, _, _, by rw [← fin 1 (by rw [← sg]; rfl)]; rfl, sE⟩
          | false => exact iteF ⟨_, _, rfl, rfl, _, _, rfl, rfl, .inl ⟨by omega, by omega⟩, _, _, rfl, rfl, _, _, by rw [← fin (0 - 1) (by rw [← sg]; rfl)]; rfl, sE⟩
        · rw [decide_eq_false hz]
          have etm : tmL (fT bs j) (bitsR n j) (bitsR n i) = 0 := if_neg (fun z => hz (hsub.mpr z))
          refine iteF ⟨some (.ref o), some (.int (fT bs j)), ?_, sE⟩
          rw [psum_succ, etm, Int.add_zero]
          rfl
    · rintro σ H' ⟨y6, y7, rfl, sB⟩
      have hfac : Int.fmod (psum n (fT bs) i rs.length) p = facG p n bs i := by rw [rlen]; exact fac_mod tk hi
      have hp0 : (p : Int) ≠ 0 := by omega
      have hf' := sB _ _ hf
      have rw2 := rw1.same sB
      have hbb' := sB _ _ hbb
      have pz' : Paired (partAt (facG p n bs) H') zs ((List.range i).filter fun t => facG p n bs t != 0) := paired_mono (fun _ _ r => partAt.tm (.of sB) r) pz
      have sAB := sA.trans sB
      have hne : lr ≠ lf := ne_of_none hrs hlf
      refine ⟨_, rfl, _, rfl, _, (p : Int), rfl, rfl, hp0, rfl, facG p n bs i != 0, ?_, ?_⟩
      · refine congrArg V.bl ?_
        show (!decide (V.int (Int.fmod _ _) = V.int 0)) = _
        rw [hfac, dec_int]
        rfl
      cases hg0 : facG p n bs i != 0 with
      | false =>
        refine iteF ⟨_, _, _, _, zs, rfl, sAB, rw2, hf', ?_, by omega⟩
        rw [List.range_succ, List.filter_append]
        have : List.filter (fun t => facG p n bs t != 0) [i] = [] := by
          rw [List.filter_cons_of_neg (p := fun t => facG p n bs t != 0) (by rw [hg0]; decide), List.filter_nil]
        rw [this, List.append_nil]
        exact pz'
      | true =>
        refine iteT ⟨_, rfl, .inl ⟨rfl, zs, SqL.of hf'⟩, _, rfl, b, nIs (bitsR n i), rfl, SqT.of hbb', fun D hD => lc_enumF (K := K) (g := gTup K 2 (gCons (gName 10) (gCons (gName 11) gNil))) (te := tVar 10) (tt := tOn K) (j1 := 10) (j2 := 11) (xs := nIs (bitsR n i)) RN (fun k => (bitsR n i).getD k 0 == 1) (fun k => k) (fun _ _ _ _ _ r => r) (fun H3 s3 => SqT.of (s3 _ _ hbb')) (by rw [nIs_len, bitsR_len]; omega) hD (fun T x i σ H Q hT q => ⟨T, _, rfl, SqT.of hT, rfl, nI i, _, rfl, x, _, rfl, rfl, q⟩) (fun x y => rfl) (fun k x H3 hx3 s3 Q3 q3 => ?_) (fun k x H3 hx3 hk3 s3 Q3 q3 => ?_) (fun H3 ws s3 hw pw => ?_)⟩
        · have hk : k < n := by
            have := (List.getElem?_eq_some_iff.mp hx3).1
            rwa [nIs_len, bitsR_len] at this
          have hx4 : x = nI ((bitsR n i).getD k 0) := by
            rw [nIs_get, bitsR_get hk] at hx3
            rw [List.getD_eq_getElem?_getD, bitsR_get hk]
            exact (Option.some.inj hx3).symm
          subst hx4
          refine ⟨_, rfl, rfl, _, ?_, q3 _ (Same.refl _)⟩
          refine congrArg V.bl ?_
          show decide (V.int (((bitsR n i).getD k 0 : Nat) : Int) = V.int 1) = _
          rw [dec_int]
          by_cases h1 : (bitsR n i).getD k 0 = 1
          · rw [h1]; rfl
          · rw [beq_eq_false_iff_ne.mpr h1]
            exact beq_eq_false_iff_ne.mpr (by omega)
        · exact ⟨_, rfl, q3 _ _ (Same.refl _) rfl⟩
        · have ew := RN.all pw
          rw [nIs_len, bitsR_len, List.map_id', insOf_low n6 hi] at ew
          subst ew
          refine .inl ⟨D, _, rfl, SqL.of hw, fun pt hpt => ?_⟩
          have s4 := same_new (o := .tup (nIs (insOf i))) hpt
          refine ⟨_, rfl, _, rfl, _, (p : Int), rfl, rfl, hp0, by show 2 ≤ sizeLine; decide, fun tb htb => ?_⟩
          have s34 := s3.trans s4
          have s5 := same_new (o := .tup [V.ref pt, V.int (Int.fmod (psum n (fT bs) i rs.length) p)]) htb
          have s35 := s34.trans s5
          have hf5 := s35 _ _ hf'
          refine ⟨lf, zs, .ref tb, rfl, rfl, hf5, by rw [sizeLine_eq]; omega, _, _, _, _, zs ++ [.ref tb], rfl, same_mut (sAB.trans s35) lfH, (rw2.same s35).mut hf5 hne, upd_same, ?_, by rw [List.length_append]; show zs.length + 1 ≤ i + 1; omega⟩
          have tmL : Tm (upd (upd H3 pt (.tup (nIs (insOf i)))) tb (.tup [V.ref pt, V.int (Int.fmod (psum n (fT bs) i rs.length) p)])) (upd (upd (upd H3 pt (.tup (nIs (insOf i)))) tb (.tup [V.ref pt, V.int (Int.fmod (psum n (fT bs) i rs.length) p)])) lf (.lst (zs ++ [.ref tb]))) := Tm.lst hf5
          rw [List.range_succ, List.filter_append]
          have : List.filter (fun t => facG p n bs t != 0) [i] = [i] := by
            rw [List.filter_cons_of_pos (p := fun t => facG p n bs t != 0) hg0, List.filter_nil]
          rw [this]
          refine Paired.app (paired_mono (fun _ _ r => partAt.tm ((Tm.of s35).trans tmL) r) pz') (Paired.one ?_)
          refine partAt.tm tmL ⟨tb, pt, rfl, ?_, s5 _ _ upd_same⟩
          rw [upd_same]
          exact congrArg (fun z => some (HO.tup [V.ref pt, V.int z])) hfac
  · rintro σ H1 ⟨y4, y5, y6, y7, zs, rfl, sA, rw1, hf, pz, lz⟩
    have hTb := hT.ext sA
    refine ⟨_, rfl, hTb, fun fl c' H3 e1 t1 hfl hlm hco => ?_⟩
    have tm := extN_tm e1
    have hf3 := e1 _ _ hf (fun _ z => nomatch z)
    rw [rlen] at pz
    refine ⟨lf, fl, c', zs, Nat, _, insOf, partAt (facG p n bs) H3, rfl, rfl, SqL.of hf3, paired_mono (fun _ _ r => partAt.tm tm r) pz, fun v t r => ?_, hlm, hco, fun ys lp py hlp => ?_⟩
    · obtain ⟨tb, pt, rfl, h1, h2⟩ := r
      exact ⟨tb, pt, _, rfl, SqT.of h1, SqT.of h2⟩
    · have sl := same_new (o := .lst ys) hlp
      refine q lp _ (((extN_of sA).trans e1).trans (extN_of sl)) (t1.ext sl) ⟨ys, upd_same, ?_⟩
      · have e : polyL p n bs = ((List.range (2 ^ n)).filter fun t => facG p n bs t != 0).mergeSort (PySem.W.dataLe false fun b => keyD (insOf b)) := by
          unfold polyL
          exact sorted_alike (encT_key _) keyD_key _ h64
        rw [e]
        exact paired_mono (fun _ _ r => partAt.tm (.of sl) r) py
end
end Lt

set_option Elab.async false
set_option linter.all false
set_option maxRecDepth 100000
set_option maxHeartbeats 2000000
/-! table_of without a text -/
namespace Lt
open PySem PySem.Spec PyProof.Rows L2
section
variable {P : Program} {w : World} {K : PySem.W.Frag} {mg : Str → Option Value} {base : Heap} {CB CS : Addr}
def spFTS (CS : Addr) : Sp := fun vs H Q E => ∃ (m : Nat) (v : V) (d : PyData), vs = [nI m, v] ∧ 1 ≤ m ∧ m ≤ 6 ∧ Rp H v d ∧ isStr d = false ∧ Bad0 CS H E
theorem has_formula_treeS (T : Top K mg "formula_tree" s_formula_tree ["inputs", "text"]) (B : Bi mg) (X1 : ErrI P w K mg base "BadSign" "place" CB) (X2 : Err0 K mg "BadString" CS)
    (hC : Has P w K mg base (L2.CX P w) 3 "check_inputs" ["inputs"] spCheckIn) (hW : Has P w K mg base CX0 1 "placed_words" ["text"] spWordsT)
    (hT : Has P w K mg base (L2.CX P w) 25 "tree_from" ["names", "words", "at", "around"] (spTreeE 21)) : Has P w K mg base (L2.CX P w) 26 "formula_tree" ["inputs", "text"] (spFTS CS) := by
  refine T.okX sc_formula_tree (fun vs H Q E h => ?_) (fun f cdv A outer s H vs Q E hr h => ?_)
  · obtain ⟨m, v, d, rfl, _⟩ := h
    rfl
  · obtain ⟨m, v, d, rfl, h1, h6, hd, hn, bad⟩ := h
    have hr1 : Room 1 _ := hr.mono (by decide)
    have hr2 : Room 2 _ := hr.mono (by decide)
    have hr3 : Room 3 _ := hr.mono (by decide)
    refine ⟨_, pss_cons (ps_expr (pe_hasL hC hr3 (by rfl) (pa_cons (pv 0) pa_nil)))
      (pss_cons (ps_if (pt_not (pt_val (pe_callB call_isi (by rfl) B.isinstance PyProof.Rows.boot_isinstance (pa_cons (pv 1) (pa_cons (pe_bltn (by rfl) B.str PyProof.Rows.boot_str (rr_ty "str")) pa_nil))))) (pss_one (ps_raise rfl (takes_of rfl rfl rfl rfl) (pmk_err0 X2 (by rfl)))) pss_nil)
      (pss_cons (ps_set (i := 2) sc_formula_tree.nd rfl (Or.inl rfl) (pe_has hW hr1 (by rfl) (pa_cons (pv 1) pa_nil)))
      (pss_cons (ps_setLc (i := 3) (own := [("own", 6)]) (g := gName 6) (te := tXn) (by rfl) sc_formula_tree.nd rfl rfl (sw_true rfl rfl rfl (by decide +kernel)) (pi_range1 (by rfl) B.range (pa_cons (pv 0) pa_nil)) (blkOk_by (own := [("own", 6)]) (N := ["inputs", "text", "words", "names", "tree", "at", "own"]) (sc := defScope s_formula_tree) (by decide +kernel))
        (fun _ _ _ _ _ => pg_name (i := 6) sc_formula_tree.nd rfl (Or.inl rfl)) (fun _ _ _ _ _ => pts_nil) (fun _ _ _ _ _ => pe_joined (.cons pe_str (.cons (pe_fmt (pv 6)) .nil))))
      (pss_cons (ps_asg (pe_hasL hT hr (by rfl) (pa_cons (pv 3) (pa_cons (pv 2) (pa_cons pe_int (pa_cons pe_int pa_nil))))) (pg_tup rfl (pgs_cons (pg_name (i := 4) sc_formula_tree.nd rfl (Or.inl rfl)) (pgs_cons (pg_name (i := 5) sc_formula_tree.nd rfl (Or.inl rfl)) pgs_nil))))
      (pss_cons (ps_if (pt_cmpR op_lt (pv 5) (pe_op op_sub (pe_callB call_len_seq (by rfl) B.len PySem.boot_len (pa_cons (pv 2) pa_nil)) pe_int) (nomark _)) (pss_one (ps_raise rfl (takes_of rfl rfl rfl rfl) (pmk_errI X1 hr2 (by rfl) (pa_cons (pe_ix ix_tup (pe_ix ix_list (pv 2) (pv 5) (fun _ _ => rfl)) pe_int (fun _ _ => rfl)) pa_nil)))) pss_nil)
      (pss_one (ps_ret (pv 4)))))))), ?_⟩
    refine ⟨_, rfl, m, rfl, h1, h6, ?_⟩
    refine ⟨_, rfl, v, .ty "str", _, _, isStr d, rfl, .ty _, rp_ty hd, kit_ty (kit_str d), isStr d, rfl, ?_⟩
    rw [hn]
    exact iteT (bad H (Same.refl _))
theorem has_table_ofS (T : Top K mg "table_of" s_table_of ["inputs", "text"]) (B : Bi mg) (hF : Has P w K mg base (L2.CX P w) 26 "formula_tree" ["inputs", "text"] (spFTS CS)) (hI : Has P w K mg base CX0 1 "input_table" ["inputs", "own"] spITab)
    (hB : Has P w K mg base CX0 1 "bits_of" ["table"] spBits) (hW : Has P w K mg base CX0 23 "worth_of" ["tree", "leaves", "every"] (spWorthE 22)) : Has P w K mg base (L2.CX P w) 27 "table_of" ["inputs", "text"] (spFTS CS) := by
  refine T.okX sc_table_of (fun vs H Q E h => ?_) (fun f cdv A outer s H vs Q E hr h => ?_)
  · obtain ⟨m, v, d, rfl, _⟩ := h
    rfl
  · obtain ⟨m, v, d, rfl, h1, h6, hd, hn, bad⟩ := h
    have hr1 : Room 1 _ := hr.mono (by decide)
    have hr23 : Room 23 _ := hr.mono (by decide)
    have h64 := pow6 h6
    refine ⟨_, pss_cons (ps_set (i := 2) sc_table_of.nd rfl (Or.inl rfl) (pe_hasX (E := E) hF hr (by rfl) (passes_call (takes_of rfl rfl rfl rfl) (fun _ _ _ _ h => h)) (pa_cons (pv 0) (pa_cons (pv 1) pa_nil))))
      (pss_cons (ps_set (i := 3) sc_table_of.nd rfl (Or.inl rfl) (pe_op op_shl pe_int (pv 0)))
      (pss_cons (ps_setLc (i := 4) (own := [("own", 6)]) (g := gName 6) (te := tCall spBits [] E0 (tCons (tCall spITab [] E0 (tCons (tVar 0) (tCons (tVar 6) tNil))) tNil)) (by rfl) sc_table_of.nd rfl rfl (sw_true rfl rfl rfl (by decide +kernel)) (pi_range1 (by rfl) B.range (pa_cons (pv 0) pa_nil)) (blkOk_by (own := [("own", 6)]) (N := ["inputs", "text", "tree", "many", "leaves", "bits", "own", "place"]) (sc := defScope s_table_of) (by decide +kernel))
        (fun _ _ _ _ _ => pg_name (i := 6) sc_table_of.nd rfl (Or.inl rfl)) (fun _ _ _ _ _ => pts_nil) (fun _ _ _ _ _ => pe_has hB hr1 (by rfl) (pa_cons (pe_has hI hr1 (by rfl) (pa_cons (pv 0) (pa_cons (pv 6) pa_nil))) pa_nil)))
      (pss_cons (ps_set (i := 5) sc_table_of.nd rfl (Or.inr rfl) (pe_has hW hr23 (by rfl) (pa_cons (pv 2) (pa_cons (pv 4) (pa_cons (pe_op op_sub (pe_op op_shl pe_int (pv 3)) pe_int) pa_nil)))))
      (pss_one (ps_ret (pe_tupleOf (by rfl) B.tuple (pe_lc (own := [("place", 7)]) (g := gName 7) (te := tOp (fun x y H Q => ∃ (i : Int) (k : Nat), x = .int i ∧ y = .int (2 ^ k - 1) ∧ Q (.int (i % 2 ^ k)) H) (tOp (fun x y H Q => ∃ (i : Int) (k : Nat), x = .int i ∧ y = .int (k : Int) ∧ Q (.int (i / 2 ^ k)) H) (tVar 5) (tVar 7)) (tC (.int 1))) (by rfl) sc_table_of.nd (pi_range1 (by rfl) B.range (pa_cons (pv 3) pa_nil)) (blkOk_by (own := [("place", 7)]) (N := ["inputs", "text", "tree", "many", "leaves", "bits", "own", "place"]) (sc := defScope s_table_of) (by decide +kernel))
        (fun _ _ _ _ _ => pg_name (i := 7) sc_table_of.nd rfl (Or.inl rfl)) (fun _ _ _ _ _ => pts_nil) (fun _ _ _ _ _ => pe_op op_andM (pe_op op_shrN (pv 5) (pv 7)) pe_int)))))))), ?_⟩
    exact ⟨_, rfl, _, rfl, m, v, d, rfl, h1, h6, hd, hn, bad⟩
end
end Lt

set_option Elab.async false
set_option linter.all false
set_option maxRecDepth 100000
set_option maxHeartbeats 2000000
/-! k04: the law's lambdas -/
namespace Lt
open PySem PySem.Spec PyProof.Rows L2 NdefX LamX LmX MaX
abbrev lawN : List Str := ["script", "tree", "due", "one", "parts", "words", "works", "work", "e", "inputs", "prime", "row", "table", "wrong", "bits"]
theorem sc_law : FnScope lawN ["script"] (defScope s_law) := ⟨rfl, rfl, rfl, by decide +kernel, rfl, by decide +kernel, by decide +kernel⟩
abbrev LX (P : Program) (w : World) (K : PySem.W.Frag) (mg : Str → Option Value) (base : Heap) (f : Addr) (cd : Value) (A : Around) (outer : List Env) (s : Shared) (H : Hp) (E : XK) : Cx := cxOf CX0 P w K mg base lawN "law" (defScope s_law) f cd A outer s H E
def lawS (i : Nat) : Stmt := (defBody s_law).getD i (.Pass ⟨0, 0, 0, 0⟩)
def lm0 : Expr := itemX 0 (valX (lawS 11))
def lm1 : Expr := itemX 1 (valX (lawS 11))
def lm2 : Expr := itemX 0 (rightX (valX (lawS 12)))
def lm3 : Expr := itemX 1 (rightX (valX (lawS 12)))
theorem nsc0 : NScope ["prime", "wrong"] [] ["prime", "wrong"] (lamS lm0) := nscope_by (by decide +kernel)
theorem nsc1 : NScope ["a", "row", "table"] ["a"] ["row", "table"] (lamS lm1) := nscope_by (by decide +kernel)
theorem nsc2 : NScope ["b", "row"] ["b"] ["row"] (lamS lm2) := nscope_by (by decide +kernel)
theorem nsc3 : NScope ["c", "inputs"] ["c"] ["inputs"] (lamS lm3) := nscope_by (by decide +kernel)
theorem lb0 : ndefB (defScope s_law) (lamS lm0) ["prime", "wrong"] = true := by decide +kernel
theorem lb1 : ndefB (defScope s_law) (lamS lm1) ["row", "table"] = true := by decide +kernel
theorem lb2 : ndefB (defScope s_law) (lamS lm2) ["row"] = true := by decide +kernel
theorem lb3 : ndefB (defScope s_law) (lamS lm3) ["inputs"] = true := by decide +kernel
section
variable {P : Program} {w : World} {K : PySem.W.Frag} {mg : Str → Option Value} {base : Heap} {CT CN CS c Pt : Addr}
abbrev LmA (cells : List (Str × Addr)) (lm : Expr) (dV : Value) (c' f : Addr) : HO := LmO f (lmF q_lam (lamP lm) (lamS lm) cells c') (lamB lm) dV
/-- what the four lambdas' callees promise -/
structure Has4 (P : Program) (w : World) (K : PySem.W.Frag) (mg : Str → Option Value) (base : Heap) (CT CN CS : Addr) : Prop where
  poly : Has P w K mg base (L2.CX P w) 4 "polynomial" ["prime", "table"] (spPoly CN CT)
  deg : Has P w K mg base (L2.CX P w) 5 "degree" ["prime", "table"] (spDeg CN CT)
  all : Has P w K mg base (L2.CX P w) 4 "all_of" ["inputs"] (spAll CN)
  tab : Has P w K mg base (L2.CX P w) 27 "table_of" ["inputs", "text"] (spFTS CS)
  pick : Has P w K mg base CX0 2 "_law_pick" ["row", "things"] (spPick K)
/-- what work() asks: the name holds one of the four -/
def RW4 (K : PySem.W.Frag) (CT CN CS : Addr) (cells : List (Str × Addr)) (W : WX) (f : Addr) : TE := fun σ H Q =>
  (∃ c', H f = some (LmA cells lm0 .none c' f) ∧ H c' = some (CodeO c' q_lam) ∧
    (tCall (spPoly CN CT) [] (WE W σ) (tCons (tVar 0) (tCons (tVar 1) tNil))) (startF ["prime", "wrong"] [] ([10, 13].map (slotAt σ))) H Q) ∨
  (∃ c' p, H f = some (LmA cells lm1 (.ref p) c' f) ∧ H p = some (.tup [V.int 0]) ∧ H c' = some (CodeO c' q_lam) ∧
    (tCall (spDeg CN CT) [] (WE W σ) (tCons (tCall (spPick K) [] E0 (tCons (tVar 1) (tCons (tLst (tCons (tC (.int 4)) (tCons (tC (.int 1)) (tCons (tC .non) (tCons (tC (.bl true)) (tCons (tC (.int 11)) tNil)))))) tNil))) (tCons (tVar 2) tNil))) (startF ["a", "row", "table"] [V.int 0] ([11, 12].map (slotAt σ))) H Q) ∨
  (∃ c' p, H f = some (LmA cells lm2 (.ref p) c' f) ∧ H p = some (.tup [V.int 0]) ∧ H c' = some (CodeO c' q_lam) ∧
    (tCall (spAll CN) [] (WE W σ) (tCons (tCall (spPick K) [] E0 (tCons (tVar 1) (tCons (tLst (tCons (tC (.int 0)) (tCons (tC (.int 7)) (tCons (tC .non) (tCons (tC (.bl true)) tNil))))) tNil))) tNil)) (startF ["b", "row"] [V.int 0] ([11].map (slotAt σ))) H Q) ∨
  (∃ c' p, H f = some (LmA cells lm3 (.ref p) c' f) ∧ H p = some (.tup [V.int 0]) ∧ H c' = some (CodeO c' q_lam) ∧
    (tCall (spFTS CS) [] (WE W σ) (tCons (tVar 1) (tCons (tC .non) tNil))) (startF ["c", "inputs"] [V.int 0] ([9].map (slotAt σ))) H Q)
theorem r_run {f0 : Addr} {cd : Value} {A : Around} {outer : List Env} {s0 : Shared} {H0 : Hp} {E0' : XK} {W : WX} {pn : List (Addr × Obj)} {xe : Value → Shared → Prop}
    (hr : Room 28 (LX P w K mg base f0 cd A outer s0 H0 E0').A) (L : Has4 P w K mg base CT CN CS)
    (tk : Takes ((LX P w K mg base f0 cd A outer s0 H0 E0').tr pn xe) W) (f : Addr) (pins : List (Addr × Obj)) (s : Shared) (σ : L2.St) (H : Hp) (Q : VK) (I : Inv ((LX P w K mg base f0 cd A outer s0 H0 E0').tr pn xe) pins σ H s)
    (h : RW4 K CT CN CS (LX P w K mg base f0 cd A outer s0 H0 E0').env.cells W f σ H Q) : PySem.W.FnAt f s.heap ∧ wpAny (model P w) (LX P w K mg base f0 cd A outer s0 H0 E0').A (call (.ref f) []) (EP ((LX P w K mg base f0 cd A outer s0 H0 E0').tr pn xe) pins σ Q) xe s := by
  rcases h with ⟨c', h1, h2, h3⟩ | ⟨c', p, h1, h2, h3, h4⟩ | ⟨c', p, h1, h2, h3, h4⟩ | ⟨c', p, h1, h2, h3, h4⟩
  · exact lm_run (k := 27) (us := []) (js := [10, 13]) I nsc0 h1 h2 (fun _ _ _ => .of_eq rfl) .nil rfl (Caps.made I.ok (ndef_free lb0) (ndef_fr lb0) rfl) hr (passAt tk σ)
      (fun hr2 => pe_hasX (E := WE W σ) L.poly (hr2.mono (by decide)) (by rfl) (passes_call (takes_of rfl rfl rfl rfl) (fun _ _ _ _ h => h)) (pa_cons (pv 0) (pa_cons (pv 1) pa_nil))) h3
  · obtain ⟨u, o, n, r, ho, hd⟩ := dflt_of I h2
    exact lm_run (k := 27) (us := [u]) (js := [11, 12]) I nsc1 h1 h3 (fun _ _ _ => .of_defaults rfl ho hd rfl rfl) (.cons r .nil) rfl (Caps.made I.ok (ndef_free lb1) (ndef_fr lb1) rfl) hr (passAt tk σ)
      (fun hr2 => pe_hasX (E := WE W σ) L.deg (hr2.mono (by decide)) (by rfl) (passes_call (takes_of rfl rfl rfl rfl) (fun _ _ _ _ h => h)) (pa_cons (pe_has L.pick (hr2.mono (by decide)) (by rfl) (pa_cons (pv 1) (pa_cons (pe_lst (pa_cons pe_int (pa_cons pe_int (pa_cons pe_non (pa_cons pe_bl (pa_cons pe_int pa_nil)))))) pa_nil))) (pa_cons (pv 2) pa_nil))) h4
  · obtain ⟨u, o, n, r, ho, hd⟩ := dflt_of I h2
    exact lm_run (k := 27) (us := [u]) (js := [11]) I nsc2 h1 h3 (fun _ _ _ => .of_defaults rfl ho hd rfl rfl) (.cons r .nil) rfl (Caps.made I.ok (ndef_free lb2) (ndef_fr lb2) rfl) hr (passAt tk σ)
      (fun hr2 => pe_hasX (E := WE W σ) L.all (hr2.mono (by decide)) (by rfl) (passes_call (takes_of rfl rfl rfl rfl) (fun _ _ _ _ h => h)) (pa_cons (pe_has L.pick (hr2.mono (by decide)) (by rfl) (pa_cons (pv 1) (pa_cons (pe_lst (pa_cons pe_int (pa_cons pe_int (pa_cons pe_non (pa_cons pe_bl pa_nil))))) pa_nil))) pa_nil)) h4
  · obtain ⟨u, o, n, r, ho, hd⟩ := dflt_of I h2
    exact lm_run (k := 27) (us := [u]) (js := [9]) I nsc3 h1 h3 (fun _ _ _ => .of_defaults rfl ho hd rfl rfl) (.cons r .nil) rfl (Caps.made I.ok (ndef_free lb3) (ndef_fr lb3) rfl) hr (passAt tk σ)
      (fun hr2 => pe_hasX (E := WE W σ) L.tab hr2 (by rfl) (passes_call (takes_of rfl rfl rfl rfl) (fun _ _ _ _ h => h)) (pa_cons (pv 1) (pa_cons pe_non pa_nil))) h4
end
end Lt

set_option Elab.async false
set_option linter.all false
set_option maxRecDepth 100000
set_option maxHeartbeats 2000000
/-! k04: the loop over the lambdas -/
namespace Lt
open PySem PySem.Spec PyProof.Rows L2 NdefX LamX LmX MaX
def wds : List V := [.str "task", .str "number", .str "number", .str "string"]
section
variable {P : Program} {w : World} {K : PySem.W.Frag} {mg : Str → Option Value} {base : Heap} {CT CN CS c Pt : Addr}
def LmAt (H : Hp) (cells : List (Str × Addr)) (lm : Expr) (f : Addr) : Prop := ∃ c' p, H f = some (LmA cells lm (.ref p) c' f) ∧ H p = some (.tup [V.int 0]) ∧ H c' = some (CodeO c' q_lam)
def LmAt0 (H : Hp) (cells : List (Str × Addr)) (lm : Expr) (f : Addr) : Prop := ∃ c', H f = some (LmA cells lm .none c' f) ∧ H c' = some (CodeO c' q_lam)
def tsW (K : PySem.W.Frag) (z : V) (_ : Addr) (_ : Value) (_ : Option Addr) : TS := tDrop (tBM K "list" rAppend (tVar 5) (tCons (tC z) tNil))
def cls3 (K : PySem.W.Frag) (CT CN CS : Addr) : List Cl := [(.ref CT, tsW K (.str "task")), (.ref CN, tsW K (.str "number")), (.ref CS, tsW K (.str "string"))]
def tTry (K : PySem.W.Frag) (CT CN CS : Addr) (cells : List (Str × Addr)) : TS := fun D σ H => tDrop (fun σ H Q => ∃ f, σ[7]? = some (some (.ref f)) ∧ RW4 K CT CN CS cells (wMA K 8 (fun _ _ _ _ => False) D (cls3 K CT CN CS)) f σ H Q) D σ H
structure Ex3 (K : PySem.W.Frag) (mg : Str → Option Value) (CT CN CS : Addr) : Prop where
  gT : mg "BadTask" = some (.ref CT)
  gN : mg "BadNumber" = some (.ref CN)
  gS : mg "BadString" = some (.ref CS)
  tt : PySem.W.exmOne K (.ref CT) (.ref CT) = some true
  nn : PySem.W.exmOne K (.ref CN) (.ref CN) = some true
  ss : PySem.W.exmOne K (.ref CS) (.ref CS) = some true
  nt : PySem.W.exmOne K (.ref CN) (.ref CT) = some false
  st : PySem.W.exmOne K (.ref CS) (.ref CT) = some false
  sn : PySem.W.exmOne K (.ref CS) (.ref CN) = some false
/-- a wrong table -/
def WrAt (H : Hp) (r wl : Addr) (v : V) (d : PyData) : Prop := (v = .non ∧ d = .none) ∨ (∃ a xs ds, v = .ref a ∧ H a = some (.tup xs) ∧ d = .tuple ds ∧ ∀ H', RpAll H' xs ds) ∨ ∃ a xs ds, v = .ref a ∧ H a = some (.lst xs) ∧ a ≠ r ∧ a ≠ wl ∧ d = .list ds ∧ ∀ H', RpAll H' xs ds
theorem WrAt.rp {H : Hp} {r wl : Addr} {v : V} {d : PyData} (h : WrAt H r wl v d) : Rp H v d := by
  rcases h with ⟨rfl, rfl⟩ | ⟨a, xs, ds, rfl, h1, rfl, h2⟩ | ⟨a, xs, ds, rfl, h1, _, _, rfl, h2⟩
  · exact .non
  · exact .tup (.inl h1) (h2 _)
  · exact .lst h1 (h2 _)
theorem WrAt.kp {H H' : Hp} {r wl : Addr} {v : V} {d : PyData} {xs ys : List V} (h : WrAt H r wl v d) (s : Kp2 wl r H H') (h1 : H wl = some (.lst xs)) (h2 : H r = some (.lst ys)) : WrAt H' r wl v d := by
  rcases h with h | ⟨a, xs, ds, e, h3, ed, h4⟩ | ⟨a, xs, ds, e, h3, n1, n2, ed, h4⟩
  · exact .inl h
  · exact .inr (.inl ⟨a, xs, ds, e, s.at_ h1 h2 h3 (fun _ z => nomatch z), ed, h4⟩)
  · exact .inr (.inr ⟨a, xs, ds, e, s _ _ n2 n1 h3, n1, n2, ed, h4⟩)
theorem WrAt.ext {H H' : Hp} {r wl : Addr} {v : V} {d : PyData} (h : WrAt H r wl v d) (s : ExtN H H') : WrAt H' r wl v d := by
  rcases h with h | ⟨a, xs, ds, e, h3, ed, h4⟩ | ⟨a, xs, ds, e, h3, n1, n2, ed, h4⟩
  · exact .inl h
  · exact .inr (.inl ⟨a, xs, ds, e, s _ _ h3 (fun _ z => nomatch z), ed, h4⟩)
  · exact .inr (.inr ⟨a, xs, ds, e, s _ _ h3 (fun _ z => nomatch z), n1, n2, ed, h4⟩)
/-- what the loop over the lambdas needs -/
structure TryAt (K : PySem.W.Frag) (H : Hp) (r sc wl : Addr) (ns : List Int) (m p n : Nat) (bs : List Nat) (tv wv : V) (wd : PyData) : Prop where
  row : RowAt K H r sc ns
  m1 : 1 ≤ m
  m6 : m ≤ 6
  hp : p ∈ primes
  tab : TK H tv bs
  tsk : Tsk p n bs
  wr : WrAt H r wl wv wd
  no : isTab wd = false
  wl1 : ∀ ds, wd = .tuple ds → ds.length ≤ 1000
theorem law_try {TS : List (Addr × Str)} {f0 : Addr} {A : Around} {outer : List Env} {s0 : Shared} {H0 : Hp} {E0' : XK} (hr : Room 28 (LX P w K mg base f0 (.ref c) A outer s0 H0 E0').A) (TB : TabB base mg c Pt) (hm : (Pt, q_lam) ∈ TS) (hone : ∀ p ∈ TS, p.1 = Pt → p.2 = q_lam)
    (L : Has4 P w K mg base CT CN CS) (X3 : Ex3 K mg CT CN CS) :
    ∃ t, PSs (LX P w K mg base f0 (.ref c) A outer s0 H0 E0') ((defBody s_law).drop 12) t ∧ ∀ (D : Ends) (H : Hp) (x0 x1 x2 x3 x4 x7 x8 x14 : Option V) (r sc wl fl fa fb : Addr) (ns : List Int) (m p n : Nat) (bs : List Nat) (tv wv : V) (wd : PyData),
      TryAt K H r sc wl ns m p n bs tv wv wd → wl ≠ r → (∃ H9, RowAt K H9 r sc ns ∧ H9 wl = none) → H wl = some (.lst []) → H fl = some (.lst [.ref fa, .ref fb]) → LmAt0 H (LX P w K mg base f0 (.ref c) A outer s0 H0 E0').env.cells lm0 fa → LmAt H (LX P w K mg base f0 (.ref c) A outer s0 H0 E0').env.cells lm1 fb →
      Tabs TS H → (∀ H', D.rt (.bl true) H') → t D [x0, x1, x2, x3, x4, some (.ref wl), some (.ref fl), x7, x8, some (nI m), some (nI p), some (.ref r), some tv, some wv, x14] H := by
  have hu := hr.units
  refine ⟨_, pss_cons (ps_for (passes_of rfl) rfl (pi_list (pe_op op_cat (pv 6) (pe_lst (pa_cons (pe_lm1 (T := TS) TB rfl hm hone (ndef_free lb2) rfl rfl pe_int) (pa_cons (pe_lm1 (T := TS) TB rfl hm hone (ndef_free lb3) rfl rfl pe_int) pa_nil))))) (pg_name (i := 7) sc_law.nd rfl (Or.inl rfl))
      (pss_one (ps_try_asM (n := "e") (i := 8) (l := cls3 K CT CN CS) (tb := fun W => tDrop (fun σ H Q => ∃ f, σ[7]? = some (some (.ref f)) ∧ RW4 K CT CN CS (LX P w K mg base f0 (.ref c) A outer s0 H0 E0').env.cells W f σ H Q)) (Wo := fun _ _ _ _ => False) rfl rfl sc_law.nd rfl rfl L2.takes0
        (fun W pn xe tk _ => pss_one (ps_expr (pe_ap0 (fun f pins s σ H Q I h => r_run hr L tk f pins s σ H Q I h) rfl (Or.inl rfl))))
        (.cons ⟨rfl, by decide, Or.inl X3.gT⟩ (fun a oe cls d pn hz hf => pss_one (ps_expr (by exact (pe_bm PySem.F.plainAttrs_list PySem.F.slot_list_append PySem.F.type_list_append mt_append (pv 5) (pa_cons pe_str pa_nil)))))
        (.cons ⟨rfl, by decide, Or.inl X3.gN⟩ (fun a oe cls d pn hz hf => pss_one (ps_expr (by exact (pe_bm PySem.F.plainAttrs_list PySem.F.slot_list_append PySem.F.type_list_append mt_append (pv 5) (pa_cons pe_str pa_nil)))))
        (.cons ⟨rfl, by decide, Or.inl X3.gS⟩ (fun a oe cls d pn hz hf => pss_one (ps_expr (by exact (pe_bm PySem.F.plainAttrs_list PySem.F.slot_list_append PySem.F.type_list_append mt_append (pv 5) (pa_cons pe_str pa_nil))))) .nil))))))
    (pss_one (ps_ret (pe_cmpR (op_eqD hu) (pv 5) (pe_lst (pa_cons pe_str (pa_cons pe_str (pa_cons pe_str (pa_cons pe_str pa_nil))))) (nomark _)))), ?_⟩
  intro D H x0 x1 x2 x3 x4 x7 x8 x14 r sc wl fl fa fb ns m p n bs tv wv wd F nwr h9 hwl hfl la lb hTb q
  obtain ⟨pin, p2, p7⟩ := prime_in F.hp
  refine ⟨_, rfl, hTb, fun pc fc cc H1 e1 T1 _ fc1 pc1 cc1 => ⟨T1, fun pd fd cd H2 e2 T2 _ fd2 pd2 cd2 => ⟨by show 2 ≤ sizeLine; decide, fun dl hdl => ?_⟩⟩⟩
  have s2 := same_new (o := .lst [V.ref fc, V.ref fd]) hdl
  have nt : ∀ {xs : List V}, ∀ ps, HO.lst xs ≠ .tbl ps := fun _ z => nomatch z
  have e12 := e1.trans e2
  have hfl2 := s2 _ _ (e12 _ _ hfl nt)
  refine ⟨_, _, _, _, rfl, rfl, hfl2, upd_same, by show 2 + 2 ≤ sizeLine; decide, fun gl hgl => ?_⟩
  have s3 := same_new (o := .lst ([V.ref fa, V.ref fb] ++ [V.ref fc, V.ref fd])) hgl
  have s23 := s2.trans s3
  have e13 : ExtN H (upd (upd H2 dl (.lst [V.ref fc, V.ref fd])) gl (.lst ([V.ref fa, V.ref fb] ++ [V.ref fc, V.ref fd]))) := e12.trans (extN_of s23)
  have kgl : (upd (upd H2 dl (.lst [V.ref fc, V.ref fd])) gl (.lst ([V.ref fa, V.ref fb] ++ [V.ref fc, V.ref fd]))) gl = some (.lst [V.ref fa, V.ref fb, V.ref fc, V.ref fd]) := upd_same
  have kwl := e13 _ _ hwl nt
  have ngw : gl ≠ wl := fun z => by rw [z] at hgl; rw [s2 _ _ (e12 _ _ hwl nt)] at hgl; cases hgl
  have row3 := F.row.extN e13
  have tab3 := F.tab.tm (extN_tm e13)
  have wr3 := F.wr.ext e13
  have ngr : gl ≠ r := fun z => by
    obtain ⟨_, _, _, R⟩ := F.row
    rw [z] at hgl; rw [s2 _ _ (e12 _ _ R.at_ nt)] at hgl; cases hgl
  have la3 : LmAt0 _ (LX P w K mg base f0 (.ref c) A outer s0 H0 E0').env.cells lm0 fa := let ⟨c', a, b⟩ := la; ⟨c', e13 _ _ a lmO_is.2, e13 _ _ b codeO_is.2⟩
  have lb3 : LmAt _ (LX P w K mg base f0 (.ref c) A outer s0 H0 E0').env.cells lm1 fb := let ⟨c', p', a, b, d⟩ := lb; ⟨c', p', e13 _ _ a lmO_is.2, e13 _ _ b (fun _ z => nomatch z), e13 _ _ d codeO_is.2⟩
  have lc3 : LmAt _ (LX P w K mg base f0 (.ref c) A outer s0 H0 E0').env.cells lm2 fc := ⟨cc, pc, s23 _ _ (e2 _ _ fc1 lmO_is.2), s23 _ _ (e2 _ _ pc1 (fun _ z => nomatch z)), s23 _ _ (e2 _ _ cc1 codeO_is.2)⟩
  have ld3 : LmAt _ (LX P w K mg base f0 (.ref c) A outer s0 H0 E0').env.cells lm3 fd := ⟨cd, pd, s23 _ _ fd2, s23 _ _ pd2, s23 _ _ cd2⟩
  generalize upd (upd H2 dl (.lst [V.ref fc, V.ref fd])) gl (.lst ([V.ref fa, V.ref fb] ++ [V.ref fc, V.ref fd])) = Hb at *
  obtain ⟨h9, r9, w9⟩ := h9
  obtain ⟨_, _, _, Rb⟩ := id row3
  refine ⟨gl, rfl, ⟨_, SqL.of kgl⟩, for_list (K := K) (g := gName 7) (tb := tTry K CT CN CS (LX P w K mg base f0 (.ref c) A outer s0 H0 E0').env.cells) (a := gl) (xs := [V.ref fa, V.ref fb, V.ref fc, V.ref fd])
    (fun i σ H' => ∃ xe xw, σ = [x0, x1, x2, x3, x4, some (.ref wl), some (.ref fl), xw, xe, some (nI m), some (nI p), some (.ref r), some tv, some wv, x14] ∧ Kp2 wl r Hb H' ∧ RowAt K H' r sc ns ∧ H' wl = some (.lst (wds.take i)))
    ⟨x8, x7, rfl, .refl _ _ _, row3, kwl⟩ (fun i σ H' _ ⟨_, _, _, s, _⟩ => SqL.of (s _ _ ngw ngr kgl)) ?_ ?_⟩
  · rintro i x σ H' hi ⟨xe, xw, rfl, st, ra, hw⟩
    have hi4 : i < 4 := (List.getElem?_eq_some_iff.mp hi).1
    have KL : ∀ {b o}, Hb b = some o → (∀ zs, o ≠ .lst zs) → H' b = some o := fun h n => st.at_ kwl Rb.at_ h n
    have word : ∀ (z : V) (D' : Ends) (cls : Value) (d : Option Addr) (H5 : Hp), wds.take (i + 1) = wds.take i ++ [z] → Kp2 wl r Hb H5 → RowAt K H5 r sc ns → H5 wl = some (.lst (wds.take i)) → ∀ a : Addr,
        (∀ xe' H5, Kp2 wl r Hb H5 → RowAt K H5 r sc ns → H5 wl = some (.lst (wds.take (i + 1))) → D'.nx [x0, x1, x2, x3, x4, some (.ref wl), some (.ref fl), some x, xe', some (nI m), some (nI p), some (.ref r), some tv, some wv, x14] H5) →
        tsW K z a cls d { nx := fun σ' H' => D'.nx (σ'.set 8 none) H', rt := D'.rt, bk := fun σ' H' => D'.bk (σ'.set 8 none) H', ct := fun σ' H' => D'.ct (σ'.set 8 none) H' } [x0, x1, x2, x3, x4, some (.ref wl), some (.ref fl), some x, some (.ref a), some (nI m), some (nI p), some (.ref r), some tv, some wv, x14] H5 := by
      intro z D' cls d H5 ez st5 ra5 hw5 a nx
      refine ⟨_, rfl, .inl ⟨rfl, _, SqL.of hw5⟩, wl, _, _, rfl, rfl, hw5, Nat.lt_of_le_of_lt (List.length_take_le ..) (by rw [sizeLine_eq]; omega), ?_⟩
      refine nx none _ (st5.trans (.l (StepR.put _ _ _))) (r9.far' w9 ra5 (StepR.put _ _ _)) ?_
      rw [upd_same, ez]
    have hx : i = 0 ∨ i = 1 ∨ i = 2 ∨ i = 3 := by omega
    rcases hx with rfl | rfl | rfl | rfl
    · obtain rfl : V.ref fa = x := Option.some.inj hi
      obtain ⟨c', g1, g2⟩ := la3
      refine ⟨fa, rfl, .inl ⟨c', KL g1 lmO_is.1, KL g2 codeO_is.1, ?_⟩⟩
      refine ⟨_, rfl, _, rfl, nI p, wv, wd, rfl, rfl, (wr3.kp st kwl Rb.at_).rp, F.wl1, .inr (.inl ⟨pin, F.no, fun H5 s5 => ?_⟩)⟩
      exact ⟨true, X3.tt, fun _ a ha => word (.str "task") _ (.ref CT) none H5 rfl (st.trans (.of s5)) (ra.step s5) (s5 _ _ hw) a (fun xe' H6 a b c => ⟨xe', _, rfl, a, b, c⟩), fun q => (by cases q)⟩
    · obtain rfl : V.ref fb = x := Option.some.inj hi
      obtain ⟨c', p', g1, g2, g3⟩ := lb3
      refine ⟨fb, rfl, .inr (.inl ⟨c', p', KL g1 lmO_is.1, KL g2 (fun _ z => nomatch z), KL g3 codeO_is.1, ?_⟩)⟩
      refine ⟨_, rfl, by show 5 ≤ sizeLine; decide, fun kl hkl => ?_⟩
      have sK := same_new (o := .lst [V.int 4, .int 1, .non, .bl true, .int 11]) hkl
      have kkl : (upd H' kl (.lst [V.int 4, .int 1, .non, .bl true, .int 11])) kl = some (.lst [V.int 4, .int 1, .non, .bl true, .int 11]) := upd_same
      have raK := ra.step sK
      have nk : kl ≠ r := (RowAt.ne ra hkl).symm
      have hwK := sK _ _ hw
      have tmK := (st.tm kwl Rb.at_).trans (Tm.of sK)
      generalize upd H' kl (.lst [V.int 4, .int 1, .non, .bl true, .int 11]) = Hk at *
      refine ⟨r, kl, sc, ns, _, rfl, raK, kkl, nk, by show 1 ≤ 5; decide, by show 5 ≤ 1000; decide, fun y H5 hy st5 ra5 => ?_⟩
      obtain ⟨_, _, _, RK⟩ := id raK
      have hw5 := st5 _ _ nwr hwK
      have tm5 := tmK.trans (stepR_tml st5 RK.at_)
      obtain ⟨hf, hin⟩ : flatV y = true ∧ inV y ([2, 3, 5, 7].map V.int) = false := by
        simp only [List.mem_cons, List.not_mem_nil, or_false] at hy
        rcases hy with rfl | rfl | rfl | rfl | rfl <;> exact ⟨rfl, rfl⟩
      obtain ⟨ta, rfl, hta⟩ := tab3
      refine ⟨_, rfl, y, .ref ta, dT bs, rfl, hf, TN.rp ⟨ta, rfl, .inl (tm5.1 _ _ hta)⟩, fun ds e => ?_, .inr (.inr ⟨hin, fun H7 s7 => ?_⟩)⟩
      · injection e with e
        subst e
        have := pow6 F.tsk.n6
        rw [List.length_map, F.tsk.len]
        omega
      exact ⟨false, X3.nt, fun q => (by cases q), fun _ => ⟨true, X3.nn, fun _ a ha => word (.str "number") _ (.ref CN) none H7 rfl (((st.trans (.of sK)).trans (.r st5)).trans (.of s7)) (ra5.step s7) (s7 _ _ hw5) a (fun xe' H6 a b c => ⟨xe', _, rfl, a, b, c⟩), fun q => (by cases q)⟩⟩
    · obtain rfl : V.ref fc = x := Option.some.inj hi
      obtain ⟨c', p', g1, g2, g3⟩ := lc3
      refine ⟨fc, rfl, .inr (.inr (.inl ⟨c', p', KL g1 lmO_is.1, KL g2 (fun _ z => nomatch z), KL g3 codeO_is.1, ?_⟩))⟩
      refine ⟨_, rfl, by show 4 ≤ sizeLine; decide, fun kl hkl => ?_⟩
      have sK := same_new (o := .lst [V.int 0, .int 7, .non, .bl true]) hkl
      have kkl : (upd H' kl (.lst [V.int 0, .int 7, .non, .bl true])) kl = some (.lst [V.int 0, .int 7, .non, .bl true]) := upd_same
      have raK := ra.step sK
      have nk : kl ≠ r := (RowAt.ne ra hkl).symm
      have hwK := sK _ _ hw
      have tmK := (st.tm kwl Rb.at_).trans (Tm.of sK)
      generalize upd H' kl (.lst [V.int 0, .int 7, .non, .bl true]) = Hk at *
      refine ⟨r, kl, sc, ns, _, rfl, raK, kkl, nk, by show 1 ≤ 4; decide, by show 4 ≤ 1000; decide, fun y H5 hy st5 ra5 => ?_⟩
      obtain ⟨_, _, _, RK⟩ := id raK
      have hw5 := st5 _ _ nwr hwK
      have tm5 := tmK.trans (stepR_tml st5 RK.at_)
      obtain ⟨d, hrp, ho⟩ : ∃ d, Rp H5 y d ∧ outD d := by
        simp only [List.mem_cons, List.not_mem_nil, or_false] at hy
        rcases hy with rfl | rfl | rfl | rfl
        · exact ⟨_, .int 0, .inr ⟨0, rfl, by omega⟩⟩
        · exact ⟨_, .int 7, .inr ⟨7, rfl, by omega⟩⟩
        · exact ⟨_, .non, .inl rfl⟩
        · exact ⟨_, .bl true, .inl rfl⟩
      refine ⟨y, d, rfl, hrp, .inr ⟨ho, fun H7 s7 => ?_⟩⟩
      exact ⟨false, X3.nt, fun q => (by cases q), fun _ => ⟨true, X3.nn, fun _ a ha => word (.str "number") _ (.ref CN) none H7 rfl (((st.trans (.of sK)).trans (.r st5)).trans (.of s7)) (ra5.step s7) (s7 _ _ hw5) a (fun xe' H6 a b c => ⟨xe', _, rfl, a, b, c⟩), fun q => (by cases q)⟩⟩
    · obtain rfl : V.ref fd = x := Option.some.inj hi
      obtain ⟨c', p', g1, g2, g3⟩ := ld3
      refine ⟨fd, rfl, .inr (.inr (.inr ⟨c', p', KL g1 lmO_is.1, KL g2 (fun _ z => nomatch z), KL g3 codeO_is.1, ?_⟩))⟩
      refine ⟨_, rfl, m, .non, .none, rfl, F.m1, F.m6, .non, rfl, fun H5 s5 => ?_⟩
      exact ⟨false, X3.st, fun q => (by cases q), fun _ => ⟨false, X3.sn, fun q => (by cases q), fun _ => ⟨true, X3.ss, fun _ a ha => word (.str "string") _ (.ref CS) none H5 rfl (st.trans (.of s5)) (ra.step s5) (s5 _ _ hw) a (fun xe' H6 a b c => ⟨xe', _, rfl, a, b, c⟩), fun q => (by cases q)⟩⟩⟩
  · rintro σ H' ⟨xe, xw, rfl, st, ra, hw⟩
    refine ⟨_, rfl, by show 4 ≤ sizeLine; decide, fun p1 hp1 => ?_⟩
    have s5 := same_new (o := .lst [V.str "task", .str "number", .str "number", .str "string"]) hp1
    exact ⟨.list [.str "task", .str "number", .str "number", .str "string"], .list [.str "task", .str "number", .str "number", .str "string"], .lst (SqL.of (s5 _ _ hw)) (.cons (.str _) (.cons (.str _) (.cons (.str _) (.cons (.str _) .nil)))), .lst (SqL.of upd_same) (.cons (.str _) (.cons (.str _) (.cons (.str _) (.cons (.str _) .nil)))), by decide +kernel, by decide +kernel, q _⟩
end
end Lt

set_option Elab.async false
set_option linter.all false
set_option maxRecDepth 100000
set_option maxHeartbeats 2000000
/-! k04: the wrong tables, the lambdas are made -/
namespace Lt
open PySem PySem.Spec PyProof.Rows L2 NdefX LamX LmX MaX
theorem no128 : isTab (dT (List.replicate 128 0)) = false := by decide +kernel
/-- what the draws have left -/
structure MidAt (K : PySem.W.Frag) (H : Hp) (r sc : Addr) (ns : List Int) (m p n : Nat) (bs : List Nat) (tv : V) : Prop where
  row : RowAt K H r sc ns
  m1 : 1 ≤ m
  m6 : m ≤ 6
  hp : p ∈ primes
  tab : TK H tv bs
  tsk : Tsk p n bs
section
variable {P : Program} {w : World} {K : PySem.W.Frag} {mg : Str → Option Value} {base : Heap} {CT CN CS c Pt : Addr}
theorem law_lams {TS : List (Addr × Str)} {f0 : Addr} {A : Around} {outer : List Env} {s0 : Shared} {H0 : Hp} {E0' : XK} (hr : Room 28 (LX P w K mg base f0 (.ref c) A outer s0 H0 E0').A) (TB : TabB base mg c Pt) (hm : (Pt, q_lam) ∈ TS) (hone : ∀ p ∈ TS, p.1 = Pt → p.2 = q_lam)
    (L : Has4 P w K mg base CT CN CS) (X3 : Ex3 K mg CT CN CS) :
    ∃ t, PSs (LX P w K mg base f0 (.ref c) A outer s0 H0 E0') ((defBody s_law).drop 9) t ∧ ∀ (D : Ends) (H : Hp) (x0 x1 x2 x3 x4 x5 x6 x7 x8 x13 x14 : Option V) (r sc : Addr) (ns : List Int) (m p n : Nat) (bs : List Nat) (tv : V),
      MidAt K H r sc ns m p n bs tv → Tabs TS H → (∀ H', D.rt (.bl true) H') → t D [x0, x1, x2, x3, x4, x5, x6, x7, x8, some (nI m), some (nI p), some (.ref r), some tv, x13, x14] H := by
  have hu := hr.units
  obtain ⟨tt, ht, qt⟩ := law_try (outer := outer) (s0 := s0) (H0 := H0) (E0' := E0') hr TB hm hone L X3
  refine ⟨_, pss_cons (ps_set (i := 5) sc_law.nd rfl (Or.inl rfl) (pe_lst pa_nil))
    (pss_cons (ps_set (i := 13) sc_law.nd rfl (Or.inr rfl) (pe_has L.pick (hr.mono (by decide)) (by rfl) (pa_cons (pv 11) (pa_cons (pe_lst (pa_cons pe_non (pa_cons (pe_tup pa_nil) (pa_cons (pe_tup (pa_cons pe_int pa_nil)) (pa_cons (pe_tup (pa_cons pe_int (pa_cons pe_int (pa_cons pe_int pa_nil)))) (pa_cons (pe_tup (pa_cons pe_int (pa_cons pe_int pa_nil))) (pa_cons (pe_lst (pa_cons pe_int (pa_cons pe_int pa_nil))) (pa_cons (pe_tup (pa_cons pe_bl (pa_cons pe_int pa_nil))) (pa_cons (pe_op op_repA (pe_tup (pa_cons pe_int pa_nil)) pe_int) pa_nil))))))))) pa_nil))))
    (pss_cons (ps_set (i := 6) sc_law.nd rfl (Or.inl rfl) (pe_lst (pa_cons (pe_lm0 (T := TS) TB rfl hm hone (ndef_free lb0) rfl) (pa_cons (pe_lm1 (T := TS) TB rfl hm hone (ndef_free lb1) rfl rfl pe_int) pa_nil))))
    ht)), ?_⟩
  intro D H x0 x1 x2 x3 x4 x5 x6 x7 x8 x13 x14 r sc ns m p n bs tv F hTb q
  have nt : ∀ {xs : List V}, ∀ ps, HO.lst xs ≠ .tbl ps := fun _ z => nomatch z
  refine ⟨Nat.zero_le _, fun wl hwl => ⟨_, rfl, Nat.zero_le _, fun t1 ht1 => ⟨by show 1 ≤ sizeLine; decide, fun t2 ht2 => ⟨by show 3 ≤ sizeLine; decide, fun t3 ht3 => ⟨by show 2 ≤ sizeLine; decide, fun t4 ht4 => ⟨by show 2 ≤ sizeLine; decide, fun l5 hl5 => ⟨by show 2 ≤ sizeLine; decide, fun t6 ht6 => ⟨by show 1 ≤ sizeLine; decide, fun t7 ht7 => ?_⟩⟩⟩⟩⟩⟩⟩⟩
  refine ⟨t7, 128, [V.int 0], rfl, rfl, SqT.of upd_same, (fun z => (by cases z)), (by decide), (by decide), (by show 1 ≤ 1000; decide), (fun z => absurd z (by decide)), fun _ t8 ht8 => ⟨by show 8 ≤ sizeLine; decide, fun kl hkl => ?_⟩⟩
  have sw := same_new (o := .lst []) hwl
  have s1 := same_new (o := .tup []) ht1
  have s2 := same_new (o := .tup [V.int 0]) ht2
  have s3 := same_new (o := .tup [V.int 0, .int 1, .int 1]) ht3
  have s4 := same_new (o := .tup [V.int 0, .int 2]) ht4
  have s5 := same_new (o := .lst [V.int 0, .int 1]) hl5
  have s6 := same_new (o := .tup [V.bl true, .int 0]) ht6
  have s7 := same_new (o := .tup [V.int 0]) ht7
  have s8 := same_new (o := .tup (List.replicate (128 : Int).toNat [V.int 0]).flatten) ht8
  have s9 := same_new (o := .lst [V.non, .ref t1, .ref t2, .ref t3, .ref t4, .ref l5, .ref t6, .ref t8]) hkl
  have s69 := s6.trans (s7.trans (s8.trans s9))
  have s59 := s5.trans s69
  have s49 := s4.trans s59
  have s39 := s3.trans s49
  have s29 := s2.trans s39
  have s19 := s1.trans s29
  have k1 := s29 _ _ (upd_same (H := upd H wl (.lst [])) (a := t1) (o := HO.tup []))
  have k2 := s39 _ _ (upd_same (a := t2) (o := HO.tup [V.int 0]))
  have k3 := s49 _ _ (upd_same (a := t3) (o := HO.tup [V.int 0, .int 1, .int 1]))
  have k4 := s59 _ _ (upd_same (a := t4) (o := HO.tup [V.int 0, .int 2]))
  have k5 := s69 _ _ (upd_same (a := l5) (o := HO.lst [V.int 0, .int 1]))
  have k6 := (s7.trans (s8.trans s9)) _ _ (upd_same (a := t6) (o := HO.tup [V.bl true, .int 0]))
  have k8 := s9 _ _ (upd_same (a := t8) (o := HO.tup (List.replicate (128 : Int).toNat [V.int 0]).flatten))
  have kw := s19 _ _ (upd_same (H := H) (a := wl) (o := HO.lst []))
  have row5 := F.row.step (sw.trans (s1.trans (s2.trans (s3.trans s4))))
  have n5r : l5 ≠ r := (RowAt.ne row5 hl5).symm
  have n5w : l5 ≠ wl := fun z => by
    rw [z] at hl5
    rw [(s1.trans (s2.trans (s3.trans s4))) _ _ upd_same] at hl5
    cases hl5
  have rowk := (F.row.step (sw.trans s19))
  have row8 := F.row.step (sw.trans (s1.trans (s2.trans (s3.trans (s4.trans (s5.trans (s6.trans (s7.trans s8))))))))
  have nkr : kl ≠ r := (RowAt.ne row8 hkl).symm
  have nwr : wl ≠ r := (RowAt.ne F.row hwl).symm
  have sA := sw.trans s19
  have kk := upd_same (H := upd (upd (upd (upd (upd (upd (upd (upd (upd H wl (.lst [])) t1 (.tup [])) t2 (.tup [V.int 0])) t3 (.tup [V.int 0, .int 1, .int 1])) t4 (.tup [V.int 0, .int 2])) l5 (.lst [V.int 0, .int 1])) t6 (.tup [V.bl true, .int 0])) t7 (.tup [V.int 0])) t8 (.tup (List.replicate (128 : Int).toNat [V.int 0]).flatten)) (a := kl) (o := HO.lst [V.non, .ref t1, .ref t2, .ref t3, .ref t4, .ref l5, .ref t6, .ref t8])
  generalize upd (upd (upd (upd (upd (upd (upd (upd (upd (upd H wl (.lst [])) t1 (.tup [])) t2 (.tup [V.int 0])) t3 (.tup [V.int 0, .int 1, .int 1])) t4 (.tup [V.int 0, .int 2])) l5 (.lst [V.int 0, .int 1])) t6 (.tup [V.bl true, .int 0])) t7 (.tup [V.int 0])) t8 (.tup (List.replicate (128 : Int).toNat [V.int 0]).flatten)) kl (.lst [V.non, .ref t1, .ref t2, .ref t3, .ref t4, .ref l5, .ref t6, .ref t8]) = Hk at *
  refine ⟨r, kl, sc, ns, _, rfl, rowk, kk, nkr, by show 1 ≤ 8; decide, by show 8 ≤ 1000; decide, fun y H5 hy st5 ra5 => ?_⟩
  obtain ⟨_, _, _, RK⟩ := id rowk
  have KT : ∀ {b o}, Hk b = some o → (∀ zs, o ≠ .lst zs) → H5 b = some o := fun h n => st5 _ _ (ne_of h RK.at_ (n _)) h
  have kw5 := st5 _ _ nwr kw
  have tab5 := (F.tab.tm (.of sA)).tm (stepR_tml st5 RK.at_)
  obtain ⟨wd, hwr, hno, hwl1⟩ : ∃ wd, WrAt H5 r wl y wd ∧ isTab wd = false ∧ ∀ ds, wd = .tuple ds → ds.length ≤ 1000 := by
    simp only [List.mem_cons, List.not_mem_nil, or_false] at hy
    rcases hy with rfl | rfl | rfl | rfl | rfl | rfl | rfl | rfl
    · exact ⟨.none, .inl ⟨rfl, rfl⟩, rfl, fun _ z => nomatch z⟩
    · exact ⟨.tuple [], .inr (.inl ⟨t1, [], [], rfl, KT k1 (fun _ z => nomatch z), rfl, fun _ => .nil⟩), rfl, fun ds z => by injection z with z; subst z; exact Nat.zero_le _⟩
    · exact ⟨.tuple [.int 0], .inr (.inl ⟨t2, _, _, rfl, KT k2 (fun _ z => nomatch z), rfl, fun _ => .cons (.int 0) .nil⟩), rfl, fun ds z => by injection z with z; subst z; decide⟩
    · exact ⟨.tuple [.int 0, .int 1, .int 1], .inr (.inl ⟨t3, _, _, rfl, KT k3 (fun _ z => nomatch z), rfl, fun _ => .cons (.int 0) (.cons (.int 1) (.cons (.int 1) .nil))⟩), rfl, fun ds z => by injection z with z; subst z; decide⟩
    · exact ⟨.tuple [.int 0, .int 2], .inr (.inl ⟨t4, _, _, rfl, KT k4 (fun _ z => nomatch z), rfl, fun _ => .cons (.int 0) (.cons (.int 2) .nil)⟩), rfl, fun ds z => by injection z with z; subst z; decide⟩
    · exact ⟨.list [.int 0, .int 1], .inr (.inr ⟨l5, _, _, rfl, st5 _ _ n5r k5, n5r, n5w, rfl, fun _ => .cons (.int 0) (.cons (.int 1) .nil)⟩), rfl, fun _ z => nomatch z⟩
    · exact ⟨.tuple [.bool true, .int 0], .inr (.inl ⟨t6, _, _, rfl, KT k6 (fun _ z => nomatch z), rfl, fun _ => .cons (.bl true) (.cons (.int 0) .nil)⟩), rfl, fun ds z => by injection z with z; subst z; decide⟩
    · refine ⟨dT (List.replicate 128 0), .inr (.inl ⟨t8, _, _, rfl, KT k8 (fun _ z => nomatch z), rfl, fun _ => ?_⟩), no128, fun ds z => by injection z with z; subst z; rw [List.length_map, List.length_replicate]; decide⟩
      rw [rep_flat]
      exact rp_nats _
  have T5 : Tabs TS H5 := Tabs.rowX rowk st5 (hTb.ext sA)
  refine ⟨T5, fun fa ca H6 e6 T6 _ fa6 ca6 => ⟨T6, fun pb fb cb H7 e7 T7 _ fb7 pb7 cb7 => ⟨by show 2 ≤ sizeLine; decide, fun fl hfl => ?_⟩⟩⟩
  have s10 := same_new (o := .lst [V.ref fa, V.ref fb]) hfl
  have e58 : ExtN H5 (upd H7 fl (.lst [V.ref fa, V.ref fb])) := (e6.trans e7).trans (extN_of s10)
  have row8' := ra5.extN e58
  exact qt D _ x0 x1 x2 x3 x4 x7 x8 x14 r sc wl fl fa fb ns m p n bs tv y wd ⟨row8', F.m1, F.m6, F.hp, tab5.tm (extN_tm e58), F.tsk, hwr.ext e58, hno, hwl1⟩ nwr ⟨H, F.row, hwl⟩ (e58 _ _ kw5 nt) upd_same ⟨ca, s10 _ _ (e7 _ _ fa6 lmO_is.2), s10 _ _ (e7 _ _ ca6 codeO_is.2)⟩ ⟨cb, pb, s10 _ _ fb7, s10 _ _ pb7, s10 _ _ cb7⟩ (T7.ext s10) q
end
end Lt

set_option Elab.async false
set_option linter.all false
set_option maxRecDepth 100000
set_option maxHeartbeats 1000000
namespace Lt
open PySem PySem.Spec PyProof.Rows L2
/-! ### _law_alike, of equal data -/
def Pl : Nat → PyData → Prop
  | _, .int _ => True
  | _, .none => True
  | k + 1, .tuple ds => ds.length ≤ 1000 ∧ ∀ e ∈ ds, Pl k e
  | k + 1, .list ds => ds.length ≤ 1000 ∧ ∀ e ∈ ds, Pl k e
  | _, _ => False
def isTL (d : PyData) : Bool := isTup d || isLst d
theorem kit_TL {K : PySem.W.Frag} (d : PyData) : PySem.W.kitAny K (.type (tyN d)) [.type "tuple", .type "list"] = some (isTL d) := by
  refine kitAny_cons (b := isTup d) (kit_ty (kit_tup d)) (fun h => ?_) (fun h => by unfold isTL; rw [h]; rfl)
  refine kitAny_cons (b := isLst d) (kit_ty (kit_lst d)) (fun h2 => ?_) (fun h2 => by unfold isTL; rw [h, h2]; rfl)
  unfold isTL
  rw [h, h2]
  exact kitAny_nil
theorem cls_TL : Paired ClsV [V.ty "tuple", V.ty "list"] [.type "tuple", .type "list"] := .cons (.ty _) (.cons (.ty _) .nil)
section
variable {P : Program} {w : World} {K : PySem.W.Frag} {mg : Str → Option Value} {base : Heap}
def spAlike (k : Nat) : Sp := fun vs H Q _ => ∃ (v u : V) (d : PyData), vs = [v, u] ∧ Rp H v d ∧ Rp H u d ∧ Pl k d ∧ ∀ H', Same H H' → Q (.bl true) H'
theorem sc_law_alike : FnScope ["found", "due", "k"] ["found", "due"] (defScope s_law_alike) := ⟨rfl, rfl, rfl, by decide +kernel, rfl, by decide +kernel, by decide +kernel⟩
theorem Rp.ix {K : PySem.W.Frag} {H : Hp} {a : Addr} {xs : List V} {i : Nat} {v : V} {Q : VK} (h : H a = some (.lst xs) ∨ RT H a xs) (hi : xs[i]? = some v) (q : Q v H) : rIx K (.ref a) (.int ((0 : Int) + (i : Nat))) H Q := by
  have e : atI xs ((0 : Int) + (i : Nat)) = some v := by rw [Int.zero_add]; exact atI_nat hi
  rcases h with h | h
  · exact .inl ⟨a, xs, _, v, rfl, rfl, SqL.of h, e, q⟩
  · exact .inr (.inl ⟨a, xs, _, v, rfl, rfl, h.sq, e, q⟩)
theorem RpAll.getR {H : Hp} : ∀ {ds : List PyData} {vs : List V} {i : Nat}, RpAll H vs ds → i < ds.length → ∃ v d, vs[i]? = some v ∧ ds[i]? = some d ∧ Rp H v d := fun {ds vs i} h hi => by
  have hl := h.len
  have hv : vs[i]? = some (vs[i]'(by omega)) := List.getElem?_eq_getElem (by omega)
  obtain ⟨d, h1, h2⟩ := h.get hv
  exact ⟨_, d, hv, h1, h2⟩
/-- a list or tuple -/
theorem Rp.seq {H : Hp} {v : V} {d : PyData} (h : Rp H v d) (ht : isTL d = true) : ∃ a xs ds, v = .ref a ∧ (H a = some (.lst xs) ∨ RT H a xs) ∧ RpAll H xs ds ∧ (d = .tuple ds ∨ d = .list ds) := by
  cases h with
  | lst h a => exact ⟨_, _, _, rfl, .inl h, a, .inr rfl⟩
  | tup h a => exact ⟨_, _, _, rfl, .inr h, a, .inl rfl⟩
  | non => cases ht
  | bl => cases ht
  | int => cases ht
  | str => cases ht
theorem sq_or {K : PySem.W.Frag} {H : Hp} {a : Addr} {xs : List V} (h : H a = some (.lst xs) ∨ RT H a xs) : SqL K H a xs ∨ SqT K H a xs := by
  rcases h with h | h
  · exact .inl (SqL.of h)
  · exact .inr h.sq
theorem or_same {H H' : Hp} {a : Addr} {xs : List V} (s : Same H H') (h : H a = some (.lst xs) ∨ RT H a xs) : H' a = some (.lst xs) ∨ RT H' a xs := by
  rcases h with h | h
  · exact .inl (s _ _ h)
  · exact .inr (h.sm s)
theorem has_law_alike (T : Top K mg "_law_alike" s_law_alike ["found", "due"]) (B : Bi mg) : ∀ k, Has P w K mg base CX0 (k + 1) "_law_alike" ["found", "due"] (spAlike k) := by
  have step : ∀ (k : Nat) (sp : Sp) (hsp : ∀ (v u : V) (d : PyData) (H : Hp) (Q : VK), (∃ k', k = k' + 1 ∧ Pl k' d) → Rp H v d → Rp H u d → (∀ H', Same H H' → Q (.bl true) H') → sp [v, u] H Q E0), Has P w K mg base CX0 k "_law_alike" ["found", "due"] sp → Has P w K mg base CX0 (k + 1) "_law_alike" ["found", "due"] (spAlike k) := by
    intro k sp hsp hA
    refine T.ok sc_law_alike (fun vs H Q E h => ?_) (fun f cdv A outer s H vs Q E hr h => ?_)
    · obtain ⟨v, u, d, rfl, _⟩ := h
      rfl
    · obtain ⟨v, u, d, rfl, hv, hu, hp, q⟩ := h
      refine ⟨_, pss_cons (ps_if (pt_val (pe_callB call_isiT (by rfl) B.isinstance PyProof.Rows.boot_isinstance (pa_cons (pv 1) (pa_cons (pe_tup (pa_cons (pe_bltn (by rfl) B.tuple PyProof.Rows.boot_tuple (rr_ty "tuple")) (pa_cons (pe_bltn (by rfl) B.list PyProof.Rows.boot_list (rr_ty "list")) pa_nil))) pa_nil))))
          (pss_cons (ps_if (PW.pt (pw_or (pt_not (pt_val (pe_callB call_isiT (by rfl) B.isinstance PyProof.Rows.boot_isinstance (pa_cons (pv 0) (pa_cons (pe_tup (pa_cons (pe_bltn (by rfl) B.tuple PyProof.Rows.boot_tuple (rr_ty "tuple")) (pa_cons (pe_bltn (by rfl) B.list PyProof.Rows.boot_list (rr_ty "list")) pa_nil))) pa_nil)))))
            (pw_or1 (pt_cmpR op_ne (pe_callB call_isi (by rfl) B.isinstance PyProof.Rows.boot_isinstance (pa_cons (pv 0) (pa_cons (pe_bltn (by rfl) B.list PyProof.Rows.boot_list (rr_ty "list")) pa_nil))) (pe_callB call_isi (by rfl) B.isinstance PyProof.Rows.boot_isinstance (pa_cons (pv 1) (pa_cons (pe_bltn (by rfl) B.list PyProof.Rows.boot_list (rr_ty "list")) pa_nil))) (nomark _)))))
            (pss_one (ps_ret pe_bl)) pss_nil)
          (pss_cons (ps_if (pt_cmpR op_ne (pe_callB call_len_seq (by rfl) B.len PySem.boot_len (pa_cons (pv 0) pa_nil)) (pe_callB call_len_seq (by rfl) B.len PySem.boot_len (pa_cons (pv 1) pa_nil)) (nomark _)) (pss_one (ps_ret pe_bl)) pss_nil)
          (pss_one (ps_ret (pe_cmpR (op_eqD hr.units) (pe_lc (own := [("k", 2)]) (g := gName 2) (tt := tNot (tB (tCall sp [] E0 (tCons (tOp (rIx K) (tVar 0) (tVar 2)) (tCons (tOp (rIx K) (tVar 1) (tVar 2)) tNil))))) (te := tVar 2) (by rfl) sc_law_alike.nd (pi_range1 (by rfl) B.range (pa_cons (pe_callB call_len_seq (by rfl) B.len PySem.boot_len (pa_cons (pv 1) pa_nil)) pa_nil))
              (blkOk_by (own := [("k", 2)]) (N := ["found", "due", "k"]) (sc := defScope s_law_alike) (by decide +kernel)) (fun _ _ _ _ _ => pg_name (i := 2) sc_law_alike.nd rfl (Or.inl rfl))
              (fun _ _ _ _ _ => pts_one (pt_not (pt_val (pe_has hA hr (by rfl) (pa_cons (pe_ix ix_seq (pv 0) (pv 2) (fun _ _ => rfl)) (pa_cons (pe_ix ix_seq (pv 1) (pv 2) (fun _ _ => rfl)) pa_nil))))))
              (fun _ _ _ _ _ => pv 2)) (pe_lst pa_nil) (nomark _)))))) pss_nil)
        (pss_cons (ps_if (PW.pt (pw_or (pt_cmp (pc_isN (pv 1))) (pw_or1 (pt_val (pe_callB call_isi (by rfl) B.isinstance PyProof.Rows.boot_isinstance (pa_cons (pv 1) (pa_cons (pe_bltn (by rfl) B.str PyProof.Rows.boot_str (rr_ty "str")) pa_nil)))))))
          (pss_one (ps_ret (pe_and (pe_cmpR (op_eqD hr.units) (pv 0) (pv 1) (nomark _)) (pe_one (pe_cmpR op_eq (pe_callB call_isi (by rfl) B.isinstance PyProof.Rows.boot_isinstance (pa_cons (pv 0) (pa_cons (pe_bltn (by rfl) B.str PyProof.Rows.boot_str (rr_ty "str")) pa_nil))) (pe_callB call_isi (by rfl) B.isinstance PyProof.Rows.boot_isinstance (pa_cons (pv 1) (pa_cons (pe_bltn (by rfl) B.str PyProof.Rows.boot_str (rr_ty "str")) pa_nil))) (nomark _)))))) pss_nil)
        (pss_one (ps_ret (pe_and (pe_callB call_isi (by rfl) B.isinstance PyProof.Rows.boot_isinstance (pa_cons (pv 0) (pa_cons (pe_bltn (by rfl) B.int PyProof.Rows.boot_int (rr_ty "int")) pa_nil)))
          (pe_and (pe_cmpR op_eq (pe_callB call_isi (by rfl) B.isinstance PyProof.Rows.boot_isinstance (pa_cons (pv 0) (pa_cons (pe_bltn (by rfl) B.bool PyProof.Rows.boot_bool (rr_ty "bool")) pa_nil))) (pe_callB call_isi (by rfl) B.isinstance PyProof.Rows.boot_isinstance (pa_cons (pv 1) (pa_cons (pe_bltn (by rfl) B.bool PyProof.Rows.boot_bool (rr_ty "bool")) pa_nil))) (nomark _))
            (pe_one (pe_cmpR op_eq (pv 0) (pv 1) (nomark _)))))))), ?_⟩
      refine ⟨_, rfl, by show 2 ≤ sizeLine; decide, fun tp htp => ?_⟩
      have s1 := same_new (o := .tup [V.ty "tuple", V.ty "list"]) htp
      have hv1 := Rp.same s1 _ _ hv
      have hu1 := Rp.same s1 _ _ hu
      refine ⟨u, tp, _, _, _, isTL d, rfl, upd_same, cls_TL, rp_ty hu1, kit_TL d, isTL d, rfl, ?_⟩
      by_cases hT : isTL d = true
      · rw [hT]
        refine iteT ⟨_, rfl, by show 2 ≤ sizeLine; decide, fun tp2 htp2 => ?_⟩
        have s2 := same_new (o := .tup [V.ty "tuple", V.ty "list"]) htp2
        have s12 := s1.trans s2
        have hv2 := Rp.same s2 _ _ hv1
        have hu2 := Rp.same s2 _ _ hu1
        refine ⟨v, tp2, _, _, _, isTL d, rfl, upd_same, cls_TL, rp_ty hv2, kit_TL d, isTL d, rfl, ?_⟩
        rw [hT]
        refine iteF ⟨_, rfl, v, .ty "list", _, _, isLst d, rfl, .ty _, rp_ty hv2, kit_ty (kit_lst d), _, rfl, u, .ty "list", _, _, isLst d, rfl, .ty _, rp_ty hu2, kit_ty (kit_lst d), rfl, _, rfl, iteNS rfl ?_⟩
        obtain ⟨a, xs, ds, rfl, ha, hx, hd⟩ := hv2.seq hT
        obtain ⟨b, ys, ds2, rfl, hb, hy, hd2⟩ := hu2.seq hT
        have eds : ds2 = ds := by
          rcases hd with e | e <;> rcases hd2 with e2 | e2 <;> rw [e] at e2 <;> first | (injection e2 with z; exact z.symm) | cases e2
        subst eds
        have hxl := hx.len
        have hyl := hy.len
        have hpl : ∃ k', k = k' + 1 ∧ ds2.length ≤ 1000 ∧ ∀ e ∈ ds2, Pl k' e := by
          cases k with
          | zero => rcases hd with e | e <;> rw [e] at hp <;> exact hp.elim
          | succ k' => rcases hd with e | e <;> rw [e] at hp <;> exact ⟨k', rfl, hp⟩
        obtain ⟨k', ek, hl, hpe⟩ := hpl
        refine ⟨_, rfl, a, xs, rfl, sq_or ha, _, rfl, b, ys, rfl, sq_or hb, rfl, _, rfl, iteNS (by rw [hxl, hyl]) ?_⟩
        refine ⟨_, rfl, b, ys, rfl, sq_or hb, (ys.length : Int), rfl, by omega, by omega, fun D hD => ?_⟩
        refine lc_range (lo := 0) (n := (ys.length : Int).toNat) (fun i H' => Same (upd (upd H tp (.tup [V.ty "tuple", V.ty "list"])) tp2 (.tup [V.ty "tuple", V.ty "list"])) H' ∧ H' D = some (.lst [])) ⟨same_new hD, upd_same⟩ ?_ ?_
        · rintro i H' hi ⟨sm, hDl⟩
          refine ⟨rfl, ?_⟩
          have hid : i < ds2.length := by omega
          obtain ⟨x1, d1, e1, e2, r1⟩ := hx.getR hid
          obtain ⟨x2, d2, e3, e4, r2⟩ := hy.getR hid
          have ed : d1 = d2 := Option.some.inj (e2.symm.trans e4)
          subst ed
          refine ⟨_, rfl, _, rfl, Rp.ix (or_same sm ha) e1 ⟨_, rfl, _, rfl, Rp.ix (or_same sm hb) e3 ?_⟩⟩
          refine hsp x1 x2 d1 H' _ ⟨k', ek, hpe d1 (List.mem_of_getElem? e2)⟩ (Rp.same sm _ _ r1) (Rp.same sm _ _ r2) fun H4 s4 => ?_
          exact ⟨true, rfl, iteF ⟨sm.trans s4, s4 _ _ hDl⟩⟩
        · rintro H' ⟨sm, hDl⟩
          refine ⟨Nat.zero_le _, fun p2 hp2 => ?_⟩
          have s5 := same_new (o := .lst []) hp2
          refine ⟨.list [], .list [], .lst (SqL.of (s5 _ _ hDl)) .nil, .lst (SqL.of upd_same) .nil, rfl, rfl, ?_⟩
          exact q _ ((s12.trans sm).trans s5)
      · have hF : isTL d = false := by simpa using hT
        rw [hF]
        have hi : (∃ i, d = .int i) ∨ d = .none := by
          cases d with
          | int i => exact .inl ⟨i, rfl⟩
          | tuple ds => exact absurd rfl hT
          | list ds => exact absurd rfl hT
          | none => exact .inr rfl
          | bool b => cases k <;> exact hp.elim
          | str b => cases k <;> exact hp.elim
          | dict b => cases k <;> exact hp.elim
        rcases hi with ⟨i, rfl⟩ | rfl
        rotate_left
        · cases hv
          cases hu
          refine iteF ⟨_, rfl, _, rfl, iteT (iteT ?_)⟩
          refine ⟨_, rfl, _, rfl, .none, .none, .non, .non, rfl, rfl, true, congrArg V.bl rfl, iteT ?_⟩
          exact ⟨_, rfl, .non, .ty "str", _, _, false, rfl, .ty _, .base .non, kit_ty (kit_str .none), _, rfl, .non, .ty "str", _, _, false, rfl, .ty _, .base .non, kit_ty (kit_str .none), rfl, q _ s1⟩
        cases hv
        cases hu
        refine iteF ⟨_, rfl, _, rfl, iteF ?_⟩
        refine ⟨_, rfl, .int i, .ty "str", _, _, false, rfl, .ty _, .base (.int i), kit_ty (kit_str (.int i)), false, rfl, iteF ?_⟩
        refine ⟨_, rfl, .int i, .ty "int", _, _, true, rfl, .ty _, .base (.int i), kit_ty (kit_int (.int i)), true, rfl, iteT ?_⟩
        refine ⟨_, rfl, .int i, .ty "bool", _, _, false, rfl, .ty _, .base (.int i), kit_ty (kit_bool (.int i)), _, rfl, .int i, .ty "bool", _, _, false, rfl, .ty _, .base (.int i), kit_ty (kit_bool (.int i)), rfl, true, rfl, iteT ?_⟩
        refine ⟨_, rfl, _, rfl, rfl, ?_⟩
        have e : decide (V.int i = V.int i) = true := decide_eq_true rfl
        rw [e]
        exact q _ s1
  intro k
  induction k with
  | zero =>
    obtain ⟨f, fd, hm, F, b⟩ := T
    exact step 0 (fun _ _ _ _ => False) (fun v u d H Q h _ _ _ => by obtain ⟨k', e, _⟩ := h; cases e) ⟨f, fd, hm, F.kp, b, ⟨fun _ _ _ _ h => h.elim, fun _ _ _ _ _ _ _ _ _ _ _ _ _ h => h.elim⟩⟩
  | succ k ih => exact step (k + 1) (spAlike k) (fun v u d H Q h hv hu q => by
      obtain ⟨k', e, hp⟩ := h
      cases e
      exact ⟨v, u, d, rfl, hv, hu, hp, q⟩) ih
end
end Lt

set_option Elab.async false
set_option linter.all false
set_option maxRecDepth 100000
set_option maxHeartbeats 2000000
/-! k04: the tables are asked of -/
namespace Lt
open PySem PySem.Spec PyProof.Rows L2 NdefX LamX LmX MaX
/-! ### the last part is the longest -/
theorem len_mono : ((List.range 64).all fun t => (List.range 64).all fun u => decide (kc t ≤ kc u → (insOf t).length ≤ (insOf u).length)) = true := by decide +kernel
theorem len_le {t u : Nat} (ht : t < 64) (hu : u < 64) (h : kc t ≤ kc u) : (insOf t).length ≤ (insOf u).length :=
  of_decide_eq_true (List.all_eq_true.mp (List.all_eq_true.mp len_mono t (List.mem_range.mpr ht)) u (List.mem_range.mpr hu)) h
theorem foldl_max_last : ∀ (l : List Nat) (a x : Nat), a ≤ x → (∀ y ∈ l, y ≤ x) → (l ++ [x]).foldl max a = x
  | [], a, x, h, _ => by
    show max a x = x
    omega
  | y :: l, a, x, h, hl => foldl_max_last l (max a y) x (by have := hl y List.mem_cons_self; omega) fun z hz => hl z (List.mem_cons_of_mem _ hz)
theorem polyL_lt {p n : Nat} {bs : List Nat} (hn : n ≤ 6) {t : Nat} (h : t ∈ polyL p n bs) : t < 64 := by
  unfold polyL at h
  have := List.mem_range.mp (List.mem_mergeSort.mp (List.mem_filter.mp h).1)
  have := pow6 hn
  omega
open PySem.W in
theorem polyL_sorted {p n : Nat} {bs : List Nat} (hn : n ≤ 6) : (polyL p n bs).Pairwise (fun a b => kc a ≤ kc b) := by
  have T1 := sortLe_total (listOrd itemOrd) false fun t => PySem.W.keyToks (encT (facG p n bs) t)
  have h := (List.pairwise_mergeSort (le := PySem.W.dataLe false (encT (facG p n bs))) T1.trans (fun a b => by rw [Bool.or_eq_true]; exact T1.total a b) (List.range (2 ^ n))).filter fun t => facG p n bs t != 0
  refine List.Pairwise.imp_of_mem ?_ h
  intro a b ha hb e
  rw [le_of_key (encT_key _) (polyL_lt hn ha) (polyL_lt hn hb)] at e
  exact of_decide_eq_true e
theorem degV_last {p n : Nat} {bs pre : List Nat} {t : Nat} (hn : n ≤ 6) (e : polyL p n bs = pre ++ [t]) : degV (polyL p n bs) = nI (insOf t).length := by
  have hs := polyL_sorted (p := p) (bs := bs) hn
  have hm : ∀ x ∈ polyL p n bs, x < 64 := fun x hx => polyL_lt hn hx
  rw [e] at hs hm ⊢
  unfold degV
  rw [if_neg (by simp), List.map_append]
  show nI ((pre.map (fun t => (insOf t).length) ++ [(insOf t).length]).foldl max 0) = _
  rw [foldl_max_last _ _ _ (Nat.zero_le _) fun y hy => ?_]
  obtain ⟨u, hu, rfl⟩ := List.mem_map.mp hy
  have := (List.pairwise_append.mp hs).2.2 u hu t (List.mem_singleton.mpr rfl)
  exact len_le (hm u (List.mem_append.mpr (.inl hu))) (hm t (by simp)) this
/-! ### the task that asks all -/
theorem all_fac : ∀ m, 1 ≤ m → m ≤ 5 → ∀ p ∈ primes, ((List.range (2 ^ m)).filter fun t => facG p m (allT m) t != 0) = [2 ^ m - 1] := by
  have h : ∀ m, m ≤ 5 → 1 ≤ m → (primes.all fun p => decide (((List.range (2 ^ m)).filter fun t => facG p m (allT m) t != 0) = [2 ^ m - 1])) = true := by decide +kernel
  intro m h1 h5 p hp
  exact of_decide_eq_true (List.all_eq_true.mp (h m h5 h1) p hp)
theorem ins_all : ∀ m, m ≤ 5 → (insOf (2 ^ m - 1)).length = m := by decide +kernel
theorem deg_all {m p : Nat} (h1 : 1 ≤ m) (h5 : m ≤ 5) (hp : p ∈ primes) : degV (polyL p m (allT m)) = nI m := by
  have e : polyL p m (allT m) = [2 ^ m - 1] := by
    have pm : (polyL p m (allT m)).Perm [2 ^ m - 1] := by
      rw [← all_fac m h1 h5 p hp]
      exact (List.mergeSort_perm _ _).filter _
    exact List.perm_singleton.mp pm
  rw [degV_last (pre := []) (t := 2 ^ m - 1) (by omega) e, ins_all m h5]
theorem tsk_all {m p : Nat} (h1 : 1 ≤ m) (h6 : m ≤ 6) (hp : p ∈ primes) : Tsk p m (allT m) := by
  refine ⟨hp, fun b hb => ?_, ?_, h1, h6⟩
  · unfold allT at hb
    rcases List.mem_append.mp hb with h | h
    · rw [List.eq_of_mem_replicate h]
      decide
    · rw [List.mem_singleton.mp h]
      decide
  · unfold allT
    have := Nat.two_pow_pos m
    rw [List.length_append, List.length_replicate]
    show 2 ^ m - 1 + 1 = 2 ^ m
    omega
/-! ### parts as data -/
theorem dep_part (g : Nat → Int) : ∀ ts : List Nat, PyData.depthAll (ts.map (partD g)) ≤ 2
  | [] => Nat.zero_le _
  | t :: ts => by
    show max (max (PyData.depthAll ((insOf t).map dN) + 1) (max 0 0) + 1) (PyData.depthAll (ts.map (partD g))) ≤ 2
    rw [depth_nats]
    have := dep_part g ts
    omega
theorem can_part (g : Nat → Int) : ∀ ts : List Nat, PyData.canLayAll0 (ts.map (partD g)) = true
  | [] => rfl
  | t :: ts => by
    show ((PyData.canLayAll0 ((insOf t).map dN) && (true && true)) && PyData.canLayAll0 (ts.map (partD g))) = true
    rw [can_nats, can_part g ts]
    rfl
theorem sh_part (g : Nat → Int) (ts : List Nat) : SeqAt.shaped (.list (ts.map (partD g))) = true := by
  show (PyData.canLayAll0 (ts.map (partD g)) && decide (PyData.depthAll (ts.map (partD g)) + 1 ≤ 64)) = true
  have := dep_part g ts
  rw [can_part, decide_eq_true (by omega)]
  rfl
theorem eqv_part (g : Nat → Int) (ts : List Nat) : PyData.eqv (.list (ts.map (partD g))) (.list []) = decide (ts = []) := by
  cases ts with
  | nil => rfl
  | cons => rfl
theorem Pl_part (g : Nat → Int) {ts : List Nat} (h : ts.length ≤ 1000) : Pl 3 (.tuple (ts.map (partD g))) := by
  refine ⟨by rw [List.length_map]; exact h, fun e he => ?_⟩
  obtain ⟨t, _, rfl⟩ := List.mem_map.mp he
  refine ⟨by show 2 ≤ 1000; decide, fun e he => ?_⟩
  simp only [List.mem_cons, List.not_mem_nil, or_false] at he
  rcases he with rfl | rfl
  · refine ⟨by rw [List.length_map]; have := insOf_len t; omega, fun e he => ?_⟩
    obtain ⟨k, _, rfl⟩ := List.mem_map.mp he
    exact trivial
  · exact trivial
theorem Pl_T {t : List Nat} (h : t.length ≤ 1000) : Pl 3 (dT t) := by
  refine ⟨by rw [List.length_map]; exact h, fun e he => ?_⟩
  obtain ⟨k, _, rfl⟩ := List.mem_map.mp he
  exact trivial
end Lt

set_option Elab.async false
set_option linter.all false
set_option maxRecDepth 100000
set_option maxHeartbeats 2000000
/-! k04: the two tables -/
namespace Lt
open PySem PySem.Spec PyProof.Rows L2 NdefX LamX LmX MaX
/-- all that the law calls -/
structure LawHas4 (P : Program) (w : World) (K : PySem.W.Frag) (mg : Str → Option Value) (base : Heap) (TS : List (Addr × Str)) (CT CN CS : Addr) : Prop where
  bi : Bi mg
  h4 : Has4 P w K mg base CT CN CS
  ex : Ex3 K mg CT CN CS
  parts : Has P w K mg base CX0 6 "_law_parts" ["prime", "table"] (spParts TS)
  alike : ∀ k, Has P w K mg base CX0 (k + 1) "_law_alike" ["found", "due"] (spAlike k)
  taken : Has P w K mg base CX0 1 "_law_taken" ["row", "many"] (spTaken K)
  tree : Has P w K mg base CX0 7 "_law_tree" ["row", "inputs", "deep"] (spLT K 5)
  text : Has P w K mg base CX0 7 "_law_text" ["row", "tree"] (spLTxt K 5)
  worth : Has P w K mg base CX0 7 "_law_worth" ["tree", "bits"] (spLW 5)
  bits : Has P w K mg base CX0 1 "_law_bits" ["inputs"] spLBits
  tabE : Has P w K mg base (L2.CX P w) 27 "table_of" ["inputs", "text"] spTabE
theorem pend {α β : Type} {R : α → β → Prop} : ∀ {xs : List α} {bs : List β} {b : β}, Paired R xs (bs ++ [b]) → ∃ pre x, xs = pre ++ [x] ∧ R x b
  | _, [], b, h => by
    cases h with
    | @cons x _ xs _ r t =>
      cases t
      exact ⟨[], x, rfl, r⟩
  | _, c :: bs, b, h => by
    cases h with
    | @cons x _ xs _ r t =>
      obtain ⟨pre, y, e, q⟩ := pend t
      exact ⟨x :: pre, y, by rw [e]; rfl, q⟩
theorem lapp : ∀ (l : List Nat), l ≠ [] → ∃ pre t, l = pre ++ [t]
  | [], h => absurd rfl h
  | a :: l, _ => by
    cases l with
    | nil => exact ⟨[], a, rfl⟩
    | cons b l =>
      obtain ⟨pre, t, e⟩ := lapp (b :: l) (by simp)
      exact ⟨a :: pre, t, by rw [e]; rfl⟩
theorem at_end (xs : List V) (x : V) : atI (xs ++ [x]) (-1) = some x := by
  have e : ixN (xs ++ [x]).length (-1) = some xs.length := by
    unfold ixN
    rw [if_neg (by decide), List.length_append, if_pos (by show -((xs.length + 1 : Nat) : Int) ≤ -1; omega)]
    congr 1
    show (-1 + ((xs.length + 1 : Nat) : Int)).toNat = _
    omega
  unfold atI
  rw [e]
  show (xs ++ [x])[xs.length]? = some x
  simp
theorem rep_read {K : PySem.W.Frag} {l : Addr} {k : Nat} {H2 : Hp} {Q : VK} (hl : H2 l = none) (h1 : 1 ≤ k) (h2 : k ≤ 1000) (q : ∀ a' H3, Same H2 H3 → H3 a' = some (.tup (nIs (List.replicate k 0))) → Q (.ref a') H3) : rRepA K (.ref l) (.int (k : Int)) (upd H2 l (.tup [V.int 0])) Q := by
  have s0 := same_new (o := .tup [V.int 0]) hl
  refine ⟨l, (k : Int), [V.int 0], rfl, rfl, SqT.of upd_same, (fun z => (by cases z)), (by omega), (by omega), (by show 1 ≤ 1000; decide), fun z => q l _ s0 ?_, fun z p hp => q p _ (s0.trans (same_new hp)) ?_⟩
  · have : k = 1 := by omega
    rw [this]
    exact upd_same
  · rw [upd_same, Int.toNat_natCast, rep_flat]
section
variable {P : Program} {w : World} {K : PySem.W.Frag} {mg : Str → Option Value} {base : Heap} {CT CN CS c Pt : Addr}
theorem law_mid {TS : List (Addr × Str)} {f0 : Addr} {A : Around} {outer : List Env} {s0 : Shared} {H0 : Hp} {E0' : XK} (hr : Room 28 (LX P w K mg base f0 (.ref c) A outer s0 H0 E0').A) (TB : TabB base mg c Pt) (hm : (Pt, q_lam) ∈ TS) (hone : ∀ p ∈ TS, p.1 = Pt → p.2 = q_lam)
    (L : LawHas4 P w K mg base TS CT CN CS) :
    ∃ t, PSs (LX P w K mg base f0 (.ref c) A outer s0 H0 E0') ((defBody s_law).drop 7) t ∧ ∀ (D : Ends) (H : Hp) (x0 x1 x3 x4 x5 x6 x7 x8 x13 x14 : Option V) (r sc : Addr) (ns : List Int) (m p n : Nat) (bs bd : List Nat) (tv dv : V),
      MidAt K H r sc ns m p n bs tv → m ≤ 5 → TK H dv bd → Tsk p m bd → Tabs TS H → (∀ H', D.rt (.bl true) H') → t D [x0, x1, some dv, x3, x4, x5, x6, x7, x8, some (nI m), some (nI p), some (.ref r), some tv, x13, x14] H := by
  have hu := hr.units
  have B := L.bi
  obtain ⟨tt, ht, qt⟩ := law_lams (outer := outer) (s0 := s0) (H0 := H0) (E0' := E0') hr TB hm hone L.h4 L.ex
  refine ⟨_, pss_cons (ps_for (passes_of rfl) rfl (pi_list (pe_lst (pa_cons (pv 2) (pa_cons (pv 12) pa_nil)))) (pg_name (i := 3) sc_law.nd rfl (Or.inl rfl))
      (pss_cons (ps_set (i := 4) sc_law.nd rfl (Or.inl rfl) (pe_has L.parts (hr.mono (by decide)) (by rfl) (pa_cons (pv 10) (pa_cons (pv 3) pa_nil))))
      (pss_cons (ps_if (pt_not (pt_val (pe_has (L.alike 3) (hr.mono (by decide)) (by rfl) (pa_cons (pe_hasL L.h4.poly (hr.mono (by decide)) (by rfl) (pa_cons (pv 10) (pa_cons (pv 3) pa_nil))) (pa_cons (pe_tupleOf (by rfl) B.tuple (pv 4)) pa_nil))))) (pss_one (ps_ret pe_bl)) pss_nil)
      (pss_one (ps_if (pt_not (pt_val (pe_has (L.alike 3) (hr.mono (by decide)) (by rfl) (pa_cons (pe_hasL L.h4.deg (hr.mono (by decide)) (by rfl) (pa_cons (pv 10) (pa_cons (pv 3) pa_nil)))
        (pa_cons (pe_ifExp (pt_cmpR (op_neD hu) (pv 4) (pe_lst pa_nil) (nomark _)) (pe_callB call_len_seq (by rfl) B.len PySem.boot_len (pa_cons (pe_ix ix_tup (pe_ix ix_list (pv 4) (pe_un un_neg pe_int) (fun _ _ => rfl)) pe_int (fun _ _ => rfl)) pa_nil)) pe_non) pa_nil))))) (pss_one (ps_ret pe_bl)) pss_nil)))))
    (pss_cons (ps_if (PW.pt (pw_or (pt_not (pt_val (pe_has (L.alike 3) (hr.mono (by decide)) (by rfl) (pa_cons (pe_hasL L.h4.all (hr.mono (by decide)) (by rfl) (pa_cons (pv 9) pa_nil)) (pa_cons (pe_op op_catA (pe_op op_repA (pe_tup (pa_cons pe_int pa_nil)) (pe_op op_sub (pe_callB call_len_seq (by rfl) B.len PySem.boot_len (pa_cons (pv 2) pa_nil)) pe_int)) (pe_tup (pa_cons pe_int pa_nil))) pa_nil)))))
        (pw_or1 (pt_cmpR op_ne (pe_hasL L.h4.deg (hr.mono (by decide)) (by rfl) (pa_cons (pv 10) (pa_cons (pe_hasL L.h4.all (hr.mono (by decide)) (by rfl) (pa_cons (pv 9) pa_nil)) pa_nil))) (pv 9) (nomark _))))) (pss_one (ps_ret pe_bl)) pss_nil)
    ht), ?_⟩
  intro D H x0 x1 x3 x4 x5 x6 x7 x8 x13 x14 r sc ns m p n bs bd tv dv F m5 hdv tkd hTb q
  have nt : ∀ {xs : List V}, ∀ ps, HO.lst xs ≠ .tbl ps := fun _ z => nomatch z
  refine ⟨_, rfl, _, rfl, by show 2 ≤ sizeLine; decide, fun gl hgl => ⟨gl, rfl, ⟨_, SqL.of upd_same⟩, ?_⟩⟩
  have s1 := same_new (o := .lst [dv, tv]) hgl
  have kg : (upd H gl (.lst [dv, tv])) gl = some (.lst [dv, tv]) := upd_same
  have hT1 := hTb.ext s1
  generalize upd H gl (.lst [dv, tv]) = Hg at *
  refine for_list (K := K) (a := gl) (xs := [dv, tv]) (fun i σ H' => ∃ x3 x4, σ = [x0, x1, some dv, x3, x4, x5, x6, x7, x8, some (nI m), some (nI p), some (.ref r), some tv, x13, x14] ∧ ExtN Hg H' ∧ Tabs TS H')
    ⟨x3, x4, rfl, ExtN.refl _, hT1⟩ (fun i σ H' _ ⟨_, _, _, e, _⟩ => SqL.of (e _ _ kg nt)) ?_ ?_
  · rintro i x σ H' hi ⟨y3, y4, rfl, e1, T1⟩
    obtain ⟨bx, k, hx, tkx⟩ : ∃ bx k, TK Hg x bx ∧ Tsk p k bx := by
      match i, hi with
      | 0, hi => cases Option.some.inj hi; exact ⟨bd, m, hdv.tm (.of s1), tkd⟩
      | 1, hi => cases Option.some.inj hi; exact ⟨bs, n, F.tab.tm (.of s1), F.tsk⟩
    have lenx : bx.length ≤ 1000 := by have := pow6 tkx.n6; have := tkx.len; omega
    have lenD : ∀ ds, dT bx = .tuple ds → ds.length ≤ 1000 := fun ds e => by
      injection e with e
      subst e
      rw [List.length_map]
      exact lenx
    have hpl := Nat.le_trans (polyL_len p k bx) (pow6 tkx.n6)
    have hx1 := hx.tm (extN_tm e1)
    refine ⟨_, rfl, _, rfl, p, bx, k, x, rfl, tkx, hx1, T1, fun l H2 e2 T2 ⟨zs, hl, pz⟩ => ?_⟩
    have hx2 := hx1.tm (extN_tm e2)
    refine ⟨_, rfl, _, rfl, nI p, x, dT bx, rfl, rfl, TN.rp hx2.tn, lenD, .inl ⟨p, k, bx, rfl, hx2, rfl, tkx, fun v H3 s3 pv3 => ?_⟩⟩
    have hl3 := s3 _ _ hl
    refine ⟨_, rfl, .inl ⟨l, zs, rfl, SqL.of hl3, fun pt hpt => ?_⟩⟩
    have s4 := same_new (o := .tup zs) hpt
    have s34 := s3.trans s4
    have pz4 : Paired (partAt (facG p k bx) (upd H3 pt (.tup zs))) zs (polyL p k bx) := paired_mono (fun _ _ r => partAt.tm (.of s34) r) pz
    refine ⟨v, .ref pt, _, rfl, (pv3.same s4).rp, .tup (.inl upd_same) (parts_rp pz4), Pl_part _ (by omega), fun H5 s5 => ⟨true, rfl, iteF ?_⟩⟩
    have s35 := s34.trans s5
    have hx5 := hx2.tm (.of s35)
    have hl5 := s35 _ _ hl
    have pz5 : Paired (partAt (facG p k bx) H5) zs (polyL p k bx) := paired_mono (fun _ _ r => partAt.tm (.of s35) r) pz
    refine ⟨_, rfl, _, rfl, nI p, x, dT bx, rfl, rfl, TN.rp hx5.tn, lenD, .inl ⟨p, k, bx, rfl, hx5, rfl, tkx, fun H6 s6 => ?_⟩⟩
    have hl6 := s6 _ _ hl5
    have pz6 : Paired (partAt (facG p k bx) H6) zs (polyL p k bx) := paired_mono (fun _ _ r => partAt.tm (.of s6) r) pz5
    refine ⟨_, rfl, Nat.zero_le _, fun p0 hp0 => ?_⟩
    have s7 := same_new (o := .lst []) hp0
    have hl7 := s7 _ _ hl6
    have pz7 : Paired (partAt (facG p k bx) (upd H6 p0 (.lst []))) zs (polyL p k bx) := paired_mono (fun _ _ r => partAt.tm (.of s7) r) pz6
    refine ⟨.list ((polyL p k bx).map (partD (facG p k bx))), .list [], Rp.dp _ _ (.lst hl7 (parts_rp pz7)), .lst (SqL.of upd_same) .nil, sh_part _ _, rfl, !decide (polyL p k bx = []), by rw [eqv_part], ?_⟩
    have nx : ∀ H8, Same (upd H6 p0 (.lst [])) H8 → ExtN Hg H8 ∧ Tabs TS H8 := fun H8 s8 => ⟨(e1.trans e2).trans (extN_of ((s35.trans s6).trans (s7.trans s8))), T2.ext ((s35.trans s6).trans (s7.trans s8))⟩
    by_cases hz : polyL p k bx = []
    · rw [decide_eq_true hz]
      refine iteF ⟨_, _, .none, rfl, ?_, .non, trivial, fun H8 s8 => ⟨true, rfl, iteF ⟨_, _, rfl, (nx H8 s8).1, (nx H8 s8).2⟩⟩⟩
      unfold degV
      rw [if_pos hz]
      exact .non
    · rw [decide_eq_false hz]
      obtain ⟨pre, t, et⟩ := lapp _ hz
      rw [et] at pz7
      obtain ⟨zp, z, rfl, b, pt2, rfl, hb, hpt2⟩ := pend pz7
      refine iteT ⟨_, rfl, 1, rfl, l, _, -1, _, rfl, rfl, SqL.of hl7, at_end zp _, b, _, 0, .ref pt2, rfl, rfl, SqT.of hb, rfl, pt2, nIs (insOf t), rfl, .inr (SqT.of hpt2), ?_⟩
      refine ⟨_, _, .int (((insOf t).length : Nat) : Int), rfl, ?_, ?_, trivial, fun H8 s8 => ⟨true, rfl, iteF ⟨_, _, rfl, (nx H8 s8).1, (nx H8 s8).2⟩⟩⟩
      · rw [degV_last tkx.n6 et]
        exact .int _
      · rw [nIs_len]
        exact .int _
  · rintro σ H' ⟨y3, y4, rfl, e1, T1⟩
    have tm1 := (Tm.of s1).trans (extN_tm e1)
    have e01 : ExtN H H' := (extN_of s1).trans e1
    obtain ⟨ad, rfl, hda⟩ := hdv.tm tm1
    have m1 := F.m1
    have m6 := F.m6
    have hp := F.hp
    have h64 := pow6 m6
    have ltd := tkd.len
    have hpos : 2 ≤ 2 ^ m := by
      obtain ⟨j, rfl⟩ : ∃ j, m = j + 1 := ⟨m - 1, by omega⟩
      have := Nat.two_pow_pos j
      rw [Nat.pow_succ]
      omega
    have lenA : ∀ ds, dT (allT m) = .tuple ds → ds.length ≤ 1000 := fun ds e => by
      injection e with e
      subst e
      rw [List.length_map, (tsk_all (p := p) m1 m6 hp).len]
      omega
    refine ⟨_, rfl, nI m, .int m, rfl, .int _, .inl ⟨m, rfl, m1, m6, fun u H2 s2 tku => ⟨by show 1 ≤ sizeLine; decide, fun l hl => ⟨_, rfl, ad, nIs bd, rfl, .inr (SqT.of ((s2.trans (same_new hl)) _ _ hda)), _, 1, rfl, rfl, ?_⟩⟩⟩⟩
    have e1' : (((nIs bd).length : Nat) : Int) - 1 = ((2 ^ m - 1 : Nat) : Int) := by
      rw [nIs_len, ltd, Int.natCast_sub (by omega)]
      rfl
    show rRepA K (.ref l) (.int ((((nIs bd).length : Nat) : Int) - 1)) _ _
    rw [e1']
    refine rep_read hl (by omega) (by omega) fun a1 H3 s3' ha1 => ⟨by show 1 ≤ sizeLine; decide, fun b1 hb1 => ?_⟩
    have s4 := same_new (o := .tup [V.int 1]) hb1
    refine ⟨a1, b1, _, _, rfl, rfl, SqT.of (s4 _ _ ha1), SqT.of upd_same, ?_, fun z => ?_, fun _ z => (by cases z), fun _ _ c1 hc1 => ?_⟩
    · rw [nIs_len, List.length_replicate, sizeLine_eq]
      show 2 ^ m - 1 + 1 ≤ _
      omega
    · have := congrArg List.length z
      rw [nIs_len, List.length_replicate] at this
      change 2 ^ m - 1 = 0 at this
      omega
    have s5 := same_new (o := .tup (nIs (List.replicate (2 ^ m - 1) 0) ++ [V.int 1])) hc1
    have kc1 : (upd (upd H3 b1 (.tup [V.int 1])) c1 (.tup (nIs (List.replicate (2 ^ m - 1) 0) ++ [V.int 1]))) c1 = some (.tup (nIs (allT m))) := by
      rw [upd_same]
      unfold allT nIs
      rw [List.map_append]
      rfl
    have s25 := s3'.trans (s4.trans s5)
    have la : (allT m).length ≤ 1000 := by rw [(tsk_all (p := p) m1 m6 hp).len]; omega
    refine ⟨u, .ref c1, dT (allT m), rfl, TN.rp (tku.tm (.of s25)).tn, TN.rp ⟨c1, rfl, .inl kc1⟩, Pl_T la, fun H6 s6 => ⟨true, rfl, iteF ?_⟩⟩
    refine ⟨_, rfl, _, rfl, nI m, .int m, rfl, .int _, .inl ⟨m, rfl, m1, m6, fun u2 H7 s7 tku2 => ?_⟩⟩
    refine ⟨nI p, u2, dT (allT m), rfl, rfl, TN.rp tku2.tn, lenA, .inl ⟨p, m, allT m, rfl, tku2, rfl, tsk_all m1 m6 hp, fun H8 s8 => ?_⟩⟩
    rw [deg_all m1 m5 hp]
    have sZ := s2.trans (s25.trans (s6.trans (s7.trans s8)))
    have e08 := e01.trans (extN_of sZ)
    refine ⟨_, rfl, rfl, false, congrArg (fun b => V.bl (!b)) (decide_eq_true rfl), iteF ?_⟩
    exact qt D H8 x0 x1 (some (.ref ad)) y3 y4 x5 x6 x7 x8 x13 x14 r sc ns m p n bs tv ⟨F.row.extN e08, m1, m6, hp, F.tab.tm (extN_tm e08), F.tsk⟩ (T1.ext sZ) q
end
end Lt

set_option Elab.async false
set_option linter.all false
set_option maxRecDepth 100000
set_option maxHeartbeats 4000000
/-! k04: the law -/
namespace Lt
open PySem PySem.Spec PyProof.Rows L2 NdefX LamX LmX MaX
theorem spell_sps (x : Str) : ∀ g, spellOf (x ++ sps g) = spellOf x
  | 0 => by
    have : x ++ sps 0 = x := by
      show (⟨x.cps ++ (List.replicate 0 32).toArray⟩ : Str) = x
      simp
    rw [this]
  | g + 1 => by
    unfold spellOf
    rw [cps_app, sps_cps, lexS_app, lexS_sp]
    show (lexS [] x.cps.toList).1 ++ flW (lexS [] x.cps.toList).2 ++ flW [] = _
    show _ ++ [] = _
    rw [List.append_nil]
theorem words_sps {x : Str} {f : Fm} (h : spellOf x = f.spell) (g : Nat) : (lexWords (x ++ sps g)).map (·.2) = f.spell ++ [wVoid] := by
  rw [lexWords_map]
  show spellOf (x ++ sps g) ++ [wVoid] = _
  rw [spell_sps, h]
section
variable {P : Program} {w : World} {K : PySem.W.Frag} {mg : Str → Option Value} {base : Heap} {CT CN CS c Pt : Addr}
def spLam2 (K : PySem.W.Frag) (TS : List (Addr × Str)) : Sp := fun vs H Q _ => ∃ (l : Addr) (ns : List Int), vs = [.ref l] ∧ SqL K H l (ns.map V.int) ∧ Tabs TS H ∧ ∀ H', Q (.bl true) H'
theorem law_all {TS : List (Addr × Str)} {f0 : Addr} {A : Around} {outer : List Env} {s0 : Shared} {H0 : Hp} {E0' : XK} (hr : Room 28 (LX P w K mg base f0 (.ref c) A outer s0 H0 E0').A) (TB : TabB base mg c Pt) (hm : (Pt, q_lam) ∈ TS) (hone : ∀ p ∈ TS, p.1 = Pt → p.2 = q_lam)
    (L : LawHas4 P w K mg base TS CT CN CS) :
    ∃ t, PSs (LX P w K mg base f0 (.ref c) A outer s0 H0 E0') (defBody s_law) t ∧ ∀ (D : Ends) (H : Hp) (vs : List V) (Q : VK), D.rt = Q → spLam2 K TS vs H Q C8.E0 → t D (start lawN vs) H := by
  have hu := hr.units
  have B := L.bi
  have hr1 : Room 1 (LX P w K mg base f0 (.ref c) A outer s0 H0 E0').A := hr.mono (by decide)
  have hr2 : Room 2 (LX P w K mg base f0 (.ref c) A outer s0 H0 E0').A := hr.mono (by decide)
  have hr7 : Room 7 (LX P w K mg base f0 (.ref c) A outer s0 H0 E0').A := hr.mono (by decide)
  obtain ⟨tt, ht, qt⟩ := law_mid (outer := outer) (s0 := s0) (H0 := H0) (E0' := E0') hr TB hm hone L
  refine ⟨_, pss_cons (ps_set (i := 11) sc_law.nd rfl (Or.inr rfl) (pe_lst (pa_cons (pv 0) (pa_cons pe_int (pa_cons pe_int (pa_cons pe_int pa_nil))))))
    (pss_cons (ps_set (i := 9) sc_law.nd rfl (Or.inr rfl) (pe_op op_add pe_int (pe_has L.taken hr1 (by rfl) (pa_cons (pv 11) (pa_cons pe_int pa_nil)))))
    (pss_cons (ps_set (i := 1) sc_law.nd rfl (Or.inr rfl) (pe_has L.tree hr7 (by rfl) (pa_cons (pv 11) (pa_cons (pv 9) (pa_cons pe_int pa_nil)))))
    (pss_cons (ps_set (i := 2) sc_law.nd rfl (Or.inl rfl) (pe_tupleOf (by rfl) B.tuple (pe_lc (own := [("bits", 14)]) (g := gName 14) (te := tCall (spLW 5) [] E0 (tCons (tVar 1) (tCons (tVar 14) tNil))) (by rfl) sc_law.nd (pi_list (pe_has L.bits hr1 (by rfl) (pa_cons (pv 9) pa_nil))) (blkOk_by (own := [("bits", 14)]) (N := lawN) (sc := defScope s_law) (by decide +kernel))
        (fun _ _ _ _ _ => pg_name (i := 14) sc_law.nd rfl (Or.inl rfl)) (fun _ _ _ _ _ => pts_nil) (fun _ _ _ _ _ => pe_has L.worth hr7 (by rfl) (pa_cons (pv 1) (pa_cons (pv 14) pa_nil))))))
    (pss_cons (ps_if (pt_not (pt_val (pe_has (L.alike 3) (hr.mono (by decide)) (by rfl) (pa_cons (pe_hasL L.tabE (hr.mono (by decide)) (by rfl) (pa_cons (pv 9) (pa_cons (pe_op op_add_str (pe_has L.text hr7 (by rfl) (pa_cons (pv 11) (pa_cons (pv 1) pa_nil))) (pe_op op_sp pe_str (pe_has L.taken hr1 (by rfl) (pa_cons (pv 11) (pa_cons pe_int pa_nil))))) pa_nil))) (pa_cons (pv 2) pa_nil))))) (pss_one (ps_ret pe_bl)) pss_nil)
    (pss_cons (ps_set (i := 10) sc_law.nd rfl (Or.inr rfl) (pe_has L.h4.pick hr2 (by rfl) (pa_cons (pv 11) (pa_cons (pe_lst (pa_cons pe_int (pa_cons pe_int (pa_cons pe_int (pa_cons pe_int (pa_cons pe_int pa_nil)))))) pa_nil))))
    (pss_cons (ps_set (i := 12) sc_law.nd rfl (Or.inr rfl) (pe_tupleOf (by rfl) B.tuple (pe_lc (own := [("bits", 14)]) (g := gName 14) (te := tCall (spTaken K) [] E0 (tCons (tVar 11) (tCons (tC (.int 2)) tNil))) (by rfl) sc_law.nd (pi_list (pe_has L.bits hr1 (by rfl) (pa_cons (pe_has L.h4.pick hr2 (by rfl) (pa_cons (pv 11) (pa_cons (pe_lst (pa_cons pe_int (pa_cons pe_int (pa_cons pe_int (pa_cons pe_int pa_nil))))) pa_nil))) pa_nil))) (blkOk_by (own := [("bits", 14)]) (N := lawN) (sc := defScope s_law) (by decide +kernel))
        (fun _ _ _ _ _ => pg_name (i := 14) sc_law.nd rfl (Or.inl rfl)) (fun _ _ _ _ _ => pts_nil) (fun _ _ _ _ _ => pe_has L.taken hr1 (by rfl) (pa_cons (pv 11) (pa_cons pe_int pa_nil))))))
    ht)))))), ?_⟩
  rintro D H vs Q rfl ⟨sc, ns, rfl, hsc, hT, q⟩
  refine ⟨_, rfl, Nat.le_of_ble_eq_true rfl, fun r hr0 => ?_⟩
  have s1 := same_new (o := .lst [V.ref sc, V.int 0, V.int 7704, V.int 0]) hr0
  have ra1 : RowAt K (upd H r (.lst [V.ref sc, V.int 0, V.int 7704, V.int 0])) r sc ns := ⟨0, 7704, 0, upd_same, Same.seq s1 hsc, by omega, by omega, by omega⟩
  have hT1 := hT.ext s1
  generalize upd H r (.lst [V.ref sc, V.int 0, V.int 7704, V.int 0]) = H1 at *
  refine ⟨_, rfl, r, sc, ns, 5, rfl, ra1, by decide, by decide, fun g H2 hg st2 ra2 => ⟨1, (g : Int), rfl, rfl, ?_⟩⟩
  have em : (1 : Int) + (g : Nat) = ((g + 1 : Nat) : Int) := by omega
  show gName 9 (V.int ((1 : Int) + (g : Nat))) _ _ _
  rw [em]
  have hT2 := Tabs.rowX ra1 st2 hT1
  obtain ⟨m, hm1⟩ : ∃ m, m = g + 1 := ⟨_, rfl⟩
  rw [← hm1]
  have m1 : 1 ≤ m := by omega
  have m5 : m ≤ 5 := by omega
  have m6 : m ≤ 6 := by omega
  refine ⟨_, rfl, _, rfl, r, sc, ns, m, 4, rfl, ra2, m1, m6, by decide, by decide, fun tv H3 f okf df st3 ra3 lat => ?_⟩
  have hT3 := Tabs.rowX ra2 st3 hT2
  refine ⟨_, rfl, m, rfl, m6, fun lb H4 s4 hlb ⟨xb, hxb, pxb⟩ => ⟨lb, rfl, ⟨_, SqL.of hxb⟩, fun D1 hD1 => ?_⟩⟩
  have h64 := pow6 m6
  have lxb := Paired.length pxb
  rw [rowsB_len] at lxb
  have lat4 := lat.tm (.of s4)
  refine lc_listM (K := K) (j := 14) (xs := xb) RN (tabF m f) (fun _ _ _ _ _ r => r) (fun H' s => SqL.of (s _ _ hxb)) (by omega) (by rw [tabF_len, lxb]) hD1 (fun x => rfl) (fun i x b hi hb H5 s5 Q5 q5 => ?_) (fun H5 zs s5 hz pz => ?_)
  · have him : i < 2 ^ m := by have := (List.getElem?_eq_some_iff.mp hi).1; omega
    obtain ⟨bt, hbt, ba, rfl, hba⟩ := Paired.getL pxb hi
    rw [rowsB_get him] at hbt
    have hbt := (Option.some.inj hbt).symm
    subst hbt
    have eb : b = evF f i := by
      unfold tabF at hb
      rw [List.getElem?_map, List.getElem?_range him] at hb
      exact (Option.some.inj hb).symm
    subst eb
    exact ⟨_, rfl, _, rfl, m, ba, bitsR m i, tv, f, rfl, bitsR_len m i, fun x hx => bitsR_le hx, s5 _ _ hba, okf, by omega, lat4.tm (.of s5), fun H6 s6 => q5 _ H6 s6 (by rw [evL_bits okf]; rfl)⟩
  refine .inl ⟨D1, zs, rfl, SqL.of hz, fun dp hdp => ?_⟩
  have s6 := same_new (o := .tup zs) hdp
  have kd : TK (upd H5 dp (.tup zs)) (.ref dp) (tabF m f) := tn_of upd_same (RN.all pz)
  have s46 := s4.trans (s5.trans s6)
  have ra6 := ra3.step s46
  have hT6 := hT3.ext s46
  have lat6 := lat.tm (.of s46)
  generalize upd H5 dp (.tup zs) = H6 at *
  refine ⟨_, rfl, _, rfl, _, rfl, r, sc, ns, m, 4, tv, f, rfl, ra6, m6, okf, df, by decide, by decide, lat6, fun x H7 st7 ra7 ex lx => ⟨_, rfl, r, sc, ns, 2, rfl, ra7, by decide, by decide, fun g2 H8 hg2 st8 ra8 => ?_⟩⟩
  have hT8 := Tabs.rowX ra7 st8 (Tabs.rowX ra6 st7 hT6)
  have kd8 := (kd.tm (st7.tm ra6)).tm (st8.tm ra7)
  have cap : capT 4 = 229 := rfl
  refine ⟨g2, rfl, rfl, by omega, _, _, rfl, rfl, by rw [sizeLine_eq, sps_len]; omega, ?_⟩
  refine ⟨m, x ++ sps g2, f, rfl, m1, m6, by rw [Str_len, sps_len]; omega, okf, by omega, words_sps ex g2, fun v H9 s9 tk9 => ?_⟩
  have lt := tabF_len m f
  refine ⟨_, rfl, v, .ref dp, dT (tabF m f), rfl, TN.rp tk9.tn, TN.rp (kd8.tm (.of s9)).tn, Pl_T (by omega), fun H10 s10 => ⟨true, rfl, iteF ?_⟩⟩
  have sA := s9.trans s10
  have ra10 := ra8.step sA
  have hT10 := hT8.ext sA
  have kd10 := kd8.tm (.of sA)
  refine ⟨_, rfl, by show 5 ≤ sizeLine; decide, fun kl hkl => ?_⟩
  have s11 := same_new (o := .lst [V.int 2, .int 2, .int 3, .int 5, .int 7]) hkl
  have nkl : kl ≠ r := (ra10.ne hkl).symm
  refine ⟨r, kl, sc, ns, _, rfl, ra10.step s11, upd_same, nkl, by show 1 ≤ 5; decide, by show 5 ≤ 1000; decide, fun y H11 hy st11 ra11 => ?_⟩
  have hT11 := Tabs.rowX (ra10.step s11) st11 (hT10.ext s11)
  have kd11 := (kd10.tm (.of s11)).tm (st11.tm (ra10.step s11))
  obtain ⟨p, hp, rfl⟩ : ∃ p, p ∈ primes ∧ y = nI p := by
    simp only [List.mem_cons, List.not_mem_nil, or_false] at hy
    rcases hy with rfl | rfl | rfl | rfl | rfl
    · exact ⟨2, by decide, rfl⟩
    · exact ⟨2, by decide, rfl⟩
    · exact ⟨3, by decide, rfl⟩
    · exact ⟨5, by decide, rfl⟩
    · exact ⟨7, by decide, rfl⟩
  refine ⟨_, rfl, by show 4 ≤ sizeLine; decide, fun k2 hk2 => ?_⟩
  have s12 := same_new (o := .lst [V.int 1, .int 2, .int 3, .int 4]) hk2
  have nk2 : k2 ≠ r := (ra11.ne hk2).symm
  refine ⟨r, k2, sc, ns, _, rfl, ra11.step s12, upd_same, nk2, by show 1 ≤ 4; decide, by show 4 ≤ 1000; decide, fun y H12 hy st12 ra12 => ?_⟩
  have hT12 := Tabs.rowX (ra11.step s12) st12 (hT11.ext s12)
  have kd12 := (kd11.tm (.of s12)).tm (st12.tm (ra11.step s12))
  obtain ⟨n, n1, n4, rfl⟩ : ∃ n : Nat, 1 ≤ n ∧ n ≤ 4 ∧ y = nI n := by
    simp only [List.mem_cons, List.not_mem_nil, or_false] at hy
    rcases hy with rfl | rfl | rfl | rfl
    · exact ⟨1, by decide, by decide, rfl⟩
    · exact ⟨2, by decide, by decide, rfl⟩
    · exact ⟨3, by decide, by decide, rfl⟩
    · exact ⟨4, by decide, by decide, rfl⟩
  refine ⟨n, rfl, by omega, fun lb2 H13 s13 hlb2 ⟨xc, hxc, pxc⟩ => ⟨lb2, rfl, ⟨_, SqL.of hxc⟩, fun D2 hD2 => ?_⟩⟩
  have ra13 := ra12.step s13
  have nlb : lb2 ≠ r := (ra12.ne hlb2).symm
  have lxc := Paired.length pxc
  rw [rowsB_len] at lxc
  have h64n := pow6 (show n ≤ 6 by omega)
  refine lc_listS (K := K) (r := r) (sc := sc) (ns := ns) (j := 14) (xs := xc) RN (fun b => b < 2) rn_mono ra13 hxc nlb (by omega) hD2 (fun x => rfl) (fun i x hi H14 st14 ra14 Q5 q5 => ⟨_, rfl, r, sc, ns, 2, rfl, ra14, by decide, by decide, fun z H15 hz st15 ra15 => q5 _ _ z st15 ra15 rfl hz⟩) (fun H14 zt bt st14 ra14 hz14 pz14 hbl hok => ?_)
  refine .inl ⟨D2, zt, rfl, SqL.of hz14, fun tp htp => ?_⟩
  have s15 := same_new (o := .tup zt) htp
  have kt : TK (upd H14 tp (.tup zt)) (.ref tp) bt := tn_of upd_same (RN.all pz14)
  have tmE := ((Tm.of s13).trans (st14.tm ra13)).trans (Tm.of s15)
  have hT15 := (Tabs.rowX ra13 st14 (hT12.ext s13)).ext s15
  have tskt : Tsk p n bt := ⟨hp, fun b hb => by have := hok b hb; omega, by rw [hbl, lxc], n1, by omega⟩
  have tskd : Tsk p m (tabF m f) := ⟨hp, fun b hb => tabF_le hb, lt, m1, m6⟩
  exact qt D _ _ _ _ _ _ _ _ _ _ _ r sc ns m p n bt (tabF m f) (.ref tp) (.ref dp) ⟨ra14.step s15, m1, m6, hp, kt, tskt⟩ m5 (kd12.tm tmE) tskd hT15 q
end
end Lt

set_option Elab.async false
set_option linter.all false
set_option maxRecDepth 100000
set_option maxHeartbeats 2000000
/-! the end of a law with lambdas, where one of its helpers makes lambdas too -/
namespace Lt
open PySem PySem.Spec PyProof.Rows L2 NdefX LamX LmX
theorem cti_mk {K : PySem.W.Frag} {h : Heap} {mg : Str → Option Value} {x : Str} {zs : List Int} {J : Addr} {o : Obj} (X : K.In h) (G : h.Ns mainGlobals mg) (a : PySem.W.nsIn K mainGlobals x = some (some (.ref J))) (l : K.lookup J = some o)
    (b : ∃ (its : Array Value) (n : Nat), o.cls = .type "tuple" ∧ o.data = .seq its n ∧ its.size ≤ sizeLine ∧ Vals (zs.map V.int) its.toList) : Cti K mg x zs := by
  obtain ⟨its, n, h1, h2, h3, h4⟩ := b
  exact ⟨J, PySem.W.mg_of X G a, fun H => .inr ⟨o, its, n, l, h1, h2, h3, h4⟩⟩
abbrev CtiX {K : PySem.W.Frag} {h : Heap} (_ : K.In h) (mg : Str → Option Value) (x : Str) (zs : List Int) : Prop := Cti K mg x zs
/-- the tables of the defs that are named are empty at the start -/
theorem walk_ofTabs (nms : List Str) {l : PySem.W.OpenLaw} {n k : Nat} {q : Program} {loose : List Str} {XP : (Str → Option Value) → Heap → Prop} {YP : World → Heap → Prop} {d : DefRec} {K : Params → PySem.W.Frag} {CX : World → CXT} {x : Str}
    (hn : l.most = some n) (hn2 : n ≤ sizeLine) (hdf : d.params.defaults = []) (hr : Room k callerA) (hrec : (nms.all fun m => (recsOf q).any fun e => e.name == m) = true) (hY : ∀ (w : World) (h : Heap), YP w h → (K w.params).In h)
    (F : ∀ (w : World) (mg : Str → Option Value) (fa : Addr) (h : Heap), YP w h → (K w.params).In h → h.Ns mainGlobals mg → mg d.name = some (.ref fa) → (∀ m ∈ nms, ∀ f, mg m = some (.ref f) → OwnTab (K w.params) f h) → LawAtS l w (K w.params) (CX w) k n x mg fa h)
    (hCX : ∀ (w : World) (H : Hp) (s : Shared) (e : Value) (s' : Shared), CX w [] H s (fun _ _ _ => False) e s' → False) :
    PySem.W.WalkO q loose XP YP l.row.toRowW d [] (fun f vs => PySem.call f vs) := by
  refine Att.attach_callB hn hdf fun w s₀ s₁ mg mb fa o pm cd doc a vs ns G Y ho hd hcd hmg hobj hints hlen hbits hg => ?_
  have KX := hY w _ Y
  have tabs : ∀ m ∈ nms, ∀ f, mg m = some (.ref f) → OwnTab (K w.params) f s₁.heap := fun m hm f hf c P o1 fd1 e dd vs1 sl k1 k2 k3 k4 k5 => by
    obtain ⟨r, hr1, hr2⟩ := List.any_eq_true.mp (List.all_eq_true.mp hrec m hm)
    obtain ⟨a', o', fd', c', P', t1, t2, t3, t4, t5, ⟨⟨oc, vc, u1, _, u3, u4⟩, hP⟩⟩ := G.T.tab r hr1
    rw [beq_iff_eq.mp hr2, hf] at t1
    cases t1
    cases (KX _ _ k1).symm.trans t2
    cases k2.symm.trans t3
    cases k3.symm.trans t4
    cases (KX _ _ k4).symm.trans u1
    cases u3
    cases k5.symm.trans u4
    exact hP
  obtain ⟨fd, cs, sp, h1, h2, h3, h4, h5, h6⟩ := F w mg fa _ Y KX G.T.g hmg tabs
  exact law_callTs KX G.T.g G.T.b G.T.builtins G.T.nolimit hg h1 h2 h3 G.T.bmain hobj hints (Nat.le_trans hlen hn2) hr h6 h4 (fun H hH hS => h5 H a ns hlen hbits hH hS) fun H e s' => hCX w H s₁ e s'
theorem lam_at2 {x2 q2 : Str} {st2 : Stmt} {ps2 : List Str} {l : PySem.W.OpenLaw} {w : World} {K : PySem.W.Frag} {h : Heap} {mg : Str → Option Value} {lvl : Nat} {fa f c Pt f2 c2 P2 : Addr} {oc kV doc pm ct e oc2 kV2 doc2 pm2 ct2 e2 : Value} {an od dd an2 od2 dd2 : Option Addr} {osl sl osl2 sl2 : Array (Option Value)} {vs vs2 : Array Value} {N : List Str} {st : Stmt}
    (S : FnScope N ["script"] (defScope st)) (X : K.In h) (hfa : mg "law" = some (.ref fa)) (own : ∀ m ∈ ([("law" : Str), x2] : List Str), ∀ f, mg m = some (.ref f) → OwnTab K f h) (G : h.Ns mainGlobals mg)
    (a : PySem.W.nsIn K mainGlobals "law" = some (some (.ref f)))
    (lk : K.lookup f = some ⟨oc, od, .func (PySem.W.fnOf "law" "law" (defArgs st) (defBody st) (defScope st) .none kV doc pm an (.ref c) ct), osl⟩) (hcd : PySem.W.codeIn K (.ref c) "law" = true)
    (lc : K.lookup c = some ⟨e, dd, .fields vs, sl⟩) (lp : vs[11]? = some (.ref Pt)) (hh : ∀ K' : PySem.W.Frag, K'.lookup c = some ⟨e, dd, .fields vs, sl⟩ → PySem.W.codeHdIn K' c Pt = true) (np : K.lookup Pt = none)
    (a2 : PySem.W.nsIn K mainGlobals x2 = some (some (.ref f2)))
    (lk2 : K.lookup f2 = some ⟨oc2, od2, .func (PySem.W.fnOf x2 x2 (defArgs st2) (defBody st2) (defScope st2) .none kV2 doc2 pm2 an2 (.ref c2) ct2), osl2⟩) (hcd2 : PySem.W.codeIn K (.ref c2) x2 = true) (kp2 : PySem.W.keepIn K (.ref f2) = true)
    (lc2 : K.lookup c2 = some ⟨e2, dd2, .fields vs2, sl2⟩) (lp2 : vs2[11]? = some (.ref P2)) (hh2 : ∀ K' : PySem.W.Frag, K'.lookup c2 = some ⟨e2, dd2, .fields vs2, sl2⟩ → PySem.W.codeHdIn K' c2 P2 = true) (np2 : K.lookup P2 = none) (hne : P2 ≠ Pt)
    (hb : ∀ s u, BindsTo s (PySem.W.fnOf "law" "law" (defArgs st) (defBody st) (defScope st) .none kV doc pm an (.ref c) ct) ⟨[u], []⟩ [("script", u)])
    (hb2 : ∀ (kV doc pm : Value) (an : Option Addr) (cdv ct : Value) (us : List Value), us.length = ps2.length → bindArgs (PySem.W.fnOf x2 x2 (defArgs st2) (defBody st2) (defScope st2) .none kV doc pm an cdv ct) ⟨us, []⟩ = pure (ps2.zip us))
    (hall : ∀ (base : Heap), TabB base mg c Pt → TabB base mg c2 P2 → TopC K mg x2 st2 ps2 c2 → P2 ≠ Pt → ∀ (A : Around) (outer : List Env) (s0 : Shared) (H0 : Hp) (E0' : XK), Room lvl (cxOf CX0 l.prog w K mg base N "law" (defScope st) f (.ref c) A outer s0 H0 E0').A → ∃ t, PSs (cxOf CX0 l.prog w K mg base N "law" (defScope st) f (.ref c) A outer s0 H0 E0') (defBody st) t ∧ ∀ (D : Ends) (H : Hp) (vs : List V) (Q : VK), D.rt = Q → spLam2 K [(Pt, q_lam), (P2, q2)] vs H Q C8.E0 → t D (start N vs) H) :
    LawAtS l w K CX0 (lvl + 1) 63 "script" mg fa h := by
  have ef := hfa.symm.trans (PySem.W.mg_of X G a)
  cases ef
  have F2 := fun_mk lk2 hcd2 kp2
  have tc : TopC K mg x2 st2 ps2 c2 := ⟨f2, oc2, od2, _, kV2, doc2, pm2, an2, ct2, osl2, PySem.W.mg_of X G a2, lk2, hcd2, kp2, F2.binds hb2⟩
  have two : ∀ {p : Addr × Addr}, p ∈ [(c, Pt), (c2, P2)] → p = (c, Pt) ∨ p = (c2, P2) := fun hp => by simpa using hp
  refine ⟨_, [(c, Pt), (c2, P2)], spLam2 K [(Pt, q_lam), (P2, q2)], fun p hp => ?_, fun p hp => ?_, fun p hp => ?_, hb, fun H a ns _ _ hH hS => ⟨a, ns, rfl, hS, fun p hp => ?_, fun _ => rfl⟩, fun base _ _ hB => ?_⟩
  · rcases two hp with e | e <;> rw [e]
    · exact own "law" (by simp) _ hfa c Pt _ _ _ _ vs sl lk rfl rfl lc lp
    · exact own x2 (by simp) _ (PySem.W.mg_of X G a2) c2 P2 _ _ _ _ vs2 sl2 lk2 rfl rfl lc2 lp2
  · rcases two hp with e | e <;> rw [e]
    · exact np
    · exact np2
  · rcases two hp with e | e <;> rw [e]
    · exact PySem.W.codeHd_of_K X (hh K lc)
    · exact PySem.W.codeHd_of_K X (hh2 K lc2)
  · have hp' : p = (Pt, q_lam) ∨ p = (P2, q2) := by simpa using hp
    rcases hp' with e | e <;> rw [e]
    · exact TabS.nil (hH (c, Pt) (by simp))
    · exact TabS.nil (hH (c2, P2) (by simp))
  · refine fn_of lk hcd S (fun vs H Q E h => ?_) fun A outer s H vs Q E hr h => ?_
    · obtain ⟨l, ns, rfl, _⟩ := h
      rfl
    · obtain ⟨t, ht, qt⟩ := hall base (hB (c, Pt) (by simp)) (hB (c2, P2) (by simp)) tc hne A outer s H E hr
      exact ⟨t, ht, qt _ H vs Q rfl h⟩
end Lt

set_option Elab.async false
set_option linter.all false
set_option maxRecDepth 100000
set_option maxHeartbeats 2000000
namespace Lt
open PySem PySem.Spec PyProof.Rows L2 NdefX LamX LmX MaX
section
variable {P : Program} {w : World} {K : PySem.W.Frag} {mg : Str → Option Value} {CB CT CN CS c Pt c2 P2 : Addr}
theorem Cn.gl4 {x : Str} {i : Int} (h : Cn mg x i) : ∃ u, mg x = some u ∧ RelV (.int i) u := let ⟨t, h⟩ := h; ⟨_, h, ⟨t, rfl⟩⟩
theorem Cs.gl4 {x z : Str} (h : Cs mg x z) : ∃ u, mg x = some u ∧ RelV (.str z) u := let ⟨t, h⟩ := h; ⟨_, h, ⟨t, rfl⟩⟩
theorem TopFs.has (T : TopFs K mg CB CT CN CS) (cp : Cti K mg "PRIMES" [2, 3, 5, 7]) (base : Heap) {TS : List (Addr × Str)} (tc : TopC K mg "_law_parts" s_law_parts ["prime", "table"] c2) (TB2 : TabB base mg c2 P2) (hm : (P2, q_lamP) ∈ TS) (hone : ∀ p ∈ TS, p.1 = P2 → p.2 = q_lamP) : LawHas4 P w K mg base TS CT CN CS := by
  have B := T.bi
  have eB : ErrI P w K mg base "BadSign" "place" CB := T.e_BadSign.errI init_BadSign
  have i1 : Has P w K mg base CX0 1 "is_number" _ _ := has_is_number T.f_is_number B
  have i2 := has_check_inputs T.f_check_inputs T.c_MOST_INPUTS.gl4 T.e_BadNumber i1
  have i2b := has_check_inputs2 T.f_check_inputs T.c_MOST_INPUTS.gl4 T.e_BadNumber i1
  have i3 : Has P w K mg base CX0 1 "placed_words" _ _ := has_placed_words T.f_placed_words B T.c_RUN_SIGNS.gl4
  have i4 := has_expected T.f_expected eB
  have i5 := has_tree_fromE T.f_tree_from eB ⟨T.c_MOST_AROUND.gl4, T.c_JOINERS⟩ i4 21
  have i6 := has_formula_treeE T.f_formula_tree B eB T.e_BadString i2 i3 i5
  have i6s := has_formula_treeS T.f_formula_tree B eB T.e_BadString i2 i3 i5
  have i7 : Has P w K mg base CX0 1 "input_table" _ _ := has_input_table T.f_input_table B
  have i8 : Has P w K mg base CX0 1 "bits_of" _ _ := has_bits_of T.f_bits_of B T.b_sum
  have iw := has_worth_ofE (P := P) (w := w) (base := base) T.f_worth_of B 22
  have i9 := has_table_ofE T.f_table_of B i6 i7 i8 iw
  have i9s := has_table_ofS T.f_table_of B i6s i7 i8 iw
  have n2 := has_are_numbers T.f_are_numbers B i1
  have k1 := has_check_prime (P := P) (w := w) (base := base) T.f_check_prime cp T.e_BadNumber
  have k2 := has_check_table T.f_check_table B T.c_MOST_INPUTS.gl4 T.e_BadTask n2
  have k3 : Has P w K mg base CX0 1 "inputs_of" _ _ := has_inputs_of T.f_inputs_of B
  have k4 : Has P w K mg base CX0 1 "part_of" _ _ := has_part_of T.f_part_of B T.c_MOST_INPUTS.gl4
  have k5 := has_factors_of T.f_factors_of B k3
  have k6 := has_polynomial T.f_polynomial B T.b_zip k1 k2 k5 k4
  have k7 := has_degree T.f_degree B T.b_max k6
  have k8 := has_all_of T.f_all_of B i2b
  have j1 : Has P w K mg base CX0 1 "_law_taken" _ _ := has_law_taken T.f_law_taken B
  have j2 := has_law_pick T.f_law_pick B j1
  have j3 : Has P w K mg base CX0 1 "_law_bits" _ _ := has_law_bits T.f_law_bits B
  exact { bi := B, h4 := ⟨k6, k7, k8, i9s, j2⟩, ex := ⟨T.e_BadTask.g, T.e_BadNumber.g, T.e_BadString.g, T.e_BadTask.exm, T.e_BadNumber.exm, T.e_BadString.exm, T.n_BadNumber_BadTask, T.n_BadString_BadTask, T.n_BadString_BadNumber⟩,
          parts := has_law_parts tc B T.b_zip T.b_sum TB2 hm hone j3, alike := fun k => has_law_alike T.f_law_alike B k, taken := j1, tree := has_law_treeE T.f_law_tree j1 5, text := has_law_text T.f_law_text B j1 5, worth := has_law_worth T.f_law_worth B T.b_max 5, bits := j3, tabE := i9 }
theorem law_top (T : TopFs K mg CB CT CN CS) (cp : Cti K mg "PRIMES" [2, 3, 5, 7]) {f0 : Addr} (base : Heap) (TB : TabB base mg c Pt) (TB2 : TabB base mg c2 P2) (tc : TopC K mg "_law_parts" s_law_parts ["prime", "table"] c2) (hne : P2 ≠ Pt) (A : Around) (outer : List Env) (s0 : Shared) (H0 : Hp) (E0' : XK) (hr : Room 28 (LX P w K mg base f0 (.ref c) A outer s0 H0 E0').A) :
    ∃ t, PSs (LX P w K mg base f0 (.ref c) A outer s0 H0 E0') (defBody s_law) t ∧ ∀ (D : Ends) (H : Hp) (vs : List V) (Q : VK), D.rt = Q → spLam2 K [(Pt, q_lam), (P2, q_lamP)] vs H Q C8.E0 → t D (start lawN vs) H := by
  have one : ∀ p ∈ [(Pt, q_lam), (P2, q_lamP)], p.1 = Pt → p.2 = q_lam := fun p hp e => by
    have hp' : p = (Pt, q_lam) ∨ p = (P2, q_lamP) := by simpa using hp
    rcases hp' with rfl | rfl
    · rfl
    · exact absurd e hne
  have two : ∀ p ∈ [(Pt, q_lam), (P2, q_lamP)], p.1 = P2 → p.2 = q_lamP := fun p hp e => by
    have hp' : p = (Pt, q_lam) ∨ p = (P2, q_lamP) := by simpa using hp
    rcases hp' with rfl | rfl
    · exact absurd e.symm hne
    · rfl
  exact law_all hr TB (List.mem_cons_self) one (T.has cp base tc TB2 (List.mem_cons_of_mem _ List.mem_cons_self) two)
end
end Lt

open PySem PySem.W PyProof.Rows
set_option Elab.async false
set_option maxRecDepth 100000 in
set_option maxHeartbeats 0 in
theorem PySem.Challenge.cw_lockturns_k04_whole_tasks_holds : PySem.Challenge.rw_lockturns_k04_whole_tasks.Holds := by
  w_on; o_law; k_head; (case hw => w_witness2)
  k_fill
  refine Lt.walk_ofTabs ["law", "_law_parts"] (l := PySem.Challenge.rw_lockturns_k04_whole_tasks) (n := 63) (k := 29) (x := "script") (CX := fun _ => L2.CX0) rfl (by decide) rfl ⟨rfl, by decide, by decide⟩ (by decide +kernel) (fun w h Y => PySem.W.km_in_of Y) ?F (fun _ _ _ _ _ z => z)
  case F =>
    intro w mg fa h Y KX G hmg own
    have bi : Lt.Bi mg := by
      refine' { tuple := mg_none_of KX G ?z0, list := mg_none_of KX G ?z1, range := mg_none_of KX G ?z2, len := mg_none_of KX G ?z3, sorted := mg_none_of KX G ?z4, enumerate := mg_none_of KX G ?z5, isinstance := mg_none_of KX G ?z6, all := mg_none_of KX G ?z7, set := mg_none_of KX G ?z8, int := mg_none_of KX G ?z9, bool := mg_none_of KX G ?z10, str := mg_none_of KX G ?z11 }
      all_goals k_is
    have b_sum : mg "sum" = none := by
      refine' mg_none_of KX G ?z
      (case z => k_is)
    have b_zip : mg "zip" = none := by
      refine' mg_none_of KX G ?z
      (case z => k_is)
    have b_max : mg "max" = none := by
      refine' mg_none_of KX G ?z
      (case z => k_is)
    have c_MOST_INPUTS : Lt.Cn mg "MOST_INPUTS" 6 := by
      refine' Lt.cn_mk KX G ?a ?b
      (case a => k_is); (case b => exact ⟨_, rfl⟩)
    have c_MOST_AROUND : Lt.Cn mg "MOST_AROUND" 20 := by
      refine' Lt.cn_mk KX G ?a ?b
      (case a => k_is); (case b => exact ⟨_, rfl⟩)
    have c_RUN_SIGNS : Lt.Cs mg "RUN_SIGNS" "abcdefghijklmnopqrstuvwxyz0123456789" := by
      refine' Lt.cs_mk KX G ?a ?b
      (case a => k_is); (case b => exact ⟨_, rfl⟩)
    have c_PRIMES : Lt.CtiX KX mg "PRIMES" [2, 3, 5, 7] := by
      refine' Lt.cti_mk KX G ?a ?l ?b
      (case a => k_is); (case l => k_is); (case b => exact ⟨_, _, rfl, rfl, by decide, .cons ⟨_, rfl⟩ (.cons ⟨_, rfl⟩ (.cons ⟨_, rfl⟩ (.cons ⟨_, rfl⟩ .nil)))⟩)
    have c_JOINERS : Lt.CtX KX mg "JOINERS" ["and", "or", "xor"] := by
      refine' Lt.ct_mk KX G ?a ?l ?b
      (case a => k_is); (case l => k_is); (case b => exact ⟨_, _, rfl, rfl, by decide, (.cons ⟨_, rfl⟩ (.cons ⟨_, rfl⟩ (.cons ⟨_, rfl⟩ (.nil))))⟩)
    have f_is_number : Lt.TopX KX mg "is_number" Lt.s_is_number ["value"] := by
      refine' Lt.top_mk KX G ?a ?l ?c ?k (fun _ _ _ _ _ _ us hl => match us, hl with | [_], _ => rfl)
      (case a => k_is); (case l => k_is); (case c => k_is); (case k => k_is)
    have f_are_numbers : Lt.TopX KX mg "are_numbers" Lt.s_are_numbers ["value"] := by
      refine' Lt.top_mk KX G ?a ?l ?c ?k (fun _ _ _ _ _ _ us hl => match us, hl with | [_], _ => rfl)
      (case a => k_is); (case l => k_is); (case c => k_is); (case k => k_is)
    have f_table_of : Lt.TopX KX mg "table_of" Lt.s_table_of ["inputs", "text"] := by
      refine' Lt.top_mk KX G ?a ?l ?c ?k (fun _ _ _ _ _ _ us hl => match us, hl with | [_, _], _ => rfl)
      (case a => k_is); (case l => k_is); (case c => k_is); (case k => k_is)
    have f_all_of : Lt.TopX KX mg "all_of" Lt.s_all_of ["inputs"] := by
      refine' Lt.top_mk KX G ?a ?l ?c ?k (fun _ _ _ _ _ _ us hl => match us, hl with | [_], _ => rfl)
      (case a => k_is); (case l => k_is); (case c => k_is); (case k => k_is)
    have f_polynomial : Lt.TopX KX mg "polynomial" Lt.s_polynomial ["prime", "table"] := by
      refine' Lt.top_mk KX G ?a ?l ?c ?k (fun _ _ _ _ _ _ us hl => match us, hl with | [_, _], _ => rfl)
      (case a => k_is); (case l => k_is); (case c => k_is); (case k => k_is)
    have f_degree : Lt.TopX KX mg "degree" Lt.s_degree ["prime", "table"] := by
      refine' Lt.top_mk KX G ?a ?l ?c ?k (fun _ _ _ _ _ _ us hl => match us, hl with | [_, _], _ => rfl)
      (case a => k_is); (case l => k_is); (case c => k_is); (case k => k_is)
    have f_check_inputs : Lt.TopX KX mg "check_inputs" Lt.s_check_inputs ["inputs"] := by
      refine' Lt.top_mk KX G ?a ?l ?c ?k (fun _ _ _ _ _ _ us hl => match us, hl with | [_], _ => rfl)
      (case a => k_is); (case l => k_is); (case c => k_is); (case k => k_is)
    have f_check_prime : Lt.TopX KX mg "check_prime" Lt.s_check_prime ["prime"] := by
      refine' Lt.top_mk KX G ?a ?l ?c ?k (fun _ _ _ _ _ _ us hl => match us, hl with | [_], _ => rfl)
      (case a => k_is); (case l => k_is); (case c => k_is); (case k => k_is)
    have f_check_table : Lt.TopX KX mg "check_table" Lt.s_check_table ["table"] := by
      refine' Lt.top_mk KX G ?a ?l ?c ?k (fun _ _ _ _ _ _ us hl => match us, hl with | [_], _ => rfl)
      (case a => k_is); (case l => k_is); (case c => k_is); (case k => k_is)
    have f_inputs_of : Lt.TopX KX mg "inputs_of" Lt.s_inputs_of ["table"] := by
      refine' Lt.top_mk KX G ?a ?l ?c ?k (fun _ _ _ _ _ _ us hl => match us, hl with | [_], _ => rfl)
      (case a => k_is); (case l => k_is); (case c => k_is); (case k => k_is)
    have f_input_table : Lt.TopX KX mg "input_table" Lt.s_input_table ["inputs", "own"] := by
      refine' Lt.top_mk KX G ?a ?l ?c ?k (fun _ _ _ _ _ _ us hl => match us, hl with | [_, _], _ => rfl)
      (case a => k_is); (case l => k_is); (case c => k_is); (case k => k_is)
    have f_bits_of : Lt.TopX KX mg "bits_of" Lt.s_bits_of ["table"] := by
      refine' Lt.top_mk KX G ?a ?l ?c ?k (fun _ _ _ _ _ _ us hl => match us, hl with | [_], _ => rfl)
      (case a => k_is); (case l => k_is); (case c => k_is); (case k => k_is)
    have f_part_of : Lt.TopX KX mg "part_of" Lt.s_part_of ["place"] := by
      refine' Lt.top_mk KX G ?a ?l ?c ?k (fun _ _ _ _ _ _ us hl => match us, hl with | [_], _ => rfl)
      (case a => k_is); (case l => k_is); (case c => k_is); (case k => k_is)
    have f_factors_of : Lt.TopX KX mg "factors_of" Lt.s_factors_of ["prime", "table"] := by
      refine' Lt.top_mk KX G ?a ?l ?c ?k (fun _ _ _ _ _ _ us hl => match us, hl with | [_, _], _ => rfl)
      (case a => k_is); (case l => k_is); (case c => k_is); (case k => k_is)
    have f_formula_tree : Lt.TopX KX mg "formula_tree" Lt.s_formula_tree ["inputs", "text"] := by
      refine' Lt.top_mk KX G ?a ?l ?c ?k (fun _ _ _ _ _ _ us hl => match us, hl with | [_, _], _ => rfl)
      (case a => k_is); (case l => k_is); (case c => k_is); (case k => k_is)
    have f_placed_words : Lt.TopX KX mg "placed_words" Lt.s_placed_words ["text"] := by
      refine' Lt.top_mk KX G ?a ?l ?c ?k (fun _ _ _ _ _ _ us hl => match us, hl with | [_], _ => rfl)
      (case a => k_is); (case l => k_is); (case c => k_is); (case k => k_is)
    have f_tree_from : Lt.TopX KX mg "tree_from" Lt.s_tree_from ["names", "words", "at", "around"] := by
      refine' Lt.top_mk KX G ?a ?l ?c ?k (fun _ _ _ _ _ _ us hl => match us, hl with | [_, _, _, _], _ => rfl)
      (case a => k_is); (case l => k_is); (case c => k_is); (case k => k_is)
    have f_expected : Lt.TopX KX mg "expected" Lt.s_expected ["words", "at", "wanted"] := by
      refine' Lt.top_mk KX G ?a ?l ?c ?k (fun _ _ _ _ _ _ us hl => match us, hl with | [_, _, _], _ => rfl)
      (case a => k_is); (case l => k_is); (case c => k_is); (case k => k_is)
    have f_worth_of : Lt.TopX KX mg "worth_of" Lt.s_worth_of ["tree", "leaves", "every"] := by
      refine' Lt.top_mk KX G ?a ?l ?c ?k (fun _ _ _ _ _ _ us hl => match us, hl with | [_, _, _], _ => rfl)
      (case a => k_is); (case l => k_is); (case c => k_is); (case k => k_is)
    have f_law_taken : Lt.TopX KX mg "_law_taken" Lt.s_law_taken ["row", "many"] := by
      refine' Lt.top_mk KX G ?a ?l ?c ?k (fun _ _ _ _ _ _ us hl => match us, hl with | [_, _], _ => rfl)
      (case a => k_is); (case l => k_is); (case c => k_is); (case k => k_is)
    have f_law_pick : Lt.TopX KX mg "_law_pick" Lt.s_law_pick ["row", "things"] := by
      refine' Lt.top_mk KX G ?a ?l ?c ?k (fun _ _ _ _ _ _ us hl => match us, hl with | [_, _], _ => rfl)
      (case a => k_is); (case l => k_is); (case c => k_is); (case k => k_is)
    have f_law_alike : Lt.TopX KX mg "_law_alike" Lt.s_law_alike ["found", "due"] := by
      refine' Lt.top_mk KX G ?a ?l ?c ?k (fun _ _ _ _ _ _ us hl => match us, hl with | [_, _], _ => rfl)
      (case a => k_is); (case l => k_is); (case c => k_is); (case k => k_is)
    have f_law_tree : Lt.TopX KX mg "_law_tree" Lt.s_law_tree ["row", "inputs", "deep"] := by
      refine' Lt.top_mk KX G ?a ?l ?c ?k (fun _ _ _ _ _ _ us hl => match us, hl with | [_, _, _], _ => rfl)
      (case a => k_is); (case l => k_is); (case c => k_is); (case k => k_is)
    have f_law_text : Lt.TopX KX mg "_law_text" Lt.s_law_text ["row", "tree"] := by
      refine' Lt.top_mk KX G ?a ?l ?c ?k (fun _ _ _ _ _ _ us hl => match us, hl with | [_, _], _ => rfl)
      (case a => k_is); (case l => k_is); (case c => k_is); (case k => k_is)
    have f_law_worth : Lt.TopX KX mg "_law_worth" Lt.s_law_worth ["tree", "bits"] := by
      refine' Lt.top_mk KX G ?a ?l ?c ?k (fun _ _ _ _ _ _ us hl => match us, hl with | [_, _], _ => rfl)
      (case a => k_is); (case l => k_is); (case c => k_is); (case k => k_is)
    have f_law_bits : Lt.TopX KX mg "_law_bits" Lt.s_law_bits ["inputs"] := by
      refine' Lt.top_mk KX G ?a ?l ?c ?k (fun _ _ _ _ _ _ us hl => match us, hl with | [_], _ => rfl)
      (case a => k_is); (case l => k_is); (case c => k_is); (case k => k_is)
    have f_law_parts : Lt.TopX KX mg "_law_parts" Lt.s_law_parts ["prime", "table"] := by
      refine' Lt.top_mk KX G ?a ?l ?c ?k (fun _ _ _ _ _ _ us hl => match us, hl with | [_, _], _ => rfl)
      (case a => k_is); (case l => k_is); (case c => k_is); (case k => k_is)
    have ee_BadSign : Lt.ErrE KX mg "BadSign" "place" Lt.s_BadSign := by
      refine' Lt.err_mk KX G ?aC ?xL ?rv ?sa ?ga ?gg ?no ?kC ?eC ?tC ?hC ?iC ?sC ?i1 ?i2 ?i3 ?i4 ?i5 (fun _ _ _ _ _ _ us hl => match us, hl with | [_, _], _ => rfl)
      (case aC => k_is); (case xL => k_is); (case rv => decide +kernel); (case sa => k_is); (case ga => k_is); (case gg => k_is); (case no => k_is); (case kC => k_is); (case eC => k_is); (case tC => k_is); (case hC => k_is); (case iC => k_is); (case sC => first | rfl | k_is)
      (case i1 => k_is); (case i2 => k_is); (case i3 => k_is); (case i4 => k_is); (case i5 => k_is)
    obtain ⟨C_BadSign, e_BadSign⟩ := ee_BadSign
    have ee_BadTask : Lt.NoE KX mg "BadTask" := by
      refine' Lt.no_mk KX G ?aC ?qx ?kC ?eC ?tC ?iC ?sC
      (case aC => k_is); (case qx => first | rfl | kernel_rfl); (case kC => k_is); (case eC => k_is); (case tC => k_is); (case iC => k_is); (case sC => first | rfl | k_is)
    obtain ⟨C_BadTask, e_BadTask⟩ := ee_BadTask
    have ee_BadNumber : Lt.NoE KX mg "BadNumber" := by
      refine' Lt.no_mk KX G ?aC ?qx ?kC ?eC ?tC ?iC ?sC
      (case aC => k_is); (case qx => first | rfl | kernel_rfl); (case kC => k_is); (case eC => k_is); (case tC => k_is); (case iC => k_is); (case sC => first | rfl | k_is)
    obtain ⟨C_BadNumber, e_BadNumber⟩ := ee_BadNumber
    have ee_BadString : Lt.NoE KX mg "BadString" := by
      refine' Lt.no_mk KX G ?aC ?qx ?kC ?eC ?tC ?iC ?sC
      (case aC => k_is); (case qx => first | rfl | kernel_rfl); (case kC => k_is); (case eC => k_is); (case tC => k_is); (case iC => k_is); (case sC => first | rfl | k_is)
    obtain ⟨C_BadString, e_BadString⟩ := ee_BadString
    have n_BadNumber_BadTask : Lt.ExmNoX KX C_BadNumber C_BadTask := by
      refine' Lt.exm_no KX G e_BadNumber.g e_BadTask.g ?a1 ?a2 ?h1 ?h2 ?h3 ?h4
      (case a1 => k_is); (case a2 => k_is); (case h1 => k_is); (case h2 => k_is); (case h3 => k_is); (case h4 => first | rfl | k_is)
    have n_BadString_BadTask : Lt.ExmNoX KX C_BadString C_BadTask := by
      refine' Lt.exm_no KX G e_BadString.g e_BadTask.g ?a1 ?a2 ?h1 ?h2 ?h3 ?h4
      (case a1 => k_is); (case a2 => k_is); (case h1 => k_is); (case h2 => k_is); (case h3 => k_is); (case h4 => first | rfl | k_is)
    have n_BadString_BadNumber : Lt.ExmNoX KX C_BadString C_BadNumber := by
      refine' Lt.exm_no KX G e_BadString.g e_BadNumber.g ?a1 ?a2 ?h1 ?h2 ?h3 ?h4
      (case a1 => k_is); (case a2 => k_is); (case h1 => k_is); (case h2 => k_is); (case h3 => k_is); (case h4 => first | rfl | k_is)
    refine' Lt.lam_at2 (x2 := "_law_parts") (q2 := Lt.q_lamP) (st2 := Lt.s_law_parts) (ps2 := ["prime", "table"]) (lvl := 28) Lt.sc_law KX hmg own G ?a ?l ?c ?lc ?lp ?hh ?np ?a2 ?l2 ?c2 ?k2 ?lc2 ?lp2 ?hh2 ?np2 ?hne (fun s u => .of_eq rfl) (fun _ _ _ _ _ _ us hl => match us, hl with | [_, _], _ => rfl) (fun base TB TB2 tc hne => Lt.law_top ⟨bi, b_sum, b_zip, b_max, c_MOST_INPUTS, c_MOST_AROUND, c_RUN_SIGNS, c_JOINERS, e_BadSign, e_BadTask, e_BadNumber, e_BadString, n_BadNumber_BadTask, n_BadString_BadTask, n_BadString_BadNumber, f_is_number, f_are_numbers, f_table_of, f_all_of, f_polynomial, f_degree, f_check_inputs, f_check_prime, f_check_table, f_inputs_of, f_input_table, f_bits_of, f_part_of, f_factors_of, f_formula_tree, f_placed_words, f_tree_from, f_expected, f_worth_of, f_law_taken, f_law_pick, f_law_alike, f_law_tree, f_law_text, f_law_worth, f_law_bits, f_law_parts⟩ c_PRIMES base TB TB2 tc hne)
    (case a => k_is); (case l => k_is); (case c => k_is); (case lc => k_is); (case lp => rfl); (case hh => intro K' hK; unfold PySem.W.codeHdIn; rw [hK]; rfl); (case np => first | rfl | kernel_rfl | decide)
    (case a2 => k_is); (case l2 => k_is); (case c2 => k_is); (case k2 => k_is); (case lc2 => k_is); (case lp2 => rfl); (case hh2 => intro K' hK; unfold PySem.W.codeHdIn; rw [hK]; rfl); (case np2 => first | rfl | kernel_rfl | decide); (case hne => first | decide | (intro z; omega))
#print axioms PySem.Challenge.cw_lockturns_k04_whole_tasks_holds

