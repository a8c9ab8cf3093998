import PyProof.Rows.All
import Wide.All
import OpenK.AllK
import Wide.FinOn
import KE.GoesEnum
import HandS.ForMost
import HandS.TupSets
import HandS.Conv
import HandS.Strs
import HandS.SortInts
import KE.KDictDisplayH
import HandS.IsInst
import HandS.TupAny
import HandS.TupLen
import HandS.TupMul
import HandS.Deep
import HandS.Evl
import HandS.ExcInit
import HandS.ExcOwn
import HandS.ExcField
import HandS.TryOnly
import HandS.ForExc
import HandS.Small
import HandS.Lambda
import HandS.Nested
import KE.KDflt
import HandS.EndOwn
import HandS.NestedK
import PySem.Challenge.RW_lockturns_k01_whole_locks
set_option Elab.async false
set_option linter.all false
set_option maxRecDepth 100000
set_option maxHeartbeats 4000000
/-! enumerate over a tuple, in a for -/
namespace LtR
open PySem PyProof.Rows
open AutoSeq1 (wpAny_loadPart')
theorem meets_enum1 {v : Value} {o : Obj} {H : Heap → Prop} (B : Begins v o H) :
    Meets (Builtin.«enumerate.__new__» ⟨[.type "enumerate", v], []⟩) (fun _ R s => H s.heap ∧
      R (.ok (.ret (.ref (s.heap.push o).objs.size))) { s with heap := (s.heap.push o).push { cls := .type "enumerate", data := .fields #[.none, .bool false, .ref s.heap.objs.size, rawInt 0, .none, .none] } }) :=
  .of_wp fun prog w A R s h => by
    obtain ⟨hp, g, d, tk, os⟩ := s
    obtain ⟨h1, h⟩ := h
    have hsub := sub_enumerate
    have q1 : ∀ {A' : Around} {E : Value → Shared → Prop} {Q : Value → Shared → Prop}, Q (.ref hp.objs.size) ⟨hp.push o, g, d, tk, os⟩ → wpAny (model prog w) A' (pyIter v) Q E ⟨hp, g, d, tk, os⟩ :=
      fun q => B.iter prog w _ _ ⟨hp, g, d, tk, os⟩ _ h1 q
    wp_walk using q1
    refine wpAny_stack_any fun st => wpAny_pure ?_
    split
    · rename_i c _ _ _ _ _
      cases (c == Value.type "enumerate")
      · wp_walk using q1
        exact ⟨_, rfl, h⟩
      · wp_walk using q1
        exact ⟨_, rfl, h⟩
    · wp_walk using q1
      exact ⟨_, rfl, h⟩
section
variable {prog : Program} {w : World} {A : Around} {E : Value → Shared → Prop} {s : Shared}
theorem enum1_begins {v : Value} {o : Obj} {H : Heap → Prop} {Q : Value → Shared → Prop} (B : Begins v o H) (h1 : H s.heap)
    (h : ∀ h', IsEnum h' (s.heap.objs.size + 1) s.heap.objs.size 0 .none → h'.get? s.heap.objs.size = some o → h'.objs.size = s.heap.objs.size + 2 →
      (∀ b o, s.heap.get? b = some o → h'.get? b = some o) → Q (.ref (s.heap.objs.size + 1)) { s with heap := h' }) :
    wpAny (model prog w) A (call (.type "enumerate") [v]) Q E s := by
  refine callType_new F.called_enumerate (by decide) (F.typeCall_enumerate_1 _) (F.newCall_enumerate_1 _) (fun obj => F.args_object_init_2 obj _) F.entry_enumerate_new
    (meets_enum1 B) ⟨h1, ?_⟩
  have hz : (s.heap.push o).objs.size = s.heap.objs.size + 1 := Heap.size_push ..
  show _ ∧ _
  rw [hz]
  have he : IsEnum ((s.heap.push o).push { cls := .type "enumerate", data := .fields #[.none, .bool false, .ref s.heap.objs.size, rawInt 0, .none, .none] }) (s.heap.objs.size + 1) s.heap.objs.size 0 .none := by
    have := Heap.get?_push_size (s.heap.push o) (o := { cls := .type "enumerate", data := .fields #[.none, .bool false, .ref s.heap.objs.size, rawInt 0, .none, .none] }) rfl
    rw [hz] at this; exact this
  refine ⟨⟨_, he, rfl⟩, h _ he (Heap.get?_push_of_some _ (Heap.get?_push_size _ B.free)) (by rw [Heap.size_push, hz]) fun b o x => Heap.get?_push_of_some _ (Heap.get?_push_of_some _ x)⟩
end
end LtR
namespace L2
open PySem PySem.Spec PyProof.Rows
/-- the tuple at a as it stands at each turn, each item in a new pair -/
def Itet (K : PySem.W.Frag) (a : Addr) : It :=
  ⟨fun i H => ∃ (xs : List V) (x : V), SqT K H a xs ∧ xs[i]? = some x, fun i H v H' => ∃ T x, v = .ref T ∧ H T = none ∧ H' = upd H T (.tup [.int (i : Nat), x]) ∧ ∀ xs, SqT K H a xs → xs[i]? = some x, fun i H => ∃ xs : List V, SqT K H a xs ∧ xs.length = i⟩
theorem turn_enumT {P : Program} {w : World} {K : PySem.W.Frag} {elts : List Expr} {kk : Nat} {tpos : Pos} (a e it : Addr) (hae : a ≠ e) (hai : a ≠ it) :
    Turn P w K (.Tuple elts kk tpos) (Itet K a) [e, it] e (fun i h => (∃ old, IsEnum h e it ((i : Nat) : Int) old) ∧ h.IsTupleIter it a i ∧ e ≠ it) where
  mem := by simp
  obj := fun i h st b hb => by
    obtain ⟨⟨old, he⟩, ⟨o, ho, hc, hd⟩, _⟩ := st
    have e' : b = e ∨ b = it := by simpa using hb
    rcases e' with z | z
    · rw [z]; exact ⟨_, he, fun v q => nomatch q⟩
    · rw [z]; exact ⟨o, ho, fun v q => by rw [hd] at q; cases q⟩
  keep := fun i h h' st k => let ⟨⟨old, he⟩, hi, hne⟩ := st; ⟨⟨old, k e (by simp) _ he⟩, hi.at fun o q => k it (by simp) o q, hne⟩
  item := by
    intro X hP hw hK hc i pins s σ H E I hf st hg
    subst hP hw hK
    obtain ⟨⟨old, he⟩, hit, hne⟩ := st
    obtain ⟨xs, x, hq, hx⟩ := hg
    obtain ⟨its, rv, p, hz⟩ := I.tuple hq
    obtain ⟨u, hu, ru⟩ := rv.get hx
    have hel : e < s.heap.objs.size := Heap.lt_size he
    have hil : it < s.heap.objs.size := by obtain ⟨_, q, _⟩ := hit; exact Heap.lt_size q
    have hu' : its.toArray[i]? = some u := by simpa using hu
    have hlt : i < its.toArray.size := (Array.getElem?_eq_some_iff.mp hu').1
    refine wpAny_pyNext_enum_itemD (Draws.tuple (prog := X.prog) (w := X.w) (A := X.A.in1) (I.ok.hd hc) it a hai its.toArray) he ⟨hit, (show s.heap.IsTuple a its.toArray from p)⟩ hlt hne (by simp [hne, Ne.symm hae]) fun x' h' tk hP ho hst' hT hsz hk => ?_
    have ex : x' = u := Option.some.inj ((show its.toArray[i]? = some x' from hP).symm.trans hu')
    subst ex
    obtain ⟨hit', hp'⟩ := hst'
    refine ⟨_, rfl, wpAny_letOwnedTupleGo_enum (s := { s with heap := h', toks := tk + 1 }) ho fun h'' he' sb => ?_⟩
    have hT2 : h''.get? s.heap.objs.size = some { cls := .type "tuple", data := .seq #[.int i tk, x'] } := (sb.2 _ (Nat.ne_of_gt hel)).trans hT
    have new : ObjOk X.prog X.w (upd H s.heap.objs.size (.tup [.int (i : Nat), x])) h'' s.heap.objs.size (.tup [.int (i : Nat), x]) :=
      ⟨by show 2 ≤ sizeLine; decide, [.int i tk, x'], .cons ⟨_, rfl⟩ (.cons ru .nil), ⟨_, hT2, rfl, _, rfl⟩⟩
    have I1 : Inv X pins σ (upd H s.heap.objs.size (.tup [.int (i : Nat), x])) { s with heap := h'', toks := tk + 1 } :=
      I.turnedNew (ch := [e, it]) (fun b ob hb q => (sb.2 b (fun z => hb (by simp [z]))).trans (hk b ob (fun z => hb (by simp [z])) (fun z => hb (by simp [z])) q)) hf (Nat.le_refl _) new
    refine ⟨.ref s.heap.objs.size, _, I1, rfl, ⟨_, x, rfl, I.hok.fresh (Nat.le_refl _), rfl, fun ys hy => by rw [I.tuple_inj hy hq]; exact hx⟩, ⟨⟨x', ?_⟩, hit'.at fun o q => (sb.2 it (Ne.symm hne)).trans q, hne⟩, fun b hb => ?_⟩
    · have e1 : ((i + 1 : Nat) : Int) = (i : Int) + 1 := by omega
      rw [e1]; exact he'
    · have hb' : b < s.heap.objs.size := by
        have e' : b = e ∨ b = it := by simpa using hb
        rcases e' with z | z
        · rw [z]; exact hel
        · rw [z]; exact hil
      rw [upd_ne (Nat.ne_of_lt hb')]
      exact (hf b hb).1
  done := by
    intro X hP hw hK hc i pins s σ H E I hf st hg
    subst hP hw hK
    obtain ⟨⟨old, he⟩, hit, hne⟩ := st
    obtain ⟨xs, hq, hx⟩ := hg
    obtain ⟨its, rv, p, hz⟩ := I.tuple hq
    obtain ⟨f0, f1, f2, f3, f4, f5⟩ := hf it (by simp)
    have hl := rv.length
    have hn : its.toArray.size = i := by simp; omega
    exact wpAny_pyNext_enum_endD (Draws.tuple (prog := X.prog) (w := X.w) (A := X.A.in1) (I.ok.hd hc) it a hai its.toArray) he (show s.heap.IsTupleIter it a its.toArray.size ∧ s.heap.IsTuple a its.toArray from ⟨by rw [hn]; exact hit, p⟩) fun h' eb => ⟨rfl, I.turned (t' := s.toks) (fun b o hb q => eb b o hb q) f0 f1 f3 f4 f5⟩
  self := fun A i s Q E st h => let ⟨⟨_, he⟩, _⟩ := st; wpAny_pyIter_enum he h
def iEnumT (K : PySem.W.Frag) (ta : TA) : TI := fun σ H R => ta σ H fun vs H1 => ∃ a xs, vs = [.ref a] ∧ SqT K H1 a xs ∧ R (Itet K a) H1
theorem pi_enumT {X : Cx} {e : Expr} {ta : TA} {p pos tpos : Pos} {elts : List Expr} {kk : Nat} (hg : Gl X "enumerate") (hm : X.mg "enumerate" = none) (ha : PA X [e] ta) (hs : starEach [e] X.env = [(false, eval e X.env)] := by rfl) :
    PI X (.Tuple elts kk tpos) (.Call (.Name "enumerate" p) [e] [] pos) (iEnumT X.K ta) := by
  refine ⟨fun pins s σ H R I h => ?_⟩
  refine Call_ (ld_blt I hg hm boot_enumerate (PyProof.Rows.callWith_type1 (thn (ha.run pos pins s σ H _ I h) fun us s1 ⟨vs, H1, I1, r1, q1⟩ => ?_) hs rfl))
  obtain ⟨a, xs, ex, hq, q⟩ := q1
  subst ex
  cases r1 with
  | cons r rr =>
    cases rr
    cases r
    obtain ⟨its, rv, p', hz⟩ := I1.tuple hq
    have hal : a < s1.heap.objs.size := by obtain ⟨_, e, _⟩ := p'; exact Heap.lt_size e
    refine LtR.enum1_begins (begins_tuple a its.toArray) (show s1.heap.IsTuple a its.toArray from p') fun h' he hit hsz hk => wpAny_pyIter_enum he ?_
    have I2 : Inv X pins σ H1 { s1 with heap := h' } := I1.kept (t' := s1.toks) hk
    refine ⟨s1.heap.objs.size + 1, [s1.heap.objs.size + 1, s1.heap.objs.size], _, _, H1, rfl, I2, turn_enumT a (s1.heap.objs.size + 1) s1.heap.objs.size (Nat.ne_of_lt (Nat.lt_succ_of_lt hal)) (Nat.ne_of_lt hal), ⟨⟨.none, he⟩, ⟨_, hit, rfl, rfl⟩, Nat.succ_ne_self _⟩, fun b hb => ?_, q⟩
    have e' : b = s1.heap.objs.size + 1 ∨ b = s1.heap.objs.size := by simpa using hb
    have hle : s1.heap.objs.size ≤ b := by
      rcases e' with z | z
      · rw [z]; exact Nat.le_add_right _ _
      · rw [z]; exact Nat.le_refl _
    exact I1.fpOk hle (I1.hok.fresh hle)
end L2

set_option Elab.async false
set_option linter.all false
set_option maxRecDepth 100000
set_option maxHeartbeats 4000000
/-! sorted of a dict whose keys are tuples of ints; sorted of a tuple of ints; tuple.index of ints; {tuple: v} -/
namespace L2
open PySem PySem.Spec PyProof.Rows
section
variable {X : Cx}
/-- t.index(i), the first place -/
theorem mt_tup_indexI : MtR X "tuple.index" (fun x xs H Q => ∃ p, ∃ ys : List Int, ∃ z j, x = .ref p ∧ xs = [.int z] ∧ SqT X.K H p (ys.map V.int) ∧ ys[j]? = some z ∧ (∀ m, m < j → ys[m]? ≠ some z) ∧ Q (.int (j : Nat)) H) := by
  intro pins s σ H x xs v us Q I rx rs h
  obtain ⟨p, ys, z, j, rfl, rfl, hq, hy, hno, q⟩ := h
  cases rx
  obtain ⟨u, rfl, t, rfl⟩ := vals1 rs
  obtain ⟨its, r, pl, hz⟩ := I.tuple hq
  obtain ⟨⟨cls, dd, dt, sl⟩, ho, hc, n, hd⟩ := pl
  simp only at hc hd
  subst hc
  subst hd
  have hl : its.toArray.size = ys.length := by rw [List.size_toArray, ← r.length, List.length_map]
  have hj : j < its.toArray.size := by rw [hl]; exact (List.getElem?_eq_some_iff.mp hy).1
  have at' : ∀ (m : Nat) (hm : m < its.toArray.size), ∃ y t', ys[m]? = some y ∧ its.toArray[m] = Value.int y t' := fun m hm => by
    have hm' : m < ys.length := by rw [← hl]; exact hm
    obtain ⟨w, hw, t', hw'⟩ := r.get (i := m) (x := .int ys[m]) (by simp [hm'])
    refine ⟨ys[m], t', List.getElem?_eq_getElem hm', ?_⟩
    have e := (List.getElem?_eq_some_iff.mp hw).2
    rw [← hw', ← e]
    simp
  have flat : (ys.map V.int).all flatV = true := by
    rw [List.all_map]
    exact List.all_eq_true.mpr fun _ _ => rfl
  refine call_meets PySem.F.slot_tuple_index ⟨_, ho, rfl⟩ PySem.F.entry_tuple_index (PySem.F.args_tuple_index_2 _ _) (TI.tuple_indexAt p its.toArray n dd sl (.int z t) (eqU (.int z)) j hj ?_ ?_)
    ⟨ho, fun w hw => mem_eqAt (x := .int z) ⟨t, rfl⟩ rfl r flat w (by simpa using hw), ⟨.int (j : Nat), H, I.tok _, ⟨_, rfl⟩, q⟩⟩
  · obtain ⟨y, t', h1, h2⟩ := at' j hj
    rw [hy] at h1
    cases h1
    rw [h2]
    show (z == z) = true
    exact beq_self_eq_true z
  · intro m hm hmj
    obtain ⟨y, t', h1, h2⟩ := at' m hm
    rw [h2]
    show (y == z) = false
    exact beq_eq_false_iff_ne.mpr fun e => hno m hmj (e ▸ h1)
/-- sorted(d), d a dict with fewer than 64 keys, all tuples of dd ints in [0, B) -/
def rSortDT (d : Nat) (B : Int) : List V → Hp → VK → Prop := fun vs H Q => ∃ (a : Addr) (kvs : List (List Key × V)) (ks : List (List Int)), vs = [V.ref a] ∧ Rd H a (.dT kvs) ∧ kvs.map (·.1) = ks.map (fun k => k.map Sum.inl) ∧ ks.length < 64 ∧ (∀ k ∈ ks, k.length = d ∧ TS.Bd B k) ∧
  ∀ (bs : List Addr) (ks' : List (List Int)) (p : Addr), ks'.Perm ks → ks'.Pairwise (fun x y => TS.code B x ≤ TS.code B y) → Paired (fun (b : Addr) k => H b = some (.tup (k.map V.int))) bs ks' → H p = none → Q (.ref p) (upd H p (.lst (bs.map V.ref)))
theorem kV_ints (k : List Int) : (k.map (Sum.inl : Int → Key)).map kV = k.map V.int := by
  rw [List.map_map]
  rfl
def refA : Value → Addr
  | .ref a => a
  | _ => 0
theorem keys_perm {H : Hp} : ∀ {kvs : List (List Key × V)} {xs : List (List Key × Addr × Value)} {ks : List (List Int)}, KT H kvs xs → kvs.map (·.1) = ks.map (fun k => k.map Sum.inl) →
    Paired (fun (u : Value) (k : List Int) => ∃ b, u = .ref b ∧ H b = some (.tup (k.map V.int))) (xs.map fun x => Value.ref x.2.1) ks
  | _, _, [], .nil, _ => .nil
  | _, _, [], .cons _ _, e => by simp at e
  | _, _, _ :: _, .nil, e => by simp at e
  | p :: ps, q :: qs, k :: ks, .cons h t, e => by
    rw [List.map_cons, List.map_cons] at e
    injection e with e1 e2
    refine .cons ⟨q.2.1, rfl, ?_⟩ (keys_perm t e2)
    have z := h.2.1
    rw [e1, kV_ints] at z
    exact z
theorem paired_map_eq {β γ : Type} {F : β → γ → Prop} {f : β → γ} (h : ∀ u k, F u k → f u = k) : ∀ {us : List β} {ks : List γ}, Paired F us ks → us.map f = ks
  | _, _, .nil => rfl
  | _, _, .cons r t => by rw [List.map_cons, h _ _ r, paired_map_eq h t]
theorem paired_mem_left {β γ : Type} {F : β → γ → Prop} : ∀ {us : List β} {ks : List γ}, Paired F us ks → ∀ u ∈ us, ∃ k ∈ ks, F u k
  | _, _, .nil, u, h => by cases h
  | _, _, .cons r t, u, h => by
    rcases List.mem_cons.mp h with e | h
    · subst e
      exact ⟨_, List.mem_cons_self, r⟩
    · obtain ⟨k, hk, f⟩ := paired_mem_left t u h
      exact ⟨k, List.mem_cons_of_mem _ hk, f⟩
theorem paired_of_map {β γ δ : Type} {F : γ → δ → Prop} {f : β → γ} {g : β → δ} : ∀ {us : List β}, (∀ u ∈ us, F (f u) (g u)) → Paired F (us.map f) (us.map g)
  | [], _ => .nil
  | u :: us, h => .cons (h u List.mem_cons_self) (paired_of_map fun v hv => h v (List.mem_cons_of_mem _ hv))
theorem cr_sortDT {d : Nat} {B : Int} (hc : X.calm = true) (hd1 : 1 ≤ d) : CallR X (.builtin "sorted") (rSortDT d B) := by
  intro pins s σ H xs us Q I r q
  obtain ⟨a, kvs, ks, rfl, hd, hks, h64, hB, q⟩ := q
  obtain ⟨u, eu, rx⟩ := vals1 r
  subst eu
  cases rx
  obtain ⟨z, lo, kx, pr, o, es, ep, ho, hx, hdt, he, hn⟩ := (show ObjOk X.prog X.w H s.heap a (.dT kvs) from hd.ok I.hok)
  have l1 : es.size = kx.length := size_of_entries he
  have l2 : kvs.length = kx.length := Paired.length pr
  refine Calls.call_function_entry PyProof.Rows.kind_sorted PyProof.Rows.plain_sorted PyProof.Rows.entry_sorted (PyProof.Rows.args_sorted1 _) ?_
  unfold Builtin.«sorted»
  refine wpAny_bind (m := checkCount "sorted" 1 1 _) (wpAny_pure ?_)
  refine wpAny_bind (PySem.W.kdu_collect (A := X.A.in1) (kdl_raw lo hx hdt) (I.ok.hd hc) ho (by omega) fun h' tk acc hk hacc => ?_)
  have ea : acc.toList = kx.map fun x => Value.ref x.2.1 := by
    have hl : acc.toList.length = kx.length := by rw [Array.length_toList, hacc.1]; exact l1
    apply List.ext_getElem?
    intro j
    rw [List.getElem?_map]
    cases hj : acc.toList[j]? with
    | none =>
      have h1 := List.getElem?_eq_none_iff.mp hj
      rw [List.getElem?_eq_none (by omega)]
      all_goals rfl
    | some v =>
      obtain ⟨en, hen, hv⟩ := hacc.2 j v (by rw [← Array.getElem?_toList]; exact hj)
      have qe := entry_at he j
      rw [hen] at qe
      cases hb : kx[j]? with
      | none =>
        rw [hb] at qe
        exact nomatch (show some en = none from qe)
      | some b =>
        rw [hb] at qe
        have e2 : en = entryOfKey (tupleKind (mixKind X.prog X.w)) b := Option.some.inj qe
        rw [hv, e2]
        all_goals rfl
  have I1 : Inv X pins σ H { s with heap := h', toks := tk } := I.kept hk
  have prk := keys_perm pr hks
  rw [← ea] at prk
  generalize acc.toList = vs at prk
  have hvl : vs.length = ks.length := Paired.length prk
  have tup : ∀ b (k : List Int), H b = some (.tup (k.map V.int)) → TS.TupInts h' (.ref b) k := fun b k e => tupI_raw I1 (SqT.of e)
  have hin : ∀ v ∈ vs, ∃ b k, k ∈ ks ∧ v = .ref b ∧ H b = some (.tup (k.map V.int)) := fun v hv => by
    obtain ⟨k, hk', b, e1, e2⟩ := paired_mem_left prk v hv
    exact ⟨b, k, hk', e1, e2⟩
  have hmap : vs.map (TS.intsOf h') = ks := paired_map_eq (fun u k h => by
    obtain ⟨b, e1, e2⟩ := h
    subst e1
    exact (tup b k e2).ints) prk
  refine wpAny_bind (wpAny_newList ?_ (by rw [hvl, sizeLine_eq]; omega))
  have hoL : (h'.push (seqObj "list" vs.toArray 0)).get? h'.objs.size = some (seqObj "list" vs.toArray 0) := Heap.get?_push_size _ rfl
  show wpAny _ _ _ _ _ { s with heap := h'.push (seqObj "list" vs.toArray 0), toks := tk }
  have keep : ∀ b u, h'.get? b = some u → (h'.push (seqObj "list" vs.toArray 0)).get? b = some u := fun b u e => Heap.get?_push_of_some _ e
  have I2 : Inv X pins σ H { s with heap := h'.push (seqObj "list" vs.toArray 0), toks := tk } := I1.kept (t' := tk) keep
  have tup2 : ∀ b (k : List Int), H b = some (.tup (k.map V.int)) → TS.TupInts (h'.push (seqObj "list" vs.toArray 0)) (.ref b) k := fun b k e => tupI_raw I2 (SqT.of e)
  have x : TS.TupsOk (h'.push (seqObj "list" vs.toArray 0)) d B vs := fun v hv => by
    obtain ⟨b, k, hk', e1, e2⟩ := hin v hv
    subst e1
    exact ⟨k, tup2 b k e2, (hB k hk').1, (hB k hk').2⟩
  refine wpAny_bind (wpAny_holding (TS.call_sort_tups (s := { s with heap := h'.push (seqObj "list" vs.toArray 0), toks := tk }) hoL (by rw [hvl]; exact h64) hd1 x fun out a1 a2 => ?_))
  obtain ⟨c, hcc⟩ := PyProof.Rows.sortedHeap_at (vs := vs) (out := out) hoL
  have hin' : ∀ v ∈ out.toList, ∃ b k, k ∈ ks ∧ v = .ref b ∧ H b = some (.tup (k.map V.int)) := fun v hv => hin v (a1.mem_iff.mp hv)
  have intz : ∀ v ∈ out.toList, TS.intsOf (h'.push (seqObj "list" vs.toArray 0)) v = TS.intsOf h' v := fun v hv => by
    obtain ⟨b, k, _, e1, e2⟩ := hin' v hv
    subst e1
    rw [(tup2 b k e2).ints, (tup b k e2).ints]
  have hn' : H h'.objs.size = none := I1.hok.fresh (Nat.le_refl _)
  have vr : Vals ((out.toList.map refA).map V.ref) out.toList := by
    have e : out.toList = (out.toList.map refA).map Value.ref := by
      rw [List.map_map]
      refine (List.map_id' out.toList).symm.trans (List.map_congr_left fun v hv => ?_)
      obtain ⟨b, k, _, e1, e2⟩ := hin' v hv
      subst e1
      rfl
    have z := vals_refs (out.toList.map refA)
    rw [← e] at z
    exact z
  have hlen : ((out.toList.map refA).map V.ref).length ≤ sizeLine := by
    rw [List.length_map, List.length_map, a1.length_eq, hvl, sizeLine_eq]
    omega
  refine wpAny_pure ⟨_, rfl, .ref h'.objs.size, upd H h'.objs.size (.lst ((out.toList.map refA).map V.ref)), I1.laid (t' := tk) (fun b u e => ?_) (Nat.le_refl _) ⟨hlen, out.toList, c, vr, hcc⟩, rfl, ?_⟩
  · have hlt : b < h'.objs.size := Heap.lt_size e
    show (PyProof.Rows.sortedHeap (h'.push (seqObj "list" vs.toArray 0)) h'.objs.size vs out).get? b = some u
    rw [PyProof.Rows.sortedHeap_old (Nat.ne_of_lt hlt) (by rw [PyProof.Rows.size_push']; exact Nat.lt_succ_of_lt hlt)]
    exact Heap.get?_push_of_some _ e
  · refine q (out.toList.map refA) (out.toList.map (TS.intsOf h')) h'.objs.size ?_ ?_ ?_ hn'
    · have z := a1.map (TS.intsOf h')
      rw [hmap] at z
      exact z
    · refine List.pairwise_map.mpr (List.Pairwise.imp_of_mem (fun {u v} hu hv h => ?_) a2)
      rw [← intz u hu, ← intz v hv]
      exact h
    · refine paired_of_map fun v hv => ?_
      obtain ⟨b, k, _, e1, e2⟩ := hin' v hv
      subst e1
      rw [(tup b k e2).ints]
      exact e2
/-- sorted(t), t a tuple of fewer than 64 ints -/
def rSortIT (K : PySem.W.Frag) : List V → Hp → VK → Prop := fun vs H Q => ∃ (a : Addr) (ns : List Int), vs = [V.ref a] ∧ SqT K H a (ns.map V.int) ∧ ns.length < 64 ∧
  ∀ (ns' : List Int) (p : Addr), ns'.Perm ns → ns'.Pairwise (· ≤ ·) → H p = none → Q (.ref p) (upd H p (.lst (ns'.map V.int)))
end
section
variable {prog : Program} {w : World} {A : Around} {E : Value → Shared → Prop} {s : Shared}
theorem collect_tup {l : Addr} {vs : List Value} {Q : List Value → Shared → Prop} (hl : s.heap.IsTuple l vs.toArray)
    (h : Q vs { s with heap := (s.heap.push (seqObj "list" #[] 0)).update s.heap.objs.size (Obj.mapSeq (· ++ vs.toArray)) }) (hsz : vs.length ≤ sizeLine) :
    wpAny (model prog w) A (collect (.ref l)) Q E s := by
  obtain ⟨o, ho, hc, n, hd⟩ := id hl
  unfold collect
  refine wpAny_bind (wpAny_runValue (codeAny_builtin entry_proto_collect' ?_))
  show wpAny _ _ (do again (.builtin "list.__iadd__" ⟨[← newList [], .ref l], []⟩)) _ _ s
  refine wpAny_bind (wpAny_newList (wpAny_pure ⟨Code.quiet_builtin _ (by decide +kernel), codeAny_builtin entry_list_iadd' ?_⟩))
  show wpAny _ _ (Builtin.List.listExtendWith (.ref s.heap.objs.size) (.ref l) (.ref s.heap.objs.size)) _ _ { s with heap := s.heap.push (seqObj "list" #[] 0) }
  unfold Builtin.List.listExtendWith
  have ho' : (s.heap.push (seqObj "list" #[] 0)).get? l = some o := Heap.get?_push_of_some _ ho
  refine wpAny_bind (wpAny_typeOf (T := "tuple") ⟨o, ho', hc⟩ ?_)
  have ht : (Value.type "tuple" == Value.type "tuple") = true := by rfl
  rw [if_pos (by rw [ht]; simp)]
  refine wpAny_bind (listItems_at ho' hd ?_)
  refine wpAny_bind (listItems_at (xs := #[]) (n := 0) (Heap.get?_push_size _ rfl) rfl ?_)
  rw [if_neg (by simp)]
  refine wpAny_bind (listUpdate_at (xs := #[]) (n := 0) (Heap.get?_push_size _ rfl) rfl ?_ (Nat.zero_le _) (by show (#[] ++ vs.toArray).size ≤ sizeLine + 1; simp only [Array.size_append, List.size_toArray, List.length_nil]; omega))
  refine wpAny_pure ?_
  show wpAny (model prog w) A (do
      let o ← load s.heap.objs.size
      match o.data with
      | .seq xs _ => pure xs.toList
      | _ => unsupported "internal:collect") Q E { s with heap := (s.heap.push (seqObj "list" #[] 0)).update s.heap.objs.size (Obj.mapSeq (· ++ vs.toArray)) }
  refine wpAny_bind (wpAny_load (get?_update_seq (Heap.get?_push_size _ rfl) _) ?_)
  show wpAny _ _ (pure ((#[] : Array Value) ++ vs.toArray).toList) Q E _
  rw [show ((#[] : Array Value) ++ vs.toArray).toList = vs by simp]
  exact wpAny_pure h
theorem sorted_tupI {l : Addr} {vs : List Value} {ns : List Int} {Q : Value → Shared → Prop} (hl : s.heap.IsTuple l vs.toArray) (hI : IntsAre vs ns) (h64 : vs.length < 64)
    (h : ∀ (out : Array Value) (ns' : List Int), IntsAre out.toList ns' → ns'.Perm ns → ns'.Pairwise (· ≤ ·) → Q (.ref (s.heap.objs.size + 1)) { s with heap := sortedAll s.heap vs out }) :
    wpAny (model prog w) A (call (.builtin "sorted") [.ref l]) Q E s := by
  refine Calls.call_function_entry kind_sorted plain_sorted entry_sorted (args_sorted1 _) ?_
  unfold Builtin.«sorted»
  refine wpAny_bind (m := checkCount "sorted" 1 1 _) (wpAny_pure ?_)
  refine wpAny_bind (collect_tup hl ?_ (by rw [sizeLine_eq]; omega))
  refine wpAny_bind (wpAny_newList ?_ (by rw [sizeLine_eq]; omega))
  have hsz : ((s.heap.push (seqObj "list" #[] 0)).update s.heap.objs.size (Obj.mapSeq (· ++ vs.toArray))).objs.size = s.heap.objs.size + 1 := by
    rw [Heap.size_update, size_push']
  have hoL : (((s.heap.push (seqObj "list" #[] 0)).update s.heap.objs.size (Obj.mapSeq (· ++ vs.toArray))).push (seqObj "list" vs.toArray 0)).get? (s.heap.objs.size + 1) = some (seqObj "list" vs.toArray 0) := by
    rw [← hsz]; exact Heap.get?_push_size _ rfl
  show wpAny _ _ _ _ _ { s with heap := ((s.heap.push (seqObj "list" #[] 0)).update s.heap.objs.size (Obj.mapSeq (· ++ vs.toArray))).push (seqObj "list" vs.toArray 0) }
  rw [hsz]
  refine wpAny_bind (wpAny_holding (wpAny_call_entry slot_list_sort ⟨_, hoL, rfl⟩ entry_list_sort (list_sort_tree hoL hI h64 fun out ns' a1 a2 a3 => ⟨_, rfl, ?_⟩) (args_list_sort _)))
  exact wpAny_pure ⟨_, rfl, h out ns' a1 a2 a3⟩
end
section
variable {X : Cx}
theorem cr_sortIT : CallR X (.builtin "sorted") (rSortIT X.K) := by
  intro pins s σ H vs us Q I r h
  obtain ⟨a, ns, rfl, hs, h64, q⟩ := h
  obtain ⟨its, rv, hl, _⟩ := I.tuple hs
  rw [Vals.ref1 r]
  have hi := rv.ints
  refine sorted_tupI hl hi (by rw [hi.length]; exact h64) fun out ns' h1 h2 h3 => ?_
  obtain ⟨ep, he'⟩ := PyProof.Rows.sortedAll_at s.heap its out
  have hlen : (ns'.map V.int).length ≤ sizeLine := by rw [List.length_map, h2.length_eq]; exact small64 h64
  exact ⟨.ref _, upd H (s.heap.objs.size + 1) (.lst (ns'.map V.int)), I.laid (t' := s.toks) (fun _ _ => PyProof.Rows.sortedAll_old) (Nat.le_succ _) ⟨hlen, out.toList, ep, vals_of_ints h1, he'⟩, rfl, q ns' _ h2 h3 (I.hok.fresh (Nat.le_succ _))⟩
/-- {k: v}, k a tuple of ints and texts -/
def tDispT (tk tv : TE) : TE := fun σ H Q => ∀ p, H p = none → tk σ (upd H p (.dT [])) fun x H1 => tv σ H1 fun y H2 => ∃ (b : Addr) (k : List Key), x = .ref b ∧ H2 p = some (.dT []) ∧ H2 b = some (.tup (k.map kV)) ∧ Q (.ref p) (upd H2 p (.dT [(k, y)]))
theorem pe_dispT {k v : Expr} {pos : Pos} {tk tv : TE} (hu : X.A.units + 1 < cLine) (hk : PE X k tk) (hv : PE X v tv) : PE X (.Dict [some k] [v] pos) (tDispT tk tv) := by
  refine ⟨fun pins s σ H Q I q => ?_⟩
  have hn := I.hok.fresh (Nat.le_refl s.heap.objs.size)
  have I1 := I.laid (a := s.heap.objs.size) (o := .dT []) (h' := s.heap.push { cls := .type "dict", data := .dict #[] }) (t' := s.toks) (fun _ _ q => Heap.get?_push_of_some _ q) (Nat.le_refl _) (dt_empty s.heap I.big)
  have hroom : (tupleKind (mixKind X.prog X.w)).room X.A := (show X.A.units < cLine by omega)
  rw [arm_eval_Dict, zip_pairTrees [some k] [v] X.env pos rfl rfl, dictDisplay_pairs (pairTrees [some k] [v] X.env pos) (by intro z; cases z) (by show 1 < 17; omega)]
  refine wpAny_bind (wpAny_standAt (wpAny_bind (wpAny_subDictH (knd := tupleKind (mixKind X.prog X.w)) (Q := fun d s' => wpAny (model X.prog X.w) X.A (pure (Value.ref d)) (EP X pins σ Q) X.xe s') hroom (by show 1 ≤ 15; omega) ?_)))
  refine pairTrees_cons_walk (thn (hk.run pins _ σ _ _ I1 (q _ hn)) fun u s1 ⟨x, H1, I2, rx, q1⟩ => thn (hv.run pins s1 σ H1 _ I2 q1) fun w2 s2 ⟨y, H2, I3, ry, q2⟩ => pairTrees_nil_walk ?_)
  obtain ⟨b, ks, rfl, hp, hb, qq⟩ := q2
  cases rx
  obtain ⟨z, hd, xs0, rel, dd⟩ := dt_of I3.hok hp
  cases rel
  refine ⟨[(ks, b, w2)], ⟨rfl, rfl, key_of I3.hok hb, trivial⟩, dd, fun h' tk' dd' hs => wpAny_pure ⟨.ref s.heap.objs.size, _, ?_, rfl, qq⟩⟩
  obtain ⟨o, es, ep, ho, h2, h3, h4, _, h5⟩ := dd'
  refine d_write I3 (by rw [hp]; exact True.intro) hs ⟨o, ho⟩ ⟨by show 1 ≤ sizeLine; decide, hd, [(ks, b, w2)], .cons ⟨rfl, ?_, ry⟩ .nil, o, es, ep, ho, h2, h3, h4, h5⟩
  rw [upd_ne (ne_of hb hp (fun z => nomatch z))]
  exact hb
end
end L2

set_option Elab.async false
set_option linter.all false
set_option maxRecDepth 100000
set_option maxHeartbeats 4000000
/-! the common ground: turns and locks in the heap, defs by name -/
namespace Lt
open PySem PySem.Spec PyProof.Rows L2
/-! ### heaps -/
theorem same_new {H : Hp} {p : Addr} {o : HO} (h : H p = none) : Same H (upd H p o) := fun b x e => by
  rw [upd_ne (ne_of_none e h)]
  exact e
/-- an object that H does not know may change -/
theorem same_mut {H H' : Hp} {p : Addr} {o : HO} (e : Same H H') (h : H p = none) : Same H (upd H' p o) := fun a u ha => by
  rw [upd_ne (ne_of_none ha h)]
  exact e a u ha
/-- the tuples stay -/
def Tm (H H' : Hp) : Prop := (∀ a xs, H a = some (.tup xs) → H' a = some (.tup xs)) ∧ ∀ a o xs, H a = some (.frz o (.tup xs)) → H' a = some (.frz o (.tup xs))
theorem Tm.refl (H : Hp) : Tm H H := ⟨fun _ _ h => h, fun _ _ _ h => h⟩
theorem Tm.trans {H H1 H2 : Hp} (a : Tm H H1) (b : Tm H1 H2) : Tm H H2 := ⟨fun c x h => b.1 c x (a.1 c x h), fun c o x h => b.2 c o x (a.2 c o x h)⟩
theorem Tm.of {H H' : Hp} (e : Same H H') : Tm H H' := ⟨fun a xs h => e a _ h, fun a o xs h => e a _ h⟩
/-- a tuple to be read: its object known or not -/
abbrev RT (H : Hp) (a : Addr) (xs : List V) : Prop := Rd H a (.tup xs)
theorem RT.tm {H H' : Hp} {a : Addr} {xs : List V} (h : RT H a xs) (e : Tm H H') : RT H' a xs := by
  rcases h with h | ⟨o, h⟩
  · exact .inl (e.1 _ _ h)
  · exact .inr ⟨o, e.2 _ _ _ h⟩
theorem RT.sm {H H' : Hp} {a : Addr} {xs : List V} (h : RT H a xs) (e : Same H H') : RT H' a xs := h.tm (.of e)
theorem RT.sq {K : PySem.W.Frag} {H : Hp} {a : Addr} {xs : List V} (h : RT H a xs) : SqT K H a xs := .inl h
/-- what is no tuple may change -/
theorem Tm.mut {H : Hp} {p : Addr} {o u : HO} (h : H p = some u) (hu : ∀ xs, u ≠ .tup xs) (hf : ∀ ob xs, u ≠ .frz ob (.tup xs)) : Tm H (upd H p o) :=
  ⟨fun a xs e => by rw [upd_ne (ne_of e h (fun z => hu xs z.symm))]; exact e, fun a ob xs e => by rw [upd_ne (ne_of e h (fun z => hf ob xs z.symm))]; exact e⟩
theorem Tm.lst {H : Hp} {p : Addr} {o : HO} {ys : List V} (h : H p = some (.lst ys)) : Tm H (upd H p o) := .mut h (fun _ z => nomatch z) fun _ _ z => nomatch z
theorem Tm.dT {H : Hp} {p : Addr} {o : HO} {ys : List (List Key × V)} (h : H p = some (.dT ys)) : Tm H (upd H p o) := .mut h (fun _ z => nomatch z) fun _ _ z => nomatch z
theorem Tm.new {H : Hp} {p : Addr} {o : HO} (h : H p = none) : Tm H (upd H p o) := .of (same_new h)

/-! ### turns: tuples of numbers -/
def nI (n : Nat) : V := .int (n : Int)
def nIs (t : List Nat) : List V := t.map nI
def TN (H : Hp) (v : V) (t : List Nat) : Prop := ∃ a, v = .ref a ∧ RT H a (nIs t)
/-- one that no dict refuses as a key -/
def TK (H : Hp) (v : V) (t : List Nat) : Prop := ∃ a, v = .ref a ∧ H a = some (.tup (nIs t))
theorem TK.tn {H : Hp} {v : V} {t : List Nat} (h : TK H v t) : TN H v t := let ⟨a, e, h⟩ := h; ⟨a, e, .inl h⟩
theorem TK.tm {H H' : Hp} {v : V} {t : List Nat} (e : Tm H H') (h : TK H v t) : TK H' v t := let ⟨a, ev, ha⟩ := h; ⟨a, ev, e.1 _ _ ha⟩
/-- a tuple of turns -/
def TT (H : Hp) (v : V) (ts : List (List Nat)) : Prop := ∃ a xs, v = .ref a ∧ H a = some (.tup xs) ∧ Paired (TN H) xs ts
/-- a list of turns at a -/
def LT (H : Hp) (a : Addr) (ts : List (List Nat)) : Prop := ∃ xs, H a = some (.lst xs) ∧ Paired (TN H) xs ts
theorem TN.tm {H H' : Hp} {v : V} {t : List Nat} (e : Tm H H') (h : TN H v t) : TN H' v t := let ⟨a, ev, ha⟩ := h; ⟨a, ev, ha.tm e⟩
theorem TNs.tm {H H' : Hp} (e : Tm H H') : ∀ {xs : List V} {ts : List (List Nat)}, Paired (TN H) xs ts → Paired (TN H') xs ts
  | _, _, .nil => .nil
  | _, _, .cons r t => .cons (r.tm e) (TNs.tm e t)
theorem TT.tm {H H' : Hp} {v : V} {t : List (List Nat)} (e : Tm H H') (h : TT H v t) : TT H' v t := let ⟨a, xs, ev, ha, p⟩ := h; ⟨a, xs, ev, e.1 _ _ ha, TNs.tm e p⟩
theorem LT.same {H H' : Hp} {v : Addr} {t : List (List Nat)} (e : Same H H') (h : LT H v t) : LT H' v t := let ⟨xs, ha, p⟩ := h; ⟨xs, e _ _ ha, TNs.tm (.of e) p⟩
theorem nIs_len (t : List Nat) : (nIs t).length = t.length := List.length_map ..
theorem nIs_get (t : List Nat) (i : Nat) : (nIs t)[i]? = (t[i]?).map nI := List.getElem?_map ..
theorem nIs_int (t : List Nat) : nIs t = (t.map Int.ofNat).map V.int := by
  unfold nIs
  rw [List.map_map]
  rfl
theorem nIs_key (t : List Nat) : nIs t = (t.map fun n : Nat => (Sum.inl (Int.ofNat n) : Key)).map kV := by
  unfold nIs
  rw [List.map_map]
  rfl
theorem Paired.getL {α β : Type} {F : α → β → Prop} : ∀ {xs : List α} {ys : List β} {i : Nat} {x : α}, Paired F xs ys → xs[i]? = some x → ∃ y, ys[i]? = some y ∧ F x y
  | _, _, _, _, .nil, e => by simp at e
  | _, _, 0, _, .cons r _, e => by simp at e; subst e; exact ⟨_, rfl, r⟩
  | _, _, i + 1, x, .cons _ t, e => by
    obtain ⟨u, h1, h2⟩ := Paired.getL (i := i) (x := x) t (by simpa using e)
    exact ⟨u, by simpa using h1, h2⟩
theorem Paired.getR {α β : Type} {F : α → β → Prop} : ∀ {xs : List α} {ys : List β} {i : Nat} {y : β}, Paired F xs ys → ys[i]? = some y → ∃ x, xs[i]? = some x ∧ F x y
  | _, _, _, _, .nil, e => by simp at e
  | _, _, 0, _, .cons r _, e => by simp at e; subst e; exact ⟨_, rfl, r⟩
  | _, _, i + 1, x, .cons _ t, e => by
    obtain ⟨u, h1, h2⟩ := Paired.getR (i := i) (y := x) t (by simpa using e)
    exact ⟨u, by simpa using h1, h2⟩
theorem Paired.app {α β : Type} {F : α → β → Prop} : ∀ {xs xs' : List α} {ys ys' : List β}, Paired F xs ys → Paired F xs' ys' → Paired F (xs ++ xs') (ys ++ ys')
  | _, _, _, _, .nil, h => h
  | _, _, _, _, .cons r t, h => .cons r (Paired.app t h)
theorem Paired.one {α β : Type} {F : α → β → Prop} {x : α} {y : β} (h : F x y) : Paired F [x] [y] := .cons h .nil
theorem Paired.tk {α β : Type} {F : α → β → Prop} : ∀ (n : Nat) {xs : List α} {ys : List β}, Paired F xs ys → Paired F (xs.take n) (ys.take n)
  | 0, _, _, _ => .nil
  | _ + 1, _, _, .nil => .nil
  | n + 1, _, _, .cons r t => .cons r (Paired.tk n t)
theorem Paired.dr {α β : Type} {F : α → β → Prop} : ∀ (n : Nat) {xs : List α} {ys : List β}, Paired F xs ys → Paired F (xs.drop n) (ys.drop n)
  | 0, _, _, h => h
  | _ + 1, _, _, .nil => .nil
  | n + 1, _, _, .cons r t => Paired.dr n t

/-! ### data for == and in -/
def dN (n : Nat) : PyData := .int (n : Int)
def dT (t : List Nat) : PyData := .tuple (t.map dN)
theorem dp_nats {K : PySem.W.Frag} {H : Hp} : ∀ t : List Nat, DpAll K H (nIs t) (t.map dN)
  | [] => .nil
  | n :: t => .cons (.int _) (dp_nats t)
theorem TN.dp {K : PySem.W.Frag} {H : Hp} {v : V} {t : List Nat} (h : TN H v t) : Dp K H v (dT t) := by
  obtain ⟨a, rfl, ha⟩ := h
  exact .tup ha.sq (dp_nats t)
theorem TNs.dp {K : PySem.W.Frag} {H : Hp} : ∀ {xs : List V} {ts : List (List Nat)}, Paired (TN H) xs ts → DpAll K H xs (ts.map dT)
  | _, _, .nil => .nil
  | _, _, .cons r t => .cons r.dp (TNs.dp t)
theorem TT.dp {K : PySem.W.Frag} {H : Hp} {v : V} {ts : List (List Nat)} (h : TT H v ts) : Dp K H v (.tuple (ts.map dT)) := by
  obtain ⟨a, xs, rfl, ha, p⟩ := h
  exact .tup (SqT.of ha) (TNs.dp p)
theorem LT.dp {K : PySem.W.Frag} {H : Hp} {a : Addr} {ts : List (List Nat)} (h : LT H a ts) : Dp K H (.ref a) (.list (ts.map dT)) := by
  obtain ⟨xs, ha, p⟩ := h
  exact .lst (SqL.of ha) (TNs.dp p)
theorem eqvAll_map {α : Type} [DecidableEq α] {f : α → PyData} (h : ∀ x y, PyData.eqv (f x) (f y) = decide (x = y)) : ∀ xs ys : List α, PyData.eqvAll (xs.map f) (ys.map f) = decide (xs = ys)
  | [], [] => by simp [PyData.eqvAll]
  | [], _ :: _ => by simp [PyData.eqvAll]
  | _ :: _, [] => by simp [PyData.eqvAll]
  | x :: xs, y :: ys => by
    rw [List.map_cons, List.map_cons, PyData.eqvAll, h, eqvAll_map h xs ys]
    by_cases e1 : x = y <;> by_cases e2 : xs = ys <;> simp [e1, e2]
theorem eqv_dN (a b : Nat) : PyData.eqv (dN a) (dN b) = decide (a = b) := by
  show ((a : Int) == (b : Int)) = decide (a = b)
  by_cases e : a = b
  · subst e; simp
  · rw [decide_eq_false e]
    exact beq_eq_false_iff_ne.mpr (by omega)
theorem eqv_dT (s t : List Nat) : PyData.eqv (dT s) (dT t) = decide (s = t) := by
  show PyData.eqvAll (s.map dN) (t.map dN) = _
  exact eqvAll_map eqv_dN s t
theorem eqv_dTT (s t : List (List Nat)) : PyData.eqv (.tuple (s.map dT)) (.tuple (t.map dT)) = decide (s = t) := by
  show PyData.eqvAll (s.map dT) (t.map dT) = _
  exact eqvAll_map eqv_dT s t
theorem depth_nats : ∀ t : List Nat, PyData.depthAll (t.map dN) = 0
  | [] => rfl
  | n :: t => by
    show max (PyData.depth (dN n)) (PyData.depthAll (t.map dN)) = 0
    rw [depth_nats t]
    rfl
theorem can_nats : ∀ t : List Nat, PyData.canLayAll0 (t.map dN) = true
  | [] => rfl
  | n :: t => by
    show (PyData.canLay0 (dN n) && PyData.canLayAll0 (t.map dN)) = true
    rw [can_nats t]
    rfl
theorem depth_turns : ∀ t : List (List Nat), PyData.depthAll (t.map dT) ≤ 1
  | [] => Nat.zero_le _
  | n :: t => by
    show max (PyData.depthAll (n.map dN) + 1) (PyData.depthAll (t.map dT)) ≤ 1
    rw [depth_nats n]
    have := depth_turns t
    omega
theorem can_turns : ∀ t : List (List Nat), PyData.canLayAll0 (t.map dT) = true
  | [] => rfl
  | n :: t => by
    show (PyData.canLayAll0 (n.map dN) && PyData.canLayAll0 (t.map dT)) = true
    rw [can_turns t, can_nats n]
    rfl
theorem sh_T (t : List Nat) : SeqAt.shaped (dT t) = true := by
  show (PyData.canLayAll0 (t.map dN) && decide (PyData.depthAll (t.map dN) + 1 ≤ 64)) = true
  rw [can_nats, depth_nats]
  rfl
theorem sh_TT (t : List (List Nat)) : SeqAt.shaped (.tuple (t.map dT)) = true := by
  show (PyData.canLayAll0 (t.map dT) && decide (PyData.depthAll (t.map dT) + 1 ≤ 64)) = true
  have := depth_turns t
  rw [can_turns, decide_eq_true (by omega)]
  rfl
theorem sh_LT (t : List (List Nat)) : SeqAt.shaped (.list (t.map dT)) = true := sh_TT t
theorem any_dT (ts : List (List Nat)) (t : List Nat) : ((ts.map dT).any fun z => PyData.eqv z (dT t)) = decide (t ∈ ts) := by
  induction ts with
  | nil => simp
  | cons a ts ih =>
    rw [List.map_cons, List.any_cons, ih, eqv_dT]
    by_cases e : a = t
    · subst e; simp
    · have e' : ¬ t = a := fun z => e z.symm
      simp [e, e']

/-! ### defs by name -/
section
variable (P : Program) (w : World) (K : PySem.W.Frag) (mg : Str → Option Value) (base : Heap)
/-- the def x of the module's top keeps the promise sp -/
def Has (CX : CXT) (k : Nat) (x : Str) (ps : List Str) (sp : Sp) : Prop :=
  ∃ (f : Addr) (fd : FuncData), mg x = some (.ref f) ∧ PySem.W.keepIn K (.ref f) = true ∧ Binds K fd ps [] ∧ FnOk P w K mg base CX k f fd ps sp
/-- the def x of the module's top is the statement st -/
def Top (x : Str) (st : Stmt) (ps : List Str) : Prop := ∃ (f : Addr) (fd : FuncData), mg x = some (.ref f) ∧ Fun K x x st f fd ∧ Binds K fd ps []
end
section
variable {P : Program} {w : World} {K : PySem.W.Frag} {mg : Str → Option Value} {base : Heap}
theorem Has.mono {CX : CXT} {j k : Nat} {x : Str} {ps : List Str} {sp : Sp} (h : Has P w K mg base CX j x ps sp) (l : j ≤ k) : Has P w K mg base CX k x ps sp :=
  let ⟨f, fd, a, b, c, d⟩ := h
  ⟨f, fd, a, b, c, d.mono l⟩
theorem Has.imp {CX : CXT} {k : Nat} {x : Str} {ps : List Str} {sp sp' : Sp} (h : Has P w K mg base CX k x ps sp) (i : ∀ vs H Q E, sp' vs H Q E → sp vs H Q E) : Has P w K mg base CX k x ps sp' :=
  let ⟨f, fd, a, b, c, d⟩ := h
  ⟨f, fd, a, b, c, d.imp i⟩
/-- THE RULE for a def that raises nothing -/
theorem Top.ok {x : Str} {st : Stmt} {N ps : List Str} {k : Nat} {sp : Sp} (T : Top K mg x st ps) (S : FnScope N ps (defScope st)) (len : ∀ vs H Q E, sp vs H Q E → vs.length = ps.length)
    (hbody : ∀ (f : Addr) (cdv : Value) (A : Around) (outer : List Env) (s : Shared) (H : Hp) (vs : List V) (Q : VK) (E : XK), Room k (A.deeper (envOfC x (defScope st) s.heap.objs.size f cdv)) → sp vs H Q E →
      ∃ t, PSs (cxOf CX0 P w K mg base N x (defScope st) f cdv A outer s H E).nox (defBody st) t ∧ t { nx := fun _ H' => Q .non H', rt := Q } (start N vs) H) : Has P w K mg base CX0 (k + 1) x ps sp := by
  obtain ⟨f, fd, hm, F, b⟩ := T
  exact ⟨f, fd, hm, F.kp, b, F.ok S len fun cdv A outer s H vs Q E hr h => hbody f cdv A outer s H vs Q E hr h⟩
end
/-- a call of such a def -/
theorem pe_has {X : Cx} {k : Nat} {x : Str} {ps : List Str} {sp : Sp} {e : Expr} {es : List Expr} {t : TA} {p pos : Pos} (h : Has X.prog X.w X.K X.mg X.base CX0 k x ps sp) (hr : Room k X.A) (hg : Gl X x) (ha : PA X (e :: es) t)
    (hdb : (x == ("__debug__" : Str)) = false := by decide) (he : starEach (e :: es) X.env = (false, eval e X.env) :: starEach es X.env := by rfl) (hpl : (backTo pos (starEach es X.env)).any (·.1) = false := by rfl) :
    PE X (.Call (.Name x p) (e :: es) [] pos) (tCall sp [] E0 t) := by
  obtain ⟨f, fd, hm, hk, hb, F⟩ := h
  exact pe_call F hr hg hm hk hb .nil pass0 ha hdb he hpl
end Lt

set_option Elab.async false
set_option linter.all false
set_option maxRecDepth 100000
set_option maxHeartbeats 4000000
/-! errors of the program's own -/
namespace L2
open PySem PySem.Spec PyProof.Rows
section
variable {X : Cx} {pos : Pos}
/-- X(), X an own exception class without own __init__ -/
theorem pmk_own0 {C : Addr} {bmB : List Value} {B newId initId : String} {x : Str} {p : Pos} (F : ExcBaseFacts B newId initId bmB) (q : PySem.W.excIn X.K C bmB newId = true) (gC : X.mg x = some (.ref C))
    (kC : PySem.W.keepIn X.K (.ref C) = true) (r : Raises X (.ref C)) (hg : Gl X x) (hdb : (x == ("__debug__" : Str)) = false := by decide) :
    PMk X (.Call (.Name x p) [] [] pos) (fun _ H Q => Q (.ref C) none H) := by
  intro pins s σ H Q I h
  refine wpAny_Call_Name_kw (ld_glob I hg gC ?_ hdb)
  refine PySem.W.callWith_K0 I.kIn kC ?_
  obtain ⟨bm, N, nm, qn, bs, hdct, sn, sub, ab, col, dd, k0, k1, k2, k3, k5, mN, hC, hN, hni, T⟩ := exc_obj I.kIn q
  exact wpAny_call_exc_subT F T hC hN hni (fun h' e hm => mk_of I hm r h (I.hok.gone hm.new)) (Nat.zero_le _)
end
end L2
namespace Lt
open PySem PySem.Spec PyProof.Rows L2
/-- __init__(self, f): self.f = f -/
def spInit (K : PySem.W.Frag) (fld : Str) : Sp := fun vs H Q _ => ∃ (a C : Addr) (v : V), vs = [.ref a, v] ∧ OexC K C ∧ PySem.W.findIn K (.ref C) fld = some none ∧ H a = some (exo a C none) ∧
  ∀ dx, H dx = none → dx ≠ a → Q .non (upd (upd H dx (exd dx [(fld, v)])) a (exo a C (some dx)))
section
variable (P : Program) (w : World) (K : PySem.W.Frag) (mg : Str → Option Value) (base : Heap)
/-- an own error class with the field fld, set by its __init__ -/
structure ErrI (x fld : Str) (C : Addr) : Prop where
  oex : OexC K C
  g : mg x = some (.ref C)
  no : PySem.W.findIn K (.ref C) fld = some none
  init : ∃ fI fd, PySem.W.findIn K (.ref C) "__init__" = some (some (.ref fI)) ∧ PySem.W.typeIn K (.ref fI) = some (.type "function") ∧ Binds K fd ["self", fld] [] ∧ FnOk P w K mg base CX0 1 fI fd ["self", fld] (spInit K fld)
  xf : XfC K C
  exm : PySem.W.exmOne K (.ref C) (.ref C) = some true
/-- one without -/
structure Err0 (x : Str) (C : Addr) : Prop where
  q : PySem.W.excIn K C [.type "ValueError", .type "Exception", .type "BaseException", .type "object"] "ValueError.__new__" = true
  g : mg x = some (.ref C)
  k : PySem.W.keepIn K (.ref C) = true
  exC : PySem.W.subIn K (.ref C) (.type "BaseException") = some true
  tyC : PySem.W.typeIn K (.ref C) = some (.type "type")
  exm : PySem.W.exmOne K (.ref C) (.ref C) = some true
end
/-- an error with its field lies behind H -/
def BadF (C : Addr) (fld : Str) (v : V) (H : Hp) (E : XK) : Prop := ∀ d H', Same H H' → H' d = some (.xd [(fld, v)]) → E (.ref C) (some d) H'
/-- an error without fields -/
def Bad0 (C : Addr) (H : Hp) (E : XK) : Prop := ∀ H', Same H H' → E (.ref C) none H'
theorem BadF.same {C : Addr} {fld : Str} {v : V} {H H' : Hp} {E : XK} (h : BadF C fld v H E) (s : Same H H') : BadF C fld v H' E := fun d H2 s2 => h d H2 (s.trans s2)
theorem Bad0.same {C : Addr} {H H' : Hp} {E : XK} (h : Bad0 C H E) (s : Same H H') : Bad0 C H' E := fun H2 s2 => h H2 (s.trans s2)
theorem mk_read {K : PySem.W.Frag} {C : Addr} {fld : Str} {v : V} {H1 : Hp} {Q : XK} (oex : OexC K C) (no : PySem.W.findIn K (.ref C) fld = some none) (h : BadF C fld v H1 Q) :
    [v].length ≤ 1000 ∧ ∀ a, H1 a = none → spInit K fld (.ref a :: ([v] ++ [])) (upd H1 a (exo a C none))
      (fun u H2 => u = .non ∧ ∃ (d : Addr) (fs : List (Str × V)), H2 a = some (exo a C (some d)) ∧ H2 d = some (exd d fs) ∧ H1 d = none ∧ Q (.ref C) (some d) (upd (del H2 a) d (.xd fs))) (fun _ _ _ => False) := by
  refine ⟨by show 1 ≤ 1000; omega, fun a ha => ⟨a, C, v, rfl, oex, no, upd_same, fun dx hdx hne => ⟨rfl, dx, [(fld, v)], upd_same, ?_, ?_, ?_⟩⟩⟩
  · rw [upd_ne hne, upd_same]
  · rw [upd_ne hne] at hdx
    exact hdx
  · rw [upd_ne hne] at hdx
    refine h dx _ (fun b o e => ?_) upd_same
    have h1 : b ≠ a := ne_of_none e ha
    have h2 : b ≠ dx := ne_of_none e hdx
    rw [upd_ne h2, del_ne h1, upd_ne h1, upd_ne h2, upd_ne h1]
    exact e
section
variable {X : Cx} {P : Program} {w : World} {K : PySem.W.Frag} {mg : Str → Option Value} {base : Heap}
/-- raise X(e) -/
theorem pmk_errI {x fld : Str} {C : Addr} {e : Expr} {ta : TA} {p pos : Pos} (T : ErrI X.prog X.w X.K X.mg X.base x fld C) (hr : Room 2 X.A) (hg : Gl X x) (ha : PA X [e] ta)
    (hdb : (x == ("__debug__" : Str)) = false := by decide) (he : starEach (e :: []) X.env = (false, eval e X.env) :: starEach [] X.env := by rfl) (hpl : (backTo pos (starEach [] X.env)).any (·.1) = false := by rfl) :
    PMk X (.Call (.Name x p) [e] [] pos) (tMkO C (spInit X.K fld) [] ta) := by
  obtain ⟨fI, fd, iC, tI, b, F⟩ := T.init
  exact pmk_oex T.oex iC tI F hr b .nil pass0 hg T.g ha hdb he hpl
theorem pmk_err0 {x : Str} {C : Addr} {p pos : Pos} (T : Err0 X.K X.mg x C) (hg : Gl X x) (hdb : (x == ("__debug__" : Str)) = false := by decide) :
    PMk X (.Call (.Name x p) [] [] pos) (fun _ H Q => Q (.ref C) none H) := pmk_own0 PySem.F.excBase_ValueError T.q T.g T.k (raises_own T.exC T.tyC) hg hdb
/-- THE RULE for a def that may raise -/
theorem Top.okX {x : Str} {st : Stmt} {N ps : List Str} {k : Nat} {sp : Sp} (T : Top K mg x st ps) (S : FnScope N ps (defScope st)) (len : ∀ vs H Q E, sp vs H Q E → vs.length = ps.length)
    (hbody : ∀ (f : Addr) (cdv : Value) (A : Around) (outer : List Env) (s : Shared) (H : Hp) (vs : List V) (Q : VK) (E : XK), Room k (A.deeper (envOfC x (defScope st) s.heap.objs.size f cdv)) → sp vs H Q E →
      ∃ t, PSs (cxOf (L2.CX P w) P w K mg base N x (defScope st) f cdv A outer s H E) (defBody st) t ∧ t { nx := fun _ H' => Q .non H', rt := Q } (start N vs) H) : Has P w K mg base (L2.CX P w) (k + 1) x ps sp := by
  obtain ⟨f, fd, hm, F, b⟩ := T
  exact ⟨f, fd, hm, F.kp, b, F.okX S len fun cdv A outer s H vs Q E hr h => hbody f cdv A outer s H vs Q E hr h⟩
/-- a call of a def that may raise, in a body that lets it out -/
theorem pe_hasX {k : Nat} {x : Str} {ps : List Str} {sp : Sp} {e : Expr} {es : List Expr} {t : TA} {p pos : Pos} {E : XK} (h : Has X.prog X.w X.K X.mg X.base (L2.CX X.prog X.w) k x ps sp) (hr : Room k X.A) (hg : Gl X x) (hx : Passes (L2.CX X.prog X.w) X E) (ha : PA X (e :: es) t)
    (hdb : (x == ("__debug__" : Str)) = false := by decide) (he : starEach (e :: es) X.env = (false, eval e X.env) :: starEach es X.env := by rfl) (hpl : (backTo pos (starEach es X.env)).any (·.1) = false := by rfl) :
    PE X (.Call (.Name x p) (e :: es) [] pos) (tCall sp [] E t) := by
  obtain ⟨f, fd, hm, hk, hb, F⟩ := h
  exact pe_call F hr hg hm hk hb .nil hx ha hdb he hpl
/-- the same where what is raised is caught around -/
theorem pe_hasS {k : Nat} {x : Str} {ps : List Str} {sp : Sp} {e : Expr} {es : List Expr} {t : TA} {p pos : Pos} {E : L2.St → XK} (h : Has X.prog X.w X.K X.mg X.base (L2.CX X.prog X.w) k x ps sp) (hr : Room k X.A) (hg : Gl X x) (hx : ∀ σ, PassesAt (L2.CX X.prog X.w) X σ (E σ)) (ha : PA X (e :: es) t)
    (hdb : (x == ("__debug__" : Str)) = false := by decide) (he : starEach (e :: es) X.env = (false, eval e X.env) :: starEach es X.env := by rfl) (hpl : (backTo pos (starEach es X.env)).any (·.1) = false := by rfl) :
    PE X (.Call (.Name x p) (e :: es) [] pos) (tCallS sp E t) := by
  obtain ⟨f, fd, hm, hk, hb, F⟩ := h
  exact pe_callS F hr hg hm hk hb hx ha hdb he hpl
end
/-- no error is wished for: the same def as one that raises nothing -/
theorem pe_hasL {X : Cx} {k : Nat} {x : Str} {ps : List Str} {sp : Sp} {e : Expr} {es : List Expr} {t : TA} {p pos : Pos} (h : Has X.prog X.w X.K X.mg X.base (L2.CX X.prog X.w) k x ps sp) (hr : Room k X.A) (hg : Gl X x) (ha : PA X (e :: es) t)
    (hdb : (x == ("__debug__" : Str)) = false := by decide) (he : starEach (e :: es) X.env = (false, eval e X.env) :: starEach es X.env := by rfl) (hpl : (backTo pos (starEach es X.env)).any (·.1) = false := by rfl) :
    PE X (.Call (.Name x p) (e :: es) [] pos) (tCall sp [] E0 t) := pe_hasX h hr hg passL ha hdb he hpl
end Lt

set_option linter.all false
set_option Elab.async false
/-! permutations as lists of numbers; the turns that given ones make -/
namespace Lt
def IsP (n : Nat) (t : List Nat) : Prop := t.Perm (List.range n)
instance (n : Nat) (t : List Nat) : Decidable (IsP n t) := inferInstanceAs (Decidable (t.Perm (List.range n)))
theorem IsP.len {n : Nat} {t : List Nat} (h : IsP n t) : t.length = n := by
  have e := List.Perm.length_eq h
  rw [List.length_range] at e
  exact e
theorem IsP.nd {n : Nat} {t : List Nat} (h : IsP n t) : t.Nodup := (List.Perm.nodup_iff h).mpr List.nodup_range
theorem IsP.mem {n : Nat} {t : List Nat} (h : IsP n t) {i : Nat} : i ∈ t ↔ i < n := (List.Perm.mem_iff h).trans List.mem_range
theorem IsP.lt {n : Nat} {t : List Nat} (h : IsP n t) : ∀ i ∈ t, i < n := fun i hi => h.mem.mp hi
theorem IsP.still (n : Nat) : IsP n (List.range n) := List.Perm.refl _
def prod (x y : List Nat) : List Nat := x.map fun i => y.getD i 0
theorem prod_len (x y : List Nat) : (prod x y).length = x.length := List.length_map ..
theorem map_getD_range : ∀ (y : List Nat), (List.range y.length).map (fun i => y.getD i 0) = y := fun y => by
  apply List.ext_getElem?
  intro i
  rw [List.getElem?_map]
  by_cases h : i < y.length
  · rw [List.getElem?_range h, Option.map_some, List.getD_eq_getElem?_getD, List.getElem?_eq_getElem h, Option.getD_some]
  · rw [List.getElem?_eq_none (by rw [List.length_range]; omega), List.getElem?_eq_none (by omega), Option.map_none]
theorem IsP.prod {n : Nat} {x y : List Nat} (hx : IsP n x) (hy : IsP n y) : IsP n (prod x y) := by
  have h : (Lt.prod x y).Perm ((List.range n).map fun i => y.getD i 0) := List.Perm.map _ hx
  have e := map_getD_range y
  rw [hy.len] at e
  rw [e] at h
  exact h.trans hy
theorem prod_still_l {n : Nat} {x : List Nat} (hx : x.length = n) : prod (List.range n) x = x := by
  subst hx
  exact map_getD_range x
theorem getD_range {n i : Nat} (h : i < n) : (List.range n).getD i 0 = i := by
  rw [List.getD_eq_getElem?_getD, List.getElem?_range h, Option.getD_some]
theorem prod_still_r {n : Nat} {x : List Nat} (hx : ∀ i ∈ x, i < n) : prod x (List.range n) = x := by
  unfold prod
  refine (List.map_congr_left (g := id) fun i hi => ?_).trans (List.map_id x)
  exact getD_range (hx i hi)
theorem prod_assoc {x y z : List Nat} (hx : ∀ i ∈ x, i < y.length) : prod (prod x y) z = prod x (prod y z) := by
  unfold prod
  rw [List.map_map]
  refine List.map_congr_left fun i hi => ?_
  show z.getD (y.getD i 0) 0 = (y.map fun i => z.getD i 0).getD i 0
  rw [List.getD_eq_getElem?_getD (l := y.map _), List.getElem?_map, List.getD_eq_getElem?_getD (l := y), List.getElem?_eq_getElem (hx i hi)]
  rfl
def inv (t : List Nat) : List Nat := (List.range t.length).map fun p => t.idxOf p
theorem inv_len (t : List Nat) : (inv t).length = t.length := by
  unfold inv
  rw [List.length_map, List.length_range]
theorem map_idxOf {t : List Nat} (h : t.Nodup) : t.map (fun p => t.idxOf p) = List.range t.length := by
  apply List.ext_getElem?
  intro i
  rw [List.getElem?_map]
  by_cases hi : i < t.length
  · rw [List.getElem?_range hi, List.getElem?_eq_getElem hi, Option.map_some, h.idxOf_getElem i hi]
  · rw [List.getElem?_eq_none (by omega), List.getElem?_eq_none (by rw [List.length_range]; omega), Option.map_none]
theorem IsP.inv {n : Nat} {t : List Nat} (h : IsP n t) : IsP n (inv t) := by
  have e := map_idxOf h.nd
  rw [h.len] at e
  have h2 : ((List.range n).map fun p => t.idxOf p).Perm (t.map fun p => t.idxOf p) := List.Perm.map _ (List.Perm.symm h)
  rw [e] at h2
  unfold IsP Lt.inv
  rw [h.len]
  exact h2
theorem prod_inv_r {n : Nat} {t : List Nat} (h : IsP n t) : prod t (inv t) = List.range n := by
  have e : prod t (inv t) = t.map fun p => t.idxOf p := by
    unfold prod
    refine List.map_congr_left fun p hp => ?_
    have hl : p < t.length := by rw [h.len]; exact h.lt p hp
    show ((List.range t.length).map fun p => t.idxOf p).getD p 0 = t.idxOf p
    rw [List.getD_eq_getElem?_getD, List.getElem?_map, List.getElem?_range hl]
    rfl
  rw [e, map_idxOf h.nd, h.len]
theorem prod_inv_l {n : Nat} {t : List Nat} (h : IsP n t) : prod (inv t) t = List.range n := by
  unfold prod inv
  rw [List.map_map, h.len]
  refine (List.map_congr_left (g := id) fun p hp => ?_).trans (List.map_id _)
  have hm : p ∈ t := h.mem.mpr (List.mem_range.mp hp)
  show t.getD (t.idxOf p) 0 = p
  rw [List.getD_eq_getElem?_getD, List.getElem?_eq_getElem (List.idxOf_lt_length_of_mem hm), Option.getD_some, List.getElem_idxOf]
theorem inv_unique {n : Nat} {a b : List Nat} (ha : IsP n a) (hb : IsP n b) (h : prod a b = List.range n) : b = inv a := by
  have h1 : prod (prod (inv a) a) b = prod (inv a) (prod a b) := prod_assoc fun i hi => by rw [ha.len]; exact ha.inv.lt i hi
  rw [prod_inv_l ha, h, prod_still_l hb.len, prod_still_r ha.inv.lt] at h1
  exact h1
theorem inv_prod {n : Nat} {a b : List Nat} (ha : IsP n a) (hb : IsP n b) : inv (prod a b) = prod (inv b) (inv a) := by
  refine (inv_unique (ha.prod hb) (hb.inv.prod ha.inv) ?_).symm
  rw [prod_assoc fun i hi => by rw [hb.len]; exact ha.lt i hi]
  rw [← prod_assoc (x := b) fun i hi => by rw [hb.inv.len]; exact hb.lt i hi, prod_inv_r hb, prod_still_l ha.inv.len, prod_inv_r ha]
/-! ### the turns that makers make, one behind another -/
abbrev W := List Nat × List Nat
/-- the words behind one turn with the makers gs, the first of which stands at place p -/
def grow (t w : List Nat) : List (List Nat) → Nat → List W → List W
  | [], _, L => L
  | g :: gs, p, L => grow t w gs (p + 1) (if prod t g ∈ L.map (·.1) then L else L ++ [(prod t g, w ++ [p])])
/-- the words when the first k have been gone through -/
def qq (gs : List (List Nat)) (n : Nat) : Nat → List W
  | 0 => [(List.range n, [])]
  | k + 1 => match (qq gs n k)[k]? with
    | none => qq gs n k
    | some (t, w) => grow t w gs 0 (qq gs n k)
theorem grow_pre (t w : List Nat) : ∀ (gs : List (List Nat)) (p : Nat) (L : List W), ∃ M, grow t w gs p L = L ++ M
  | [], _, L => ⟨[], (List.append_nil L).symm⟩
  | g :: gs, p, L => by
    show ∃ M, grow t w gs (p + 1) (if prod t g ∈ L.map (·.1) then L else L ++ [(prod t g, w ++ [p])]) = L ++ M
    split
    · exact grow_pre t w gs (p + 1) L
    · obtain ⟨M, e⟩ := grow_pre t w gs (p + 1) (L ++ [(prod t g, w ++ [p])])
      exact ⟨[(prod t g, w ++ [p])] ++ M, by rw [e, List.append_assoc]⟩
theorem qq_pre (gs : List (List Nat)) (n : Nat) : ∀ k, ∃ M, qq gs n (k + 1) = qq gs n k ++ M := fun k => by
  show ∃ M, (match (qq gs n k)[k]? with
    | none => qq gs n k
    | some (t, w) => grow t w gs 0 (qq gs n k)) = qq gs n k ++ M
  split
  · exact ⟨[], (List.append_nil _).symm⟩
  · exact grow_pre _ _ _ _ _
theorem qq_pre' (gs : List (List Nat)) (n k : Nat) : ∀ j, ∃ M, qq gs n (k + j) = qq gs n k ++ M
  | 0 => ⟨[], (List.append_nil _).symm⟩
  | j + 1 => by
    obtain ⟨M, e⟩ := qq_pre' gs n k j
    obtain ⟨M', e'⟩ := qq_pre gs n (k + j)
    exact ⟨M ++ M', by rw [← List.append_assoc, ← e, ← e']; rfl⟩
theorem qq_mono (gs : List (List Nat)) (n : Nat) {k m : Nat} (h : k ≤ m) : ∃ M, qq gs n m = qq gs n k ++ M := by
  obtain ⟨M, e⟩ := qq_pre' gs n k (m - k)
  rw [show k + (m - k) = m by omega] at e
  exact ⟨M, e⟩
/-- at the end nothing more comes -/
theorem qq_end (gs : List (List Nat)) (n : Nat) {k : Nat} (h : (qq gs n k).length ≤ k) : ∀ j, qq gs n (k + j) = qq gs n k
  | 0 => rfl
  | j + 1 => by
    have ih := qq_end gs n h j
    show (match (qq gs n (k + j))[k + j]? with
      | none => qq gs n (k + j)
      | some (t, w) => grow t w gs 0 (qq gs n (k + j))) = qq gs n k
    rw [ih, List.getElem?_eq_none (by omega)]
theorem qq_end' (gs : List (List Nat)) (n : Nat) {k m : Nat} (h : (qq gs n k).length ≤ k) (hm : k ≤ m) : qq gs n m = qq gs n k := by
  have e := qq_end gs n h (m - k)
  rw [show k + (m - k) = m by omega] at e
  exact e
theorem grow_keys (t w : List Nat) : ∀ (gs : List (List Nat)) (p : Nat) (L : List W) (x : List Nat), x ∈ (grow t w gs p L).map (·.1) ↔ x ∈ L.map (·.1) ∨ ∃ g ∈ gs, x = prod t g
  | [], _, L, x => by
    show x ∈ L.map (·.1) ↔ _
    simp
  | g :: gs, p, L, x => by
    show x ∈ (grow t w gs (p + 1) (if prod t g ∈ L.map (·.1) then L else L ++ [(prod t g, w ++ [p])])).map (·.1) ↔ _
    rw [grow_keys t w gs (p + 1)]
    split
    · rename_i h
      constructor
      · rintro (h1 | ⟨g', hg, e⟩)
        · exact .inl h1
        · exact .inr ⟨g', List.mem_cons_of_mem _ hg, e⟩
      · rintro (h1 | ⟨g', hg, e⟩)
        · exact .inl h1
        · rcases List.mem_cons.mp hg with z | hg
          · subst z
            rw [e]
            exact .inl h
          · exact .inr ⟨g', hg, e⟩
    · rw [List.map_append, List.mem_append]
      constructor
      · rintro ((h1 | h1) | ⟨g', hg, e⟩)
        · exact .inl h1
        · exact .inr ⟨g, List.mem_cons_self, List.mem_singleton.mp h1⟩
        · exact .inr ⟨g', List.mem_cons_of_mem _ hg, e⟩
      · rintro (h1 | ⟨g', hg, e⟩)
        · exact .inl (.inl h1)
        · rcases List.mem_cons.mp hg with z | hg
          · subst z
            exact .inl (.inr (List.mem_singleton.mpr e))
          · exact .inr ⟨g', hg, e⟩
theorem nodup_snoc {α : Type} {l : List α} {x : α} (h : l.Nodup) (hx : x ∉ l) : (l ++ [x]).Nodup :=
  List.nodup_append.mpr ⟨h, List.pairwise_singleton _ _, fun a ha b hb e => by
    rw [List.mem_singleton.mp hb] at e
    exact hx (e ▸ ha)⟩
theorem grow_nd (t w : List Nat) : ∀ (gs : List (List Nat)) (p : Nat) (L : List W), (L.map (·.1)).Nodup → ((grow t w gs p L).map (·.1)).Nodup
  | [], _, _, h => h
  | g :: gs, p, L, h => by
    refine grow_nd t w gs (p + 1) _ ?_
    split
    · exact h
    · rename_i hx
      rw [List.map_append]
      exact nodup_snoc h hx
theorem qq_nd (gs : List (List Nat)) (n : Nat) : ∀ k, ((qq gs n k).map (·.1)).Nodup
  | 0 => List.pairwise_singleton _ _
  | k + 1 => by
    show ((match (qq gs n k)[k]? with
      | none => qq gs n k
      | some (t, w) => grow t w gs 0 (qq gs n k)).map (fun x : W => x.1)).Nodup
    split
    · exact qq_nd gs n k
    · exact grow_nd _ _ _ _ _ (qq_nd gs n k)
/-- what the makers make -/
inductive Mk (gs : List (List Nat)) (n : Nat) : List Nat → Prop
  | still : Mk gs n (List.range n)
  | step {t g : List Nat} : Mk gs n t → g ∈ gs → Mk gs n (prod t g)
theorem Mk.isP {gs : List (List Nat)} {n : Nat} (hg : ∀ g ∈ gs, IsP n g) {t : List Nat} (h : Mk gs n t) : IsP n t := by
  induction h with
  | still => exact IsP.still n
  | step _ hm ih => exact ih.prod (hg _ hm)
theorem qq_mk (gs : List (List Nat)) (n : Nat) : ∀ k, ∀ t ∈ (qq gs n k).map (·.1), Mk gs n t
  | 0, t, h => by
    rw [List.mem_singleton.mp (show t ∈ [List.range n] from h)]
    exact .still
  | k + 1, t, h => by
    have ih := qq_mk gs n k
    have h' : t ∈ (match (qq gs n k)[k]? with
      | none => qq gs n k
      | some (t, w) => grow t w gs 0 (qq gs n k)).map (fun x : W => x.1) := h
    split at h'
    · exact ih t h'
    · rename_i t0 w0 e
      rcases (grow_keys t0 w0 gs 0 _ t).mp h' with z | ⟨g, hg, z⟩
      · exact ih t z
      · rw [z]
        exact .step (ih t0 (List.mem_map.mpr ⟨_, List.mem_of_getElem? e, rfl⟩)) hg
theorem qq_head (gs : List (List Nat)) (n k : Nat) : (List.range n, ([] : List Nat)) ∈ qq gs n k := by
  obtain ⟨M, e⟩ := qq_mono gs n (Nat.zero_le k)
  rw [e]
  exact List.mem_append.mpr (.inl (List.mem_singleton.mpr rfl))
/-- where the words are all gone through, they are all that is made -/
theorem qq_full {gs : List (List Nat)} {n k : Nat} (h : (qq gs n k).length ≤ k) : ∀ t, t ∈ (qq gs n k).map (·.1) ↔ Mk gs n t := fun t => by
  refine ⟨qq_mk gs n k t, fun m => ?_⟩
  induction m with
  | still => exact List.mem_map.mpr ⟨_, qq_head gs n k, rfl⟩
  | @step t g _ hg ih =>
    obtain ⟨⟨t', w'⟩, hm, e⟩ := List.mem_map.mp ih
    have e : t' = t := e
    subst e
    obtain ⟨i, hi, ei⟩ := List.getElem_of_mem hm
    -- position i was gone through at turn i
    have hk : i + 1 ≤ k := by omega
    obtain ⟨M, eM⟩ := qq_mono gs n hk
    obtain ⟨M0, eM0⟩ := qq_mono gs n (show i ≤ i + 1 by omega)
    by_cases hq : i < (qq gs n i).length
    · have g1 : (qq gs n i)[i]? = some (t', w') := by
        have z : (qq gs n k)[i]? = some (t', w') := by rw [List.getElem?_eq_getElem hi, ei]
        rw [eM, eM0, List.append_assoc, List.getElem?_append_left hq] at z
        exact z
      have g2 : qq gs n (i + 1) = grow t' w' gs 0 (qq gs n i) := by
        show (match (qq gs n i)[i]? with
          | none => qq gs n i
          | some (t, w) => grow t w gs 0 (qq gs n i)) = _
        rw [g1]
      rw [eM, List.map_append, List.mem_append]
      refine .inl ?_
      rw [g2]
      exact (grow_keys t' w' gs 0 _ _).mpr (.inr ⟨g, hg, rfl⟩)
    · have z := qq_end' gs n (show (qq gs n i).length ≤ i by omega) (show i ≤ k by omega)
      rw [z] at hi
      exact absurd hi hq
theorem nodup_len {α : Type} [DecidableEq α] : ∀ (l D : List α), l.Nodup → (∀ x ∈ l, x ∈ D) → l.length ≤ D.length
  | [], _, _, _ => Nat.zero_le _
  | x :: l, D, hn, hs => by
    obtain ⟨h1, h2⟩ := List.nodup_cons.mp hn
    have hx : x ∈ D := hs x List.mem_cons_self
    have ih := nodup_len l (D.erase x) h2 fun y hy => by
      have hne : y ≠ x := fun e => h1 (e ▸ hy)
      exact (List.mem_erase_of_ne hne).2 (hs y (List.mem_cons_of_mem _ hy))
    have e := List.length_erase_of_mem hx
    have hp : 0 < D.length := List.length_pos_of_mem hx
    show l.length + 1 ≤ D.length
    omega
/-- few turns are made: at most m -/
def Few (gs : List (List Nat)) (n m : Nat) : Prop := ∃ D : List (List Nat), D.length ≤ m ∧ ∀ t, Mk gs n t → t ∈ D
theorem Few.le {gs : List (List Nat)} {n m : Nat} (h : Few gs n m) {l : List (List Nat)} (hn : l.Nodup) (hl : ∀ t ∈ l, Mk gs n t) : l.length ≤ m := by
  obtain ⟨D, h1, h2⟩ := h
  exact Nat.le_trans (nodup_len l D hn fun t ht => h2 t (hl t ht)) h1
theorem Few.qq {gs : List (List Nat)} {n m : Nat} (h : Few gs n m) (k : Nat) : (qq gs n k).length ≤ m := by
  have z := h.le (qq_nd gs n k) (qq_mk gs n k)
  rw [List.length_map] at z
  exact z
end Lt

set_option linter.all false
set_option Elab.async false
/-! powers of a turn; the whole of the turns -/
namespace Lt
def pw (n : Nat) (t : List Nat) : Nat → List Nat
  | 0 => List.range n
  | k + 1 => prod (pw n t k) t
theorem pw_isP {n : Nat} {t : List Nat} (h : IsP n t) : ∀ k, IsP n (pw n t k)
  | 0 => IsP.still n
  | k + 1 => (pw_isP h k).prod h
theorem pw_one {n : Nat} {t : List Nat} (h : IsP n t) : pw n t 1 = t := prod_still_l h.len
theorem pw_add {n : Nat} {t : List Nat} (h : IsP n t) (i : Nat) : ∀ k, pw n t (i + k) = prod (pw n t i) (pw n t k)
  | 0 => (prod_still_r (pw_isP h i).lt).symm
  | k + 1 => by
    show prod (pw n t (i + k)) t = prod (pw n t i) (prod (pw n t k) t)
    rw [pw_add h i k]
    exact prod_assoc fun j hj => by rw [(pw_isP h k).len]; exact (pw_isP h i).lt j hj
theorem prod_cancel {n : Nat} {a b : List Nat} (ha : IsP n a) (hb : IsP n b) (h : prod a b = a) : b = List.range n := by
  have h1 : prod (prod (inv a) a) b = prod (inv a) (prod a b) := prod_assoc fun i hi => by rw [ha.len]; exact ha.inv.lt i hi
  rw [h, prod_inv_l ha, prod_still_l hb.len] at h1
  exact h1
theorem Mk.prod {gs : List (List Nat)} {n : Nat} (hg : ∀ g ∈ gs, IsP n g) {a b : List Nat} (ha : Mk gs n a) (hb : Mk gs n b) : Mk gs n (prod a b) := by
  induction hb with
  | still => rw [prod_still_r (ha.isP hg).lt]; exact ha
  | @step t g ht hm ih =>
    rw [← prod_assoc (x := a) fun i hi => by rw [(ht.isP hg).len]; exact (ha.isP hg).lt i hi]
    exact .step ih hm
theorem Mk.pw {gs : List (List Nat)} {n : Nat} (hg : ∀ g ∈ gs, IsP n g) {t : List Nat} (h : Mk gs n t) : ∀ k, Mk gs n (pw n t k)
  | 0 => .still
  | k + 1 => (Mk.pw hg h k).prod hg h
/-- two of many places hold the same -/
theorem dup_of {α : Type} [DecidableEq α] (f : Nat → α) : ∀ m, ¬ ((List.range m).map f).Nodup → ∃ i j, i < j ∧ j < m ∧ f i = f j
  | 0, h => absurd List.Pairwise.nil h
  | m + 1, h => by
    by_cases hn : ((List.range m).map f).Nodup
    · rw [List.range_succ, List.map_append] at h
      by_cases hx : f m ∈ (List.range m).map f
      · obtain ⟨i, hi, e⟩ := List.mem_map.mp hx
        exact ⟨i, m, List.mem_range.mp hi, Nat.lt_succ_self m, e⟩
      · exact absurd (nodup_snoc hn hx) h
    · obtain ⟨i, j, h1, h2, e⟩ := dup_of f m hn
      exact ⟨i, j, h1, by omega, e⟩
theorem pw_back {gs : List (List Nat)} {n m : Nat} (hg : ∀ g ∈ gs, IsP n g) (hf : Few gs n m) {t : List Nat} (h : Mk gs n t) : ∃ N, 1 ≤ N ∧ N ≤ m ∧ pw n t N = List.range n := by
  have hnd : ¬ ((List.range (m + 1)).map (Lt.pw n t)).Nodup := fun hnd => by
    have z := hf.le hnd fun x hx => by
      obtain ⟨k, _, e⟩ := List.mem_map.mp hx
      rw [← e]
      exact h.pw hg k
    rw [List.length_map, List.length_range] at z
    omega
  obtain ⟨i, j, hij, hj, e⟩ := dup_of _ _ hnd
  have ht := h.isP hg
  refine ⟨j - i, by omega, by omega, ?_⟩
  have z := pw_add ht i (j - i)
  rw [show i + (j - i) = j by omega, ← e] at z
  exact prod_cancel (pw_isP ht i) (pw_isP ht _) z.symm
/-- the least of some numbers -/
theorem least_of {p : Nat → Prop} [DecidablePred p] : ∀ n, p n → ∃ k, k ≤ n ∧ p k ∧ ∀ j, j < k → ¬ p j := fun n => by
  induction n using Nat.strongRecOn with
  | _ n ih =>
    intro h
    by_cases hx : ∃ j, j < n ∧ p j
    · obtain ⟨j, hj, pj⟩ := hx
      obtain ⟨k, h1, h2, h3⟩ := ih j hj pj
      exact ⟨k, by omega, h2, h3⟩
    · exact ⟨n, Nat.le_refl n, h, fun j hj pj => hx ⟨j, hj, pj⟩⟩
theorem pw_least {gs : List (List Nat)} {n m : Nat} (hg : ∀ g ∈ gs, IsP n g) (hf : Few gs n m) {t : List Nat} (h : Mk gs n t) : ∃ N, 1 ≤ N ∧ N ≤ m ∧ pw n t N = List.range n ∧ ∀ j, 1 ≤ j → j < N → pw n t j ≠ List.range n := by
  obtain ⟨N, h1, h2, h3⟩ := pw_back hg hf h
  obtain ⟨k, hk1, ⟨hk2, hk3⟩, hk4⟩ := least_of (p := fun k => 1 ≤ k ∧ pw n t k = List.range n) N ⟨h1, h3⟩
  exact ⟨k, hk2, by omega, hk3, fun j hj1 hj2 e => hk4 j hj2 ⟨hj1, e⟩⟩
/-- all the words, the lock being small -/
@[irreducible] def LL (gs : List (List Nat)) (n : Nat) : List W := qq gs n 300
theorem LL_eq (gs : List (List Nat)) (n : Nat) : LL gs n = qq gs n 300 := by unfold LL; rfl
theorem LL_of {gs : List (List Nat)} {n m a : Nat} (hf : Few gs n m) (hm : m ≤ 240) (h : (qq gs n a).length = a) : qq gs n a = LL gs n := by
  have := hf.qq a
  rw [LL_eq]
  exact (qq_end' gs n (by omega) (by omega)).symm
theorem LL_len {gs : List (List Nat)} {n m : Nat} (hf : Few gs n m) : (LL gs n).length ≤ m := by
  rw [LL_eq]
  exact hf.qq 300
theorem LL_nd (gs : List (List Nat)) (n : Nat) : ((LL gs n).map (·.1)).Nodup := by
  rw [LL_eq]
  exact qq_nd gs n 300
theorem LL_mem {gs : List (List Nat)} {n m : Nat} (hf : Few gs n m) (hm : m ≤ 240) (t : List Nat) : t ∈ (LL gs n).map (·.1) ↔ Mk gs n t := by
  rw [LL_eq]
  exact qq_full (Nat.le_trans (hf.qq 300) (by omega)) t
end Lt

set_option linter.all false
set_option Elab.async false
set_option maxRecDepth 100000
/-! locks whose places are called otherwise; small locks -/
namespace Lt
def cj (s t : List Nat) : List Nat := prod (prod (inv s) t) s
theorem cj_isP {n : Nat} {s t : List Nat} (hs : IsP n s) (ht : IsP n t) : IsP n (cj s t) := (hs.inv.prod ht).prod hs
theorem cj_still {n : Nat} {s : List Nat} (hs : IsP n s) : cj s (List.range n) = List.range n := by
  unfold cj
  rw [prod_still_r hs.inv.lt, prod_inv_l hs]
theorem bd {n : Nat} {x y : List Nat} (hx : IsP n x) (hy : IsP n y) : ∀ i ∈ x, i < y.length := fun i hi => by rw [hy.len]; exact hx.lt i hi
theorem cj_prod {n : Nat} {s a b : List Nat} (hs : IsP n s) (ha : IsP n a) (hb : IsP n b) : cj s (prod a b) = prod (cj s a) (cj s b) := by
  unfold cj
  have h1 : prod (prod (prod (inv s) a) s) (prod (prod (inv s) b) s) = prod (prod (inv s) a) (prod s (prod (prod (inv s) b) s)) := prod_assoc (bd (hs.inv.prod ha) hs)
  have h2 : prod s (prod (prod (inv s) b) s) = prod b s := by
    rw [← prod_assoc (bd hs (hs.inv.prod hb)), ← prod_assoc (bd hs hs.inv), prod_inv_r hs, prod_still_l hb.len]
  rw [h1, h2, ← prod_assoc (bd hs.inv ha), prod_assoc (bd (hs.inv.prod ha) hb)]
theorem Mk.cj {gs : List (List Nat)} {n : Nat} {s : List Nat} (hg : ∀ g ∈ gs, IsP n g) (hs : IsP n s) {u : List Nat} (h : Mk (gs.map (Lt.cj s)) n u) : ∃ t, Mk gs n t ∧ u = Lt.cj s t := by
  induction h with
  | still => exact ⟨_, .still, (cj_still hs).symm⟩
  | @step a g _ hm ih =>
    obtain ⟨t, ht, e⟩ := ih
    obtain ⟨g', hg', e'⟩ := List.mem_map.mp hm
    exact ⟨_, .step ht hg', by rw [cj_prod hs (ht.isP hg) (hg g' hg'), e, e']⟩
theorem Few.cj {gs : List (List Nat)} {n m : Nat} {s : List Nat} (hg : ∀ g ∈ gs, IsP n g) (hs : IsP n s) (h : Few gs n m) : Few (gs.map (Lt.cj s)) n m := by
  obtain ⟨D, h1, h2⟩ := h
  refine ⟨D.map (Lt.cj s), by rw [List.length_map]; exact h1, fun u hu => ?_⟩
  obtain ⟨t, ht, e⟩ := hu.cj hg hs
  rw [e]
  exact List.mem_map.mpr ⟨t, h2 t ht, rfl⟩
theorem few_of {gs : List (List Nat)} {n k : Nat} (h : (qq gs n k).length ≤ k) : Few gs n k :=
  ⟨(qq gs n k).map (·.1), by rw [List.length_map]; exact h, fun t ht => (qq_full h t).mpr ht⟩
theorem Few.mono {gs : List (List Nat)} {n m m' : Nat} (h : Few gs n m) (l : m ≤ m') : Few gs n m' := let ⟨D, h1, h2⟩ := h; ⟨D, Nat.le_trans h1 l, h2⟩
/-- what is led where -/
theorem cj_at {n : Nat} {s t u : List Nat} (hs : IsP n s) (ht : IsP n t) (hl : u.length = n) (h : ∀ (i si ti : Nat), s[i]? = some si → t[i]? = some ti → u[si]? = s[ti]?) : u = cj s t := by
  apply List.ext_getElem?
  intro p
  by_cases hp : p < n
  · have hm : p ∈ s := hs.mem.mpr hp
    have hj := List.idxOf_lt_length_of_mem hm
    have hjn : s.idxOf p < n := by rw [← hs.len]; exact hj
    have e1 : s[s.idxOf p]? = some p := by rw [List.getElem?_eq_getElem hj, List.getElem_idxOf]
    have e2 : t[s.idxOf p]? = some (t[s.idxOf p]'(by rw [ht.len]; exact hjn)) := List.getElem?_eq_getElem _
    have htl : t[s.idxOf p]'(by rw [ht.len]; exact hjn) < s.length := by rw [hs.len]; exact ht.lt _ (List.getElem_mem _)
    rw [h _ _ _ e1 e2]
    unfold cj prod inv
    rw [List.getElem?_map, List.getElem?_map, List.getElem?_map, hs.len, List.getElem?_range hp]
    simp only [Option.map_some]
    rw [List.getD_eq_getElem?_getD (l := t), e2, Option.getD_some, List.getD_eq_getElem?_getD, List.getElem?_eq_getElem htl, Option.getD_some]
  · rw [List.getElem?_eq_none (by omega), List.getElem?_eq_none (by rw [(cj_isP hs ht).len]; omega)]
/-! ### all permutations of few places -/
def lists (n : Nat) : Nat → List (List Nat)
  | 0 => [[]]
  | k + 1 => (List.range n).flatMap fun a => (lists n k).map (a :: ·)
theorem mem_lists {n : Nat} : ∀ (t : List Nat), (∀ i ∈ t, i < n) → t ∈ lists n t.length
  | [], _ => List.mem_singleton.mpr rfl
  | a :: t, h => List.mem_flatMap.mpr ⟨a, List.mem_range.mpr (h a List.mem_cons_self), List.mem_map.mpr ⟨t, mem_lists t fun i hi => h i (List.mem_cons_of_mem _ hi), rfl⟩⟩
theorem few_all {gs : List (List Nat)} {n m : Nat} (hg : ∀ g ∈ gs, IsP n g) (h : ((lists n n).filter fun t => decide (IsP n t)).length ≤ m) : Few gs n m :=
  ⟨_, h, fun t ht => by
    have hp := ht.isP hg
    have z := mem_lists t hp.lt
    rw [hp.len] at z
    exact List.mem_filter.mpr ⟨z, decide_eq_true hp⟩⟩
theorem all4 : ((lists 4 4).filter fun t => decide (IsP 4 t)).length ≤ 60 := by decide +kernel
theorem all3 : ((lists 3 3).filter fun t => decide (IsP 3 t)).length ≤ 60 := by decide +kernel
theorem all2 : ((lists 2 2).filter fun t => decide (IsP 2 t)).length ≤ 60 := by decide +kernel
/-! ### the known locks -/
def known : List (List (List Nat)) := [[[1, 2, 3, 0]], [[1, 0, 3, 2], [2, 3, 0, 1]], [[1, 2, 3, 0], [3, 2, 1, 0]], [[1, 0, 2, 3, 4, 5], [0, 1, 3, 2, 4, 5], [0, 1, 2, 3, 5, 4]],
  [[1, 2, 3, 4, 5, 6, 7, 0]], [[1, 2, 3, 4, 5, 6, 7, 8, 0]], [[1, 2, 3, 0, 5, 6, 7, 4], [4, 7, 6, 5, 2, 1, 0, 3]], [[1, 2, 0, 3, 4, 5], [0, 1, 2, 4, 5, 3]], [[1, 2, 0], [1, 0, 2]],
  [[1, 2, 0, 3], [1, 0, 3, 2]], [[1, 2, 0, 3, 4], [0, 1, 2, 4, 3]], [[3, 4, 5, 6, 7, 8, 0, 1, 2], [0, 1, 2, 4, 5, 3, 8, 6, 7]], [[1, 2, 3, 4, 0], [1, 2, 0, 3, 4]], [[1, 2, 3, 0], [1, 0, 2, 3]],
  [[1, 2, 3, 4, 0], [0, 4, 3, 2, 1]]]
def fine (gs : List (List Nat)) : Bool := match gs with
  | [] => false
  | g :: _ => decide (gs.length ≤ 4) && decide (2 ≤ g.length) && decide (g.length ≤ 9) && gs.all (fun t => decide (IsP g.length t)) && decide ((qq gs g.length 60).length ≤ 60)
theorem known_fine : known.all fine = true := by decide +kernel
theorem fine_of {gs : List (List Nat)} (h : gs ∈ known) : ∃ n, 1 ≤ gs.length ∧ gs.length ≤ 4 ∧ 2 ≤ n ∧ n ≤ 9 ∧ (∀ g ∈ gs, IsP n g) ∧ Few gs n 60 := by
  have z := List.all_eq_true.mp known_fine gs h
  cases gs with
  | nil => cases z
  | cons g gs =>
    have z : (decide ((g :: gs).length ≤ 4) && decide (2 ≤ g.length) && decide (g.length ≤ 9) && (g :: gs).all (fun t => decide (IsP g.length t)) && decide ((qq (g :: gs) g.length 60).length ≤ 60)) = true := z
    simp only [Bool.and_eq_true, decide_eq_true_eq, List.all_eq_true] at z
    obtain ⟨⟨⟨⟨z1, z2⟩, z3⟩, z4⟩, z5⟩ := z
    exact ⟨g.length, by show 1 ≤ gs.length + 1; omega, z1, z2, z3, z4, few_of z5⟩
end Lt

set_option Elab.async false
set_option linter.all false
set_option maxRecDepth 100000
set_option maxHeartbeats 4000000
namespace Lt
open PySem PySem.Spec PyProof.Rows L2
/-- the built-in names that the module leaves as they are -/
structure Bi (mg : Str → Option Value) : Prop where
  tuple : mg "tuple" = none
  list : mg "list" = none
  range : mg "range" = none
  len : mg "len" = none
  sorted : mg "sorted" = none
  enumerate : mg "enumerate" = none
  isinstance : mg "isinstance" = none
  all : mg "all" = none
  set : mg "set" = none
  int : mg "int" = none
  bool : mg "bool" = none
  str : mg "str" = none
/-! ### comprehensions -/
section
variable {K : PySem.W.Frag} {te : TE} {vs : List Nat} {σ : L2.St} {H1 : Hp} {D : Addr} {Qd : Hp → Prop} {β : Type} {j : Nat}
/-- what a comprehension's list holds after i turns -/
def Cm (H1 : Hp) (D : Addr) (R : Hp → V → β → Prop) (ys : List β) (i : Nat) (H : Hp) : Prop := Same H1 H ∧ ∃ zs, H D = some (.lst zs) ∧ Paired (R H) zs (ys.take i) ∧ zs.length ≤ i
theorem paired_mono {α γ : Type} {R R' : α → γ → Prop} (h : ∀ a b, R a b → R' a b) : ∀ {xs : List α} {ys : List γ}, Paired R xs ys → Paired R' xs ys
  | _, _, .nil => .nil
  | _, _, .cons r t => .cons (h _ _ r) (paired_mono h t)
theorem cm_turn {R : Hp → V → β → Prop} {ys : List β} {i : Nat} {H : Hp} {σ2 : L2.St} (mono : ∀ H H' v b, Tm H H' → R H v b → R H' v b) (hD : H1 D = none) (p : Cm H1 D R ys i H) (hi : i < 100000) {b : β} (hb : ys[i]? = some b)
    (he : ∀ H, Same H1 H → ∀ Q : VK, (∀ v H', Same H H' → R H' v b → Q v H') → te σ2 H Q) :
    te σ2 H fun y H4 => ∃ acc, H4 D = some (.lst acc) ∧ acc.length < sizeLine ∧ Cm H1 D R ys (i + 1) (upd H4 D (.lst (acc ++ [y]))) := by
  obtain ⟨sm, zs, hz, pr, hl⟩ := p
  refine he H sm _ fun v H4 s4 r => ?_
  have h4 := s4 _ _ hz
  have t4 : Tm H4 (upd H4 D (.lst (zs ++ [v]))) := Tm.lst h4
  refine ⟨zs, h4, Nat.lt_of_le_of_lt hl (Nat.lt_of_lt_of_le hi (by decide)), same_mut (sm.trans s4) hD, zs ++ [v], upd_same, ?_, by rw [List.length_append]; show zs.length + 1 ≤ i + 1; omega⟩
  rw [List.take_add_one, hb]
  exact Paired.app (paired_mono (fun a b q => mono _ _ _ _ ((Tm.of s4).trans t4) q) pr) (Paired.one (mono _ _ _ _ t4 r))
theorem lc_tupM {a : Addr} {xs : List V} (R : Hp → V → β → Prop) (ys : List β) (mono : ∀ H H' v b, Tm H H' → R H v b → R H' v b) (hx : SqT K H1 a xs) (hxK : ∀ H, Same H1 H → SqT K H a xs) (hz : xs.length ≤ 100000) (hy : ys.length = xs.length) (hD : H1 D = none)
    (hw : ∀ x, wipe ((wipe σ vs).set j (some x)) vs = wipe σ vs)
    (he : ∀ (i : Nat) (x : V) (b : β), xs[i]? = some x → ys[i]? = some b → ∀ H, Same H1 H → ∀ Q : VK, (∀ v H', Same H H' → R H' v b → Q v H') → te ((wipe σ vs).set j (some x)) H Q)
    (hd : ∀ H zs, Same H1 H → H D = some (.lst zs) → Paired (R H) zs ys → Qd H) :
    ∃ W : Nat → Nat → Hp → Prop, (∃ m, W 0 m (upd H1 D (.lst []))) ∧ ∀ i m H, W i m H →
      ((Itt K a).stop i H ∧ Qd H) ∨ ((Itt K a).go i H ∧ ∃ Nx : Hp → Prop, (∀ H', Nx H' → ∃ m', m' < m ∧ W (i + 1) m' H') ∧ ∀ x H', (Itt K a).yld i H x H' → gName j x (wipe σ vs) H' fun σ2 H2 => wipe σ2 vs = wipe σ vs ∧ tYes σ2 H2 fun b H3 =>
        if b = true then te σ2 H3 fun y H4 => ∃ acc, H4 D = some (.lst acc) ∧ acc.length < sizeLine ∧ Nx (upd H4 D (.lst (acc ++ [y]))) else Nx H3) :=
  lc_tup (xs := xs) (Cm H1 D R ys) ⟨same_new hD, [], upd_same, .nil, Nat.le_refl _⟩ (fun i H _ p => hxK H p.1)
    (fun i x H hi p => ⟨hw x, iteT (B := Cm H1 D R ys (i + 1) H) (by
      have hl := (List.getElem?_eq_some_iff.mp hi).1
      have hb : ys[i]? = some (ys[i]'(by omega)) := List.getElem?_eq_getElem (by omega)
      exact cm_turn mono hD p (by omega) hb (he i x _ hi hb))⟩)
    (fun H p => by
      obtain ⟨sm, zs, h1, pr, _⟩ := p
      rw [← hy, List.take_length] at pr
      exact hd H zs sm h1 pr)
theorem lc_listM {a : Addr} {xs : List V} (R : Hp → V → β → Prop) (ys : List β) (mono : ∀ H H' v b, Tm H H' → R H v b → R H' v b) (hxK : ∀ H, Same H1 H → SqL K H a xs) (hz : xs.length ≤ 100000) (hy : ys.length = xs.length) (hD : H1 D = none)
    (hw : ∀ x, wipe ((wipe σ vs).set j (some x)) vs = wipe σ vs)
    (he : ∀ (i : Nat) (x : V) (b : β), xs[i]? = some x → ys[i]? = some b → ∀ H, Same H1 H → ∀ Q : VK, (∀ v H', Same H H' → R H' v b → Q v H') → te ((wipe σ vs).set j (some x)) H Q)
    (hd : ∀ H zs, Same H1 H → H D = some (.lst zs) → Paired (R H) zs ys → Qd H) :
    ∃ W : Nat → Nat → Hp → Prop, (∃ m, W 0 m (upd H1 D (.lst []))) ∧ ∀ i m H, W i m H →
      ((Itl K a).stop i H ∧ Qd H) ∨ ((Itl K a).go i H ∧ ∃ Nx : Hp → Prop, (∀ H', Nx H' → ∃ m', m' < m ∧ W (i + 1) m' H') ∧ ∀ x H', (Itl K a).yld i H x H' → gName j x (wipe σ vs) H' fun σ2 H2 => wipe σ2 vs = wipe σ vs ∧ tYes σ2 H2 fun b H3 =>
        if b = true then te σ2 H3 fun y H4 => ∃ acc, H4 D = some (.lst acc) ∧ acc.length < sizeLine ∧ Nx (upd H4 D (.lst (acc ++ [y]))) else Nx H3) :=
  lc_list (xs := xs) (Cm H1 D R ys) ⟨same_new hD, [], upd_same, .nil, Nat.le_refl _⟩ (fun i H _ p => hxK H p.1)
    (fun i x H hi p => ⟨hw x, iteT (B := Cm H1 D R ys (i + 1) H) (by
      have hl := (List.getElem?_eq_some_iff.mp hi).1
      have hb : ys[i]? = some (ys[i]'(by omega)) := List.getElem?_eq_getElem (by omega)
      exact cm_turn mono hD p (by omega) hb (he i x _ hi hb))⟩)
    (fun H p => by
      obtain ⟨sm, zs, h1, pr, _⟩ := p
      rw [← hy, List.take_length] at pr
      exact hd H zs sm h1 pr)
theorem lc_rangeM {n : Nat} (R : Hp → V → β → Prop) (ys : List β) (mono : ∀ H H' v b, Tm H H' → R H v b → R H' v b) (hz : n ≤ 100000) (hy : ys.length = n) (hD : H1 D = none)
    (hw : ∀ x, wipe ((wipe σ vs).set j (some x)) vs = wipe σ vs)
    (he : ∀ (i : Nat) (b : β), i < n → ys[i]? = some b → ∀ H, Same H1 H → ∀ Q : VK, (∀ v H', Same H H' → R H' v b → Q v H') → te ((wipe σ vs).set j (some (.int ((0 : Int) + (i : Nat))))) H Q)
    (hd : ∀ H zs, Same H1 H → H D = some (.lst zs) → Paired (R H) zs ys → Qd H) :
    ∃ W : Nat → Nat → Hp → Prop, (∃ m, W 0 m (upd H1 D (.lst []))) ∧ ∀ i m H, W i m H →
      ((Itr 0 n).stop i H ∧ Qd H) ∨ ((Itr 0 n).go i H ∧ ∃ Nx : Hp → Prop, (∀ H', Nx H' → ∃ m', m' < m ∧ W (i + 1) m' H') ∧ ∀ x H', (Itr 0 n).yld i H x H' → gName j x (wipe σ vs) H' fun σ2 H2 => wipe σ2 vs = wipe σ vs ∧ tYes σ2 H2 fun b H3 =>
        if b = true then te σ2 H3 fun y H4 => ∃ acc, H4 D = some (.lst acc) ∧ acc.length < sizeLine ∧ Nx (upd H4 D (.lst (acc ++ [y]))) else Nx H3) :=
  lc_range (lo := 0) (n := n) (Cm H1 D R ys) ⟨same_new hD, [], upd_same, .nil, Nat.le_refl _⟩
    (fun i H hi p => ⟨hw _, iteT (B := Cm H1 D R ys (i + 1) H) (by
      have hb : ys[i]? = some (ys[i]'(by omega)) := List.getElem?_eq_getElem (by omega)
      exact cm_turn mono hD p (by omega) hb (he i _ hi hb))⟩)
    (fun H p => by
      obtain ⟨sm, zs, h1, pr, _⟩ := p
      rw [← hy, List.take_length] at pr
      exact hd H zs sm h1 pr)
end
/-- a new tuple of numbers -/
theorem tn_of {H : Hp} {zs : List V} {p : Addr} {t : List Nat} (h : H p = some (.tup zs)) (e : zs = nIs t) : TK H (.ref p) t := ⟨p, rfl, by rw [h, e]⟩
def RN (_ : Hp) (v : V) (n : Nat) : Prop := v = nI n
theorem RN.all {H : Hp} : ∀ {zs : List V} {t : List Nat}, Paired (RN H) zs t → zs = nIs t
  | _, _, .nil => rfl
  | _, _, .cons r t => by rw [(show _ = nI _ from r), RN.all t]; rfl
end Lt

set_option Elab.async false
set_option linter.all false
set_option maxRecDepth 100000
namespace Lt
open PySem PySem.Spec PyProof.Rows L2
def topS (i : Nat) : Stmt := PySem.Challenge.pw_lockturns_k01_whole_locks.main.body.getD i (.Pass ⟨0, 0, 0, 0⟩)
abbrev s_LockError : Stmt := topS 1
abbrev s_BadLock : Stmt := topS 2
abbrev s_TooMany : Stmt := topS 3
abbrev s_BadTurn : Stmt := topS 4
abbrev s_is_number : Stmt := topS 7
abbrev s_are_numbers : Stmt := topS 8
abbrev s_is_permutation : Stmt := topS 9
abbrev s_still_of : Stmt := topS 10
abbrev s_product_of : Stmt := topS 11
abbrev s_back_of : Stmt := topS 12
abbrev s_rounds_of : Stmt := topS 13
abbrev s_bracket_of : Stmt := topS 14
abbrev s_words_of : Stmt := topS 15
abbrev s_all_turns : Stmt := topS 20
abbrev s_is_made : Stmt := topS 21
abbrev s_join : Stmt := topS 22
abbrev s_undo : Stmt := topS 23
abbrev s_rounds : Stmt := topS 24
abbrev s_swapped : Stmt := topS 25
abbrev s_word_for : Stmt := topS 26
abbrev s_check_lock : Stmt := topS 27
abbrev s_made_words : Stmt := topS 28
abbrev s_is_turn : Stmt := topS 29
abbrev s_are_turns : Stmt := topS 30
abbrev s_check_turn : Stmt := topS 31
abbrev s_law_taken : Stmt := topS 33
abbrev s_law_pick : Stmt := topS 34
abbrev s_law_alike : Stmt := topS 35
abbrev s_law_is : Stmt := topS 36
abbrev s_law_permutation : Stmt := topS 37
abbrev s_law_behind : Stmt := topS 38
abbrev s_law_back : Stmt := topS 39
abbrev s_law_swap : Stmt := topS 40
abbrev s_law_span : Stmt := topS 41
abbrev s_law_known : Stmt := topS 42
abbrev s_law_lock : Stmt := topS 43
abbrev s_law_words : Stmt := topS 44
abbrev s_law : Stmt := topS 45
end Lt

set_option Elab.async false
set_option linter.all false
set_option maxRecDepth 100000
set_option maxHeartbeats 4000000
namespace Lt
open PySem PySem.Spec PyProof.Rows L2
section
variable {P : Program} {w : World} {K : PySem.W.Frag} {mg : Str → Option Value} {base : Heap}
/-! ### product_of -/
def spProd : Sp := fun vs H Q _ => ∃ (a b : V) (x y : List Nat), vs = [a, b] ∧ TN H a x ∧ TN H b y ∧ (∀ i ∈ x, i < y.length) ∧ x.length ≤ 1000 ∧ ∀ v H', Same H H' → TK H' v (prod x y) → Q v H'
theorem sc_product_of : FnScope ["one", "other", "place"] ["one", "other"] (defScope s_product_of) := ⟨rfl, rfl, rfl, by decide +kernel, rfl, by decide +kernel, by decide +kernel⟩
theorem has_product_of (T : Top K mg "product_of" s_product_of ["one", "other"]) (B : Bi mg) : Has P w K mg base CX0 1 "product_of" ["one", "other"] spProd := by
  refine T.ok sc_product_of (fun vs H Q E h => ?_) (fun f cdv A outer s H vs Q E hr h => ?_)
  · obtain ⟨a, b, x, y, rfl, _⟩ := h
    rfl
  · obtain ⟨a, b, x, y, rfl, ha, hb, hxy, hx, q⟩ := h
    refine ⟨_, pss_one (ps_ret (pe_tupleOf (by rfl) B.tuple (pe_lc (own := [("place", 2)]) (g := gName 2) (te := tOp (rIxT K) (tVar 1) (tVar 2)) (by rfl) sc_product_of.nd (pi_tup (pv 0)) (blkOk_by (own := [("place", 2)]) (N := ["one", "other", "place"]) (sc := defScope s_product_of) (by decide +kernel))
      (fun _ _ _ _ _ => pg_name (i := 2) sc_product_of.nd rfl (Or.inl rfl)) (fun _ _ _ _ _ => pts_nil) (fun _ _ _ _ _ => pe_ix ix_tup (pv 1) (pv 2) (fun _ _ => rfl))))), ?_⟩
    obtain ⟨pa, rfl, ea⟩ := ha
    obtain ⟨pb, rfl, eb⟩ := hb
    refine ⟨_, rfl, pa, rfl, ⟨_, ea.sq⟩, fun D hD => lc_tupM RN (prod x y) (fun _ _ _ _ _ r => r) (ea.sq) (fun H' sm => (ea.sm sm).sq) (by rw [nIs_len]; omega) (by rw [prod_len, nIs_len]) hD (fun x => rfl) (fun i v n hi hn H' sm Q' q' => ?_) (fun H' zs sm hz pr => ?_)⟩
    · rw [nIs_get] at hi
      obtain ⟨m, hm, rfl⟩ := Option.map_eq_some_iff.mp hi
      have hlt := hxy m (List.mem_of_getElem? hm)
      have e : n = y.getD m 0 := by
        have z : (prod x y)[i]? = some (y.getD m 0) := by
          unfold prod
          rw [List.getElem?_map, hm]
          rfl
        exact Option.some.inj (hn.symm.trans z)
      refine ⟨_, rfl, _, rfl, pb, _, _, nI n, rfl, rfl, (eb.sm sm).sq, atI_nat ?_, q' _ _ (Same.refl _) rfl⟩
      rw [nIs_get, e, List.getD_eq_getElem?_getD, List.getElem?_eq_getElem hlt]
      rfl
    · refine .inl ⟨D, zs, rfl, SqL.of hz, fun p hp => q _ _ (sm.trans (same_new hp)) (tn_of upd_same (RN.all pr))⟩
/-! ### still_of -/
def spStill : Sp := fun vs H Q _ => ∃ (n : Nat), vs = [nI n] ∧ n ≤ 1000 ∧ ∀ v H', Same H H' → TK H' v (List.range n) → Q v H'
theorem sc_still_of : FnScope ["size"] ["size"] (defScope s_still_of) := ⟨rfl, rfl, rfl, by decide +kernel, rfl, by decide +kernel, by decide +kernel⟩
theorem rgV_nat (n : Nat) : rgV 0 (n : Int) = nIs (List.range n) := by
  unfold rgV nIs
  have e : ((n : Int) - 0).toNat = n := by omega
  rw [e]
  refine List.map_congr_left fun i _ => ?_
  show V.int (0 + (i : Int)) = V.int (i : Int)
  rw [Int.zero_add]
theorem has_still_of (T : Top K mg "still_of" s_still_of ["size"]) (B : Bi mg) : Has P w K mg base CX0 1 "still_of" ["size"] spStill := by
  refine T.ok sc_still_of (fun vs H Q E h => ?_) (fun f cdv A outer s H vs Q E hr h => ?_)
  · obtain ⟨n, rfl, _⟩ := h
    rfl
  · obtain ⟨n, rfl, hn, q⟩ := h
    refine ⟨_, pss_one (ps_ret (pe_tupRg (by rfl) (by rfl) B.tuple (prg_1 (by rfl) B.range (pv 0)))), ?_⟩
    refine ⟨_, rfl, _, rfl, .of_le (by omega) (by omega) (by omega) (by omega), fun p hp => q _ _ (same_new hp) (tn_of upd_same (rgV_nat n))⟩
end
end Lt

set_option Elab.async false
set_option linter.all false
set_option maxRecDepth 100000
set_option maxHeartbeats 4000000
namespace Lt
open PySem PySem.Spec PyProof.Rows L2
/-! ### any plain value -/
mutual
inductive Rp (H : Hp) : V → PyData → Prop
  | non : Rp H .non .none
  | bl (b : Bool) : Rp H (.bl b) (.bool b)
  | int (i : Int) : Rp H (.int i) (.int i)
  | str (x : Str) : Rp H (.str x) (.str x)
  | lst {a : Addr} {xs : List V} {ds : List PyData} : H a = some (.lst xs) → RpAll H xs ds → Rp H (.ref a) (.list ds)
  | tup {a : Addr} {xs : List V} {ds : List PyData} : RT H a xs → RpAll H xs ds → Rp H (.ref a) (.tuple ds)
inductive RpAll (H : Hp) : List V → List PyData → Prop
  | nil : RpAll H [] []
  | cons {v : V} {vs : List V} {d : PyData} {ds : List PyData} : Rp H v d → RpAll H vs ds → RpAll H (v :: vs) (d :: ds)
end
mutual
theorem Rp.same {H H' : Hp} (e : Same H H') : ∀ (d : PyData) (v : V), Rp H v d → Rp H' v d
  | .none, _, .non => .non
  | .bool _, _, .bl b => .bl b
  | .int _, _, .int i => .int i
  | .str _, _, .str i => .str i
  | .list ds, _, .lst h a => .lst (e _ _ h) (RpAll.same e ds _ a)
  | .tuple ds, _, .tup h a => .tup (h.sm e) (RpAll.same e ds _ a)
theorem RpAll.same {H H' : Hp} (e : Same H H') : ∀ (ds : List PyData) (vs : List V), RpAll H vs ds → RpAll H' vs ds
  | [], _, .nil => .nil
  | d :: ds, _, .cons r t => .cons (Rp.same e d _ r) (RpAll.same e ds _ t)
end
mutual
theorem Rp.dp {K : PySem.W.Frag} {H : Hp} : ∀ (d : PyData) (v : V), Rp H v d → Dp K H v d
  | .none, _, .non => .non
  | .bool _, _, .bl b => .bl b
  | .int _, _, .int i => .int i
  | .str _, _, .str i => .str i
  | .list ds, _, .lst h a => .lst (SqL.of h) (RpAll.dp ds _ a)
  | .tuple ds, _, .tup h a => .tup h.sq (RpAll.dp ds _ a)
theorem RpAll.dp {K : PySem.W.Frag} {H : Hp} : ∀ (ds : List PyData) (vs : List V), RpAll H vs ds → DpAll K H vs ds
  | [], _, .nil => .nil
  | d :: ds, _, .cons r t => .cons (Rp.dp d _ r) (RpAll.dp ds _ t)
end
theorem RpAll.get {H : Hp} : ∀ {ds : List PyData} {vs : List V} {i : Nat} {v : V}, RpAll H vs ds → vs[i]? = some v → ∃ d, ds[i]? = some d ∧ Rp H v d
  | _, _, _, _, .nil, e => by simp at e
  | _, _, 0, _, .cons r _, e => by
    have e := Option.some.inj e
    subst e
    exact ⟨_, rfl, r⟩
  | _, _, i + 1, v, .cons _ t, e => by
    obtain ⟨d, h1, h2⟩ := RpAll.get (i := i) (v := v) t (by simpa using e)
    exact ⟨d, by simpa using h1, h2⟩
theorem RpAll.len {H : Hp} : ∀ {ds : List PyData} {vs : List V}, RpAll H vs ds → vs.length = ds.length
  | _, _, .nil => rfl
  | _, _, .cons _ t => by rw [List.length_cons, List.length_cons, RpAll.len t]
theorem rp_nats {H : Hp} : ∀ t : List Nat, RpAll H (nIs t) (t.map dN)
  | [] => .nil
  | n :: t => .cons (.int _) (rp_nats t)
theorem TN.rp {H : Hp} {v : V} {t : List Nat} (h : TN H v t) : Rp H v (dT t) := by
  obtain ⟨a, rfl, ha⟩ := h
  exact .tup ha (rp_nats t)
theorem TNs.rp {H : Hp} : ∀ {xs : List V} {ts : List (List Nat)}, Paired (TN H) xs ts → RpAll H xs (ts.map dT)
  | _, _, .nil => .nil
  | _, _, .cons r t => .cons r.rp (TNs.rp t)
theorem TT.rp {H : Hp} {v : V} {ts : List (List Nat)} (h : TT H v ts) : Rp H v (.tuple (ts.map dT)) := by
  obtain ⟨a, xs, rfl, ha, p⟩ := h
  exact .tup (.inl ha) (TNs.rp p)
def tyN : PyData → String
  | .none => "NoneType"
  | .bool _ => "bool"
  | .int _ => "int"
  | .str _ => "str"
  | .list _ => "list"
  | .tuple _ => "tuple"
  | .dict _ => "dict"
theorem rp_ty {K : PySem.W.Frag} {H : Hp} {v : V} {d : PyData} (h : Rp H v d) : TyX K H v (.type (tyN d)) := by
  cases h with
  | non => exact .base .non
  | bl b => exact .base (.bl b)
  | int b => exact .base (.int b)
  | str b => exact .base (.str b)
  | lst h _ => exact .base (.lst h)
  | tup h _ =>
    rcases h with h | ⟨o, h⟩
    · exact .base (.tup h)
    · exact .fTuple h
def isIntB : PyData → Bool
  | .int _ => true
  | .bool _ => true
  | _ => false
def isBl : PyData → Bool
  | .bool _ => true
  | _ => false
def isTup : PyData → Bool
  | .tuple _ => true
  | _ => false
def isLst : PyData → Bool
  | .list _ => true
  | _ => false
def isStr : PyData → Bool
  | .str _ => true
  | _ => false
def isNum : PyData → Bool
  | .int _ => true
  | _ => false
theorem kit_int : ∀ d : PyData, kitB (tyN d) "int" = some (isIntB d)
  | .none => (by decide +kernel : kitB "NoneType" "int" = some false)
  | .bool _ => (by decide +kernel : kitB "bool" "int" = some true)
  | .int _ => (by decide +kernel : kitB "int" "int" = some true)
  | .str _ => (by decide +kernel : kitB "str" "int" = some false)
  | .list _ => (by decide +kernel : kitB "list" "int" = some false)
  | .tuple _ => (by decide +kernel : kitB "tuple" "int" = some false)
  | .dict _ => (by decide +kernel : kitB "dict" "int" = some false)
theorem kit_bool : ∀ d : PyData, kitB (tyN d) "bool" = some (isBl d)
  | .none => (by decide +kernel : kitB "NoneType" "bool" = some false)
  | .bool _ => (by decide +kernel : kitB "bool" "bool" = some true)
  | .int _ => (by decide +kernel : kitB "int" "bool" = some false)
  | .str _ => (by decide +kernel : kitB "str" "bool" = some false)
  | .list _ => (by decide +kernel : kitB "list" "bool" = some false)
  | .tuple _ => (by decide +kernel : kitB "tuple" "bool" = some false)
  | .dict _ => (by decide +kernel : kitB "dict" "bool" = some false)
theorem kit_tup : ∀ d : PyData, kitB (tyN d) "tuple" = some (isTup d)
  | .none => (by decide +kernel : kitB "NoneType" "tuple" = some false)
  | .bool _ => (by decide +kernel : kitB "bool" "tuple" = some false)
  | .int _ => (by decide +kernel : kitB "int" "tuple" = some false)
  | .str _ => (by decide +kernel : kitB "str" "tuple" = some false)
  | .list _ => (by decide +kernel : kitB "list" "tuple" = some false)
  | .tuple _ => (by decide +kernel : kitB "tuple" "tuple" = some true)
  | .dict _ => (by decide +kernel : kitB "dict" "tuple" = some false)
theorem kit_lst : ∀ d : PyData, kitB (tyN d) "list" = some (isLst d)
  | .none => (by decide +kernel : kitB "NoneType" "list" = some false)
  | .bool _ => (by decide +kernel : kitB "bool" "list" = some false)
  | .int _ => (by decide +kernel : kitB "int" "list" = some false)
  | .str _ => (by decide +kernel : kitB "str" "list" = some false)
  | .list _ => (by decide +kernel : kitB "list" "list" = some true)
  | .tuple _ => (by decide +kernel : kitB "tuple" "list" = some false)
  | .dict _ => (by decide +kernel : kitB "dict" "list" = some false)
theorem kit_str : ∀ d : PyData, kitB (tyN d) "str" = some (isStr d)
  | .none => (by decide +kernel : kitB "NoneType" "str" = some false)
  | .bool _ => (by decide +kernel : kitB "bool" "str" = some false)
  | .int _ => (by decide +kernel : kitB "int" "str" = some false)
  | .str _ => (by decide +kernel : kitB "str" "str" = some true)
  | .list _ => (by decide +kernel : kitB "list" "str" = some false)
  | .tuple _ => (by decide +kernel : kitB "tuple" "str" = some false)
  | .dict _ => (by decide +kernel : kitB "dict" "str" = some false)
theorem rr_ty (n : String) : RelV (.ty n) (.type n) := rfl
section
variable {P : Program} {w : World} {K : PySem.W.Frag} {mg : Str → Option Value} {base : Heap}
/-! ### is_number -/
def spNum : Sp := fun vs H Q _ => ∃ (v : V) (d : PyData), vs = [v] ∧ Rp H v d ∧ Q (.bl (isNum d)) H
theorem sc_is_number : FnScope ["value"] ["value"] (defScope s_is_number) := ⟨rfl, rfl, rfl, by decide +kernel, rfl, by decide +kernel, by decide +kernel⟩
theorem has_is_number (T : Top K mg "is_number" s_is_number ["value"]) (B : Bi mg) : Has P w K mg base CX0 1 "is_number" ["value"] spNum := by
  refine T.ok sc_is_number (fun vs H Q E h => ?_) (fun f cdv A outer s H vs Q E hr h => ?_)
  · obtain ⟨v, d, rfl, _⟩ := h
    rfl
  · obtain ⟨v, d, rfl, hd, q⟩ := h
    refine ⟨_, pss_one (ps_ret (pe_and (pe_callB call_isi (by rfl) B.isinstance PyProof.Rows.boot_isinstance (pa_cons (pv 0) (pa_cons (pe_bltn (by rfl) B.int PyProof.Rows.boot_int (rr_ty "int")) pa_nil)))
      (pe_one (pe_not (pe_callB call_isi (by rfl) B.isinstance PyProof.Rows.boot_isinstance (pa_cons (pv 0) (pa_cons (pe_bltn (by rfl) B.bool PyProof.Rows.boot_bool (rr_ty "bool")) pa_nil))))))), ?_⟩
    refine ⟨_, rfl, v, .ty "int", _, _, isIntB d, rfl, .ty _, rp_ty hd, kit_ty (kit_int d), isIntB d, rfl, ite2 (fun h => ?_) (fun h => ?_)⟩
    · refine ⟨_, rfl, v, .ty "bool", _, _, isBl d, rfl, .ty _, rp_ty hd, kit_ty (kit_bool d), isBl d, rfl, ?_⟩
      have e : (!isBl d) = isNum d := by cases d <;> first | rfl | cases h
      show Q (.bl (!isBl d)) H
      rw [e]
      exact q
    · have e : false = isNum d := by cases d <;> first | rfl | exact absurd rfl h
      show Q (.bl false) H
      rw [e]
      exact q
/-! ### are_numbers -/
def isNums : PyData → Bool
  | .tuple ds => ds.all isNum
  | _ => false
def spNums : Sp := fun vs H Q _ => ∃ (v : V) (d : PyData), vs = [v] ∧ Rp H v d ∧ (∀ ds, d = .tuple ds → ds.length ≤ 1000) ∧ ∀ H', Same H H' → Q (.bl (isNums d)) H'
theorem sc_are_numbers : FnScope ["value", "part"] ["value"] (defScope s_are_numbers) := ⟨rfl, rfl, rfl, by decide +kernel, rfl, by decide +kernel, by decide +kernel⟩
theorem bls_of : ∀ {zs : List V} {bs : List Bool}, Paired (fun v b => v = V.bl b) zs bs → zs = bs.map V.bl
  | _, _, .nil => rfl
  | _, _, .cons r t => by rw [r, bls_of t]; rfl
theorem has_are_numbers (T : Top K mg "are_numbers" s_are_numbers ["value"]) (B : Bi mg) (hN : Has P w K mg base CX0 1 "is_number" ["value"] spNum) : Has P w K mg base CX0 2 "are_numbers" ["value"] spNums := by
  refine T.ok sc_are_numbers (fun vs H Q E h => ?_) (fun f cdv A outer s H vs Q E hr h => ?_)
  · obtain ⟨v, d, rfl, _⟩ := h
    rfl
  · obtain ⟨v, d, rfl, hd, hl, q⟩ := h
    refine ⟨_, pss_one (ps_ret (pe_and (pe_callB call_isi (by rfl) B.isinstance PyProof.Rows.boot_isinstance (pa_cons (pv 0) (pa_cons (pe_bltn (by rfl) B.tuple PyProof.Rows.boot_tuple (rr_ty "tuple")) pa_nil)))
      (pe_one (pe_callB (cr_all (by rfl)) (by rfl) B.all PyProof.Rows.boot_all (pa_cons (pe_lc (own := [("part", 1)]) (g := gName 1) (te := tCall spNum [] E0 (tCons (tVar 1) tNil)) (by rfl) sc_are_numbers.nd (pi_tup (pv 0)) (blkOk_by (own := [("part", 1)]) (N := ["value", "part"]) (sc := defScope s_are_numbers) (by decide +kernel))
        (fun _ _ _ _ _ => pg_name (i := 1) sc_are_numbers.nd rfl (Or.inl rfl)) (fun _ _ _ _ _ => pts_nil) (fun _ _ _ _ _ => pe_has hN hr (by rfl) (pa_cons (pv 1) pa_nil))) pa_nil))))), ?_⟩
    refine ⟨_, rfl, v, .ty "tuple", _, _, isTup d, rfl, .ty _, rp_ty hd, kit_ty (kit_tup d), isTup d, rfl, ite2 (fun h => ?_) (fun h => ?_)⟩
    · cases hd with
      | @tup a xs ds ha hx =>
        have hlen := hl ds rfl
        have hxl := hx.len
        refine ⟨_, rfl, a, rfl, ⟨_, ha.sq⟩, fun D hD => lc_tupM (fun _ v b => v = V.bl b) (ds.map isNum) (fun _ _ _ _ _ r => r) (ha.sq) (fun H' sm => (ha.sm sm).sq) (by omega) (by rw [List.length_map, hxl]) hD (fun x => rfl) (fun i v n hi hn H' sm Q' q' => ?_) (fun H' zs sm hz pr => ?_)⟩
        · obtain ⟨d, e1, e2⟩ := hx.get hi
          rw [List.getElem?_map, e1] at hn
          have hn : isNum d = n := Option.some.inj hn
          exact ⟨_, rfl, v, d, rfl, Rp.same sm d _ e2, q' _ _ (Same.refl _) (by rw [hn])⟩
        · refine ⟨D, ds.map isNum, rfl, SqL.of (by rw [hz, bls_of pr]), ?_⟩
          have e : (ds.map isNum).all id = isNums (.tuple ds) := by rw [List.all_map]; rfl
          rw [e]
          exact q _ sm
      | non => cases h
      | bl => cases h
      | int => cases h
      | str => cases h
      | lst => cases h
    · have e : false = isNums d := by cases d <;> first | rfl | exact absurd rfl h
      show Q (.bl false) H
      rw [e]
      exact q _ (Same.refl _)
/-! ### is_permutation -/
def numOf : PyData → Int
  | .int i => i
  | _ => 0
def numsOf : PyData → List Int
  | .tuple ds => ds.map numOf
  | _ => []
def rangeI (n : Nat) : List Int := (List.range n).map Int.ofNat
def isPermD (d : PyData) (n : Nat) : Bool := isNums d && decide ((numsOf d).Perm (rangeI n))
def spPerm : Sp := fun vs H Q _ => ∃ (v : V) (d : PyData) (n : Nat), vs = [v, nI n] ∧ Rp H v d ∧ (∀ ds, d = .tuple ds → ds.length < 64) ∧ n < 64 ∧ ∀ H', Same H H' → Q (.bl (isPermD d n)) H'
theorem sc_is_permutation : FnScope ["value", "size"] ["value", "size"] (defScope s_is_permutation) := ⟨rfl, rfl, rfl, by decide +kernel, rfl, by decide +kernel, by decide +kernel⟩
theorem nums_vals {H : Hp} : ∀ {ds : List PyData} {xs : List V}, RpAll H xs ds → ds.all isNum = true → xs = (ds.map numOf).map V.int
  | _, _, .nil, _ => rfl
  | d :: ds, _, .cons r t, h => by
    rw [List.all_cons, Bool.and_eq_true] at h
    cases r with
    | int i => rw [nums_vals t h.2]; rfl
    | non => cases h.1
    | bl => cases h.1
    | str => cases h.1
    | lst => cases h.1
    | tup => cases h.1
theorem rgV_int (n : Nat) : rgV 0 (n : Int) = (rangeI n).map V.int := by
  unfold rgV rangeI
  have e : ((n : Int) - 0).toNat = n := by omega
  rw [e, List.map_map]
  refine List.map_congr_left fun i _ => ?_
  show V.int (0 + (i : Int)) = V.int (i : Int)
  rw [Int.zero_add]
theorem rangeI_sorted (n : Nat) : (rangeI n).Pairwise (· ≤ ·) := by
  unfold rangeI
  rw [List.pairwise_map]
  exact List.Pairwise.imp (fun {a b} h => Int.ofNat_le.mpr (Nat.le_of_lt h)) List.pairwise_lt_range
theorem dp_ints {K : PySem.W.Frag} {H : Hp} : ∀ t : List Int, DpAll K H (t.map V.int) (t.map PyData.int)
  | [] => .nil
  | n :: t => .cons (.int _) (dp_ints t)
theorem depth_ints : ∀ t : List Int, PyData.depthAll (t.map PyData.int) = 0
  | [] => rfl
  | n :: t => by
    show max (PyData.depth (.int n)) (PyData.depthAll (t.map PyData.int)) = 0
    rw [depth_ints t]
    rfl
theorem can_ints : ∀ t : List Int, PyData.canLayAll0 (t.map PyData.int) = true
  | [] => rfl
  | n :: t => by
    show (PyData.canLay0 (.int n) && PyData.canLayAll0 (t.map PyData.int)) = true
    rw [can_ints t]
    rfl
theorem sh_ints (t : List Int) : SeqAt.shaped (.list (t.map PyData.int)) = true := by
  show (PyData.canLayAll0 (t.map PyData.int) && decide (PyData.depthAll (t.map PyData.int) + 1 ≤ 64)) = true
  rw [can_ints, depth_ints]
  rfl
theorem eqv_ints (s t : List Int) : PyData.eqv (.list (s.map PyData.int)) (.list (t.map PyData.int)) = decide (s = t) := by
  show PyData.eqvAll (s.map PyData.int) (t.map PyData.int) = _
  refine eqvAll_map (fun x y => ?_) s t
  show (x == y) = decide (x = y)
  by_cases e : x = y
  · subst e; simp
  · rw [decide_eq_false e]
    exact beq_eq_false_iff_ne.mpr e
theorem has_is_permutation (T : Top K mg "is_permutation" s_is_permutation ["value", "size"]) (B : Bi mg) (hN : Has P w K mg base CX0 2 "are_numbers" ["value"] spNums) : Has P w K mg base CX0 3 "is_permutation" ["value", "size"] spPerm := by
  refine T.ok sc_is_permutation (fun vs H Q E h => ?_) (fun f cdv A outer s H vs Q E hr h => ?_)
  · obtain ⟨v, d, n, rfl, _⟩ := h
    rfl
  · obtain ⟨v, d, n, rfl, hd, hl, hn, q⟩ := h
    refine ⟨_, pss_one (ps_ret (pe_and (pe_has hN hr (by rfl) (pa_cons (pv 0) pa_nil))
      (pe_one (pe_cmpR (op_eqD hr.units) (pe_callB cr_sortIT (by rfl) B.sorted PyProof.Rows.boot_sorted (pa_cons (pv 0) pa_nil)) (pe_listRg (by rfl) (by rfl) B.list (prg_1 (by rfl) B.range (pv 1))) (nomark _))))), ?_⟩
    refine ⟨_, rfl, v, d, rfl, hd, (fun ds e => by have := hl ds e; omega), fun H1 s1 => ⟨isNums d, rfl, ite2 (fun h => ?_) (fun h => ?_)⟩⟩
    · cases hd with
      | @tup a xs ds ha hx =>
        have h : ds.all isNum = true := h
        have ex := nums_vals hx h
        have ha1 := ha.sm s1
        rw [ex] at ha1
        have hlen := hl ds rfl
        refine ⟨_, rfl, a, ds.map numOf, rfl, ha1.sq, by rw [List.length_map]; exact hlen, fun ns' p pm so hp => ?_⟩
        refine ⟨_, rfl, n, rfl, .of_le (by omega) (by omega) (by omega) (by omega), fun p2 hp2 => ?_⟩
        have e1 : upd (upd H1 p (.lst (ns'.map V.int))) p2 (.lst (rgV 0 n)) p = some (.lst (ns'.map V.int)) := by
          rw [upd_ne (fun z => by rw [← z, upd_same] at hp2; cases hp2), upd_same]
        refine ⟨.list (ns'.map PyData.int), .list ((rangeI n).map PyData.int), .lst (SqL.of e1) (dp_ints _), .lst (SqL.of (by rw [upd_same, rgV_int])) (dp_ints _), sh_ints _, sh_ints _, ?_⟩
        rw [eqv_ints]
        have e : decide (ns' = rangeI n) = isPermD (.tuple ds) n := by
          have hb : isNums (.tuple ds) = true := h
          unfold isPermD
          rw [hb, Bool.true_and]
          refine decide_eq_decide.mpr ⟨fun e => ?_, fun e => ?_⟩
          · rw [← e]
            exact pm.symm
          · exact List.Perm.eq_of_pairwise (fun x y _ _ h1 h2 => Int.le_antisymm h1 h2) so (rangeI_sorted n) (pm.trans e)
        rw [e]
        exact q _ ((s1.trans (same_new hp)).trans (same_new hp2))
      | non => cases h
      | bl => cases h
      | int => cases h
      | str => cases h
      | lst => cases h
    · have e : false = isPermD d n := by
        unfold isPermD
        have z : isNums d = false := by simpa using h
        rw [z]
        rfl
      show Q (.bl false) H1
      rw [e]
      exact q _ s1
end
end Lt

set_option Elab.async false
set_option linter.all false
set_option maxRecDepth 100000
set_option maxHeartbeats 4000000
namespace Lt
open PySem PySem.Spec PyProof.Rows L2
theorem for_enumT {K : PySem.W.Frag} {a : Addr} {xs : List V} {g : TG} {tb : TS} {D : Ends} {σ : L2.St} {H : Hp} (Pv : Nat → L2.St → Hp → Prop) (h0 : Pv 0 σ H) (hl : ∀ i σ H, i ≤ xs.length → Pv i σ H → SqT K H a xs)
    (hs : ∀ (i : Nat) (x : V) σ H T, xs[i]? = some x → Pv i σ H → H T = none → g (.ref T) σ (upd H T (.tup [nI i, x])) fun σ2 H2 => tb { D with nx := Pv (i + 1), ct := Pv (i + 1), bk := D.nx } σ2 H2) (hd : ∀ σ H, Pv xs.length σ H → D.nx σ H) :
    ∃ W : Nat → Nat → L2.St → Hp → Prop, (∃ m, W 0 m σ H) ∧ ∀ i m σ H, W i m σ H →
      ((Itet K a).stop i H ∧ D.nx σ H) ∨ ((Itet K a).go i H ∧ ∃ N : L2.St → Hp → Prop, (∀ σ' H', N σ' H' → ∃ m', m' < m ∧ W (i + 1) m' σ' H') ∧ ∀ x H', (Itet K a).yld i H x H' → g x σ H' fun σ2 H2 => tb { D with nx := N, ct := N, bk := D.nx } σ2 H2) := by
  refine ⟨fun i m σ H => m = xs.length - i ∧ i ≤ xs.length ∧ Pv i σ H, ⟨xs.length, by simp, Nat.zero_le _, h0⟩, ?_⟩
  rintro i m σ H ⟨rfl, hi, p⟩
  have q := hl i σ H hi p
  by_cases hlt : i < xs.length
  · refine .inr ⟨⟨xs, xs[i], q, by simp [hlt]⟩, Pv (i + 1), fun σ' H' p' => ⟨xs.length - (i + 1), by omega, rfl, hlt, p'⟩, fun x H' y => ?_⟩
    obtain ⟨T, z, rfl, hT, rfl, hz⟩ := y
    exact hs i z σ H T (hz xs q) p hT
  · have e : i = xs.length := by omega
    subst e
    exact .inl ⟨⟨xs, q, rfl⟩, hd σ H p⟩
section
variable {P : Program} {w : World} {K : PySem.W.Frag} {mg : Str → Option Value} {base : Heap}
/-! ### back_of -/
def spBack : Sp := fun vs H Q _ => ∃ (a : V) (t : List Nat) (n : Nat), vs = [a] ∧ TN H a t ∧ IsP n t ∧ n ≤ 1000 ∧ ∀ v H', Same H H' → TK H' v (inv t) → Q v H'
theorem sc_back_of : FnScope ["turn", "led_from", "place", "led"] ["turn"] (defScope s_back_of) := ⟨rfl, rfl, rfl, by decide +kernel, rfl, by decide +kernel, by decide +kernel⟩
theorem rep_zero (n : Nat) : (List.replicate n [V.int 0]).flatten = nIs (List.replicate n 0) := by
  induction n with
  | zero => rfl
  | succ n ih => rw [List.replicate_succ, List.flatten_cons, ih]; rfl
theorem inv_of {n : Nat} {t acc : List Nat} (h : IsP n t) (hl : acc.length = n) (ha : ∀ (j p : Nat), t[j]? = some p → acc[p]? = some j) : acc = inv t := by
  apply List.ext_getElem?
  intro p
  by_cases hp : p < n
  · have hm : p ∈ t := h.mem.mpr hp
    have hj := List.idxOf_lt_length_of_mem hm
    have e := ha (t.idxOf p) p (by rw [List.getElem?_eq_getElem hj, List.getElem_idxOf])
    rw [e]
    unfold inv
    rw [List.getElem?_map, h.len, List.getElem?_range hp]
    rfl
  · rw [List.getElem?_eq_none (by omega), List.getElem?_eq_none (by rw [inv_len, h.len]; omega)]
theorem nIs_set (t : List Nat) (i n : Nat) : (nIs t).set i (nI n) = nIs (t.set i n) := by
  unfold nIs
  rw [List.map_set]
theorem has_back_of (T : Top K mg "back_of" s_back_of ["turn"]) (B : Bi mg) : Has P w K mg base CX0 1 "back_of" ["turn"] spBack := by
  refine T.ok sc_back_of (fun vs H Q E h => ?_) (fun f cdv A outer s H vs Q E hr h => ?_)
  · obtain ⟨a, t, n, rfl, _⟩ := h
    rfl
  · obtain ⟨a, t, n, rfl, ⟨pa, rfl, ea⟩, ht, hn, q⟩ := h
    refine ⟨_, pss_cons (ps_set (i := 1) sc_back_of.nd rfl (Or.inl rfl) (pe_op op_rep (pe_lst (pa_cons pe_int pa_nil)) (pe_callB call_len_seq (by rfl) B.len PySem.boot_len (pa_cons (pv 0) pa_nil))))
      (pss_cons (ps_for PassesOwn.never rfl (pi_enumT (by rfl) B.enumerate (pa_cons (pv 0) pa_nil)) (pg_tup rfl (pgs_cons (pg_name (i := 2) sc_back_of.nd rfl (Or.inl rfl)) (pgs_cons (pg_name (i := 3) sc_back_of.nd rfl (Or.inl rfl)) pgs_nil)))
        (pss_one (ps_asg (pv 2) (pg_sub (pv 1) (pv 3) set_list))))
      (pss_one (ps_ret (pe_tupleOf (by rfl) B.tuple (pv 1))))), ?_⟩
    have hlen := ht.len
    refine ⟨by show 1 ≤ sizeLine; decide, fun l hl => ?_⟩
    have s1 := same_new (o := .lst [V.int 0]) hl
    refine ⟨_, rfl, pa, _, rfl, .inr (ea.sm s1).sq, l, (t.length : Int), [V.int 0], rfl, by rw [nIs_len], upd_same, by omega, by omega, ?_, fun p hp => ?_⟩
    · show 1 * (t.length : Int).toNat ≤ sizeLine
      rw [sizeLine_eq]
      omega
    have s2 : Same H _ := s1.trans (same_new (o := .lst (List.replicate (t.length : Int).toNat [V.int 0]).flatten) hp)
    have hp0 : H p = none := s1.free hp
    refine ⟨_, rfl, pa, _, rfl, (ea.sm s2).sq, for_enumT (K := K) (xs := nIs t) (fun i σ H' => ∃ (acc : List Nat) (x y : Option V), σ = [some (.ref pa), some (.ref p), x, y] ∧ Same H H' ∧ H' p = some (.lst (nIs acc)) ∧ acc.length = n ∧ ∀ (j z : Nat), j < i → t[j]? = some z → acc[z]? = some j)
      ⟨List.replicate n 0, none, none, rfl, s2, ?_, List.length_replicate .., fun j z hj => absurd hj (Nat.not_lt_zero _)⟩ (fun i σ H' _ ⟨_, _, _, _, sm, _⟩ => (ea.sm sm).sq) ?_ ?_⟩
    · rw [upd_same, ← rep_zero, hlen]
      rfl
    · rintro i x σ H' T hi ⟨acc, y2, y3, rfl, sm, hp', hacc, hj⟩ hT
      rw [nIs_get] at hi
      obtain ⟨m, hm, rfl⟩ := Option.map_eq_some_iff.mp hi
      have hmn : m < n := ht.lt m (List.mem_of_getElem? hm)
      have spT : p ≠ T := ne_of_none hp' hT
      have sT := same_new (o := .tup [nI i, nI m]) hT
      refine ⟨T, _, rfl, SqT.of upd_same, rfl, nI i, _, rfl, nI m, _, rfl, rfl, ?_⟩
      refine ⟨_, rfl, _, rfl, _, rfl, p, nIs acc, (m : Int), m, rfl, rfl, sT _ _ hp', ?_, ?_⟩
      · rw [nIs_len, hacc]
        exact Evl.ixN_nat hmn
      · refine ⟨acc.set m i, some (nI i), some (nI m), rfl, same_mut (sm.trans sT) hp0, ?_, by rw [List.length_set]; exact hacc, fun j z hji hz => ?_⟩
        · rw [upd_same, nIs_set]
        · by_cases e : j = i
          · subst e
            rw [hm] at hz
            have hz := Option.some.inj hz
            subst hz
            rw [List.getElem?_set_self (by omega)]
          · have hne : m ≠ z := fun q => e (nd_ix ht.nd hz (q ▸ hm))
            rw [List.getElem?_set_ne hne]
            exact hj j z (by omega) hz
    · rintro σ H' ⟨acc, y2, y3, rfl, sm, hp', hacc, hj⟩
      refine ⟨_, rfl, .inl ⟨p, nIs acc, rfl, SqL.of hp', fun r hr => q _ _ (sm.trans (same_new hr)) (tn_of upd_same ?_)⟩⟩
      rw [inv_of ht hacc fun j z hz => hj j z (by rw [nIs_len]; exact (List.getElem?_eq_some_iff.mp hz).1) hz]
end
end Lt

set_option Elab.async false
set_option linter.all false
set_option maxRecDepth 100000
set_option maxHeartbeats 4000000
namespace Lt
open PySem PySem.Spec PyProof.Rows L2
/-! ### dicts from turns to words -/
def keyN (t : List Nat) : List Key := t.map fun n : Nat => (Sum.inl (Int.ofNat n) : Key)
theorem keyN_inj {s t : List Nat} (h : keyN s = keyN t) : s = t := by
  unfold keyN at h
  exact (List.map_inj_right (fun x y e => by injection e with e; exact Int.ofNat.inj e)).mp h
def DE (H : Hp) (kv : List Key × V) (tw : List Nat × List Nat) : Prop := kv.1 = keyN tw.1 ∧ TN H kv.2 tw.2
def DW (H : Hp) (d : Addr) (L : List (List Nat × List Nat)) : Prop := ∃ kvs, H d = some (.dT kvs) ∧ Paired (DE H) kvs L
theorem DEs.tm {H H' : Hp} (e : Tm H H') : ∀ {kvs : List (List Key × V)} {L : List (List Nat × List Nat)}, Paired (DE H) kvs L → Paired (DE H') kvs L
  | _, _, .nil => .nil
  | _, _, .cons r t => .cons ⟨r.1, r.2.tm e⟩ (DEs.tm e t)
theorem DW.tm {H H' : Hp} {d : Addr} {L : List (List Nat × List Nat)} (h : DW H d L) (e : Tm H H') (ed : H' d = H d) : DW H' d L := let ⟨kvs, h1, h2⟩ := h; ⟨kvs, ed.trans h1, DEs.tm e h2⟩
theorem DW.same {H H' : Hp} {d : Addr} {L : List (List Nat × List Nat)} (h : DW H d L) (e : Same H H') : DW H' d L := let ⟨kvs, h1, h2⟩ := h; ⟨kvs, e _ _ h1, DEs.tm (.of e) h2⟩
theorem dw_none {H : Hp} {t : List Nat} : ∀ {kvs : List (List Key × V)} {L : List (List Nat × List Nat)}, Paired (DE H) kvs L → t ∉ L.map (·.1) → valV kvs (keyN t) = none
  | _, _, .nil, _ => rfl
  | p :: ps, q :: qs, .cons r s, h => by
    have hne : ¬ p.1 = keyN t := fun e => h (by
      rw [List.map_cons]
      rw [r.1] at e
      rw [keyN_inj e]
      exact List.mem_cons_self)
    rw [valV_neg hne]
    exact dw_none s fun m => h (List.mem_cons_of_mem _ m)
theorem dw_some {H : Hp} {t w : List Nat} : ∀ {kvs : List (List Key × V)} {L : List (List Nat × List Nat)}, Paired (DE H) kvs L → (L.map (·.1)).Nodup → (t, w) ∈ L → ∃ v, valV kvs (keyN t) = some v ∧ TN H v w
  | _, _, .nil, _, h => by cases h
  | p :: ps, q :: qs, .cons r s, hn, h => by
    rw [List.map_cons] at hn
    obtain ⟨h1, h2⟩ := List.nodup_cons.mp hn
    rcases List.mem_cons.mp h with e | h
    · subst e
      exact ⟨p.2, valV_pos r.1, r.2⟩
    · have hne : ¬ p.1 = keyN t := fun e => h1 (by
        rw [r.1] at e
        rw [keyN_inj e]
        exact List.mem_map.mpr ⟨_, h, rfl⟩)
      rw [valV_neg hne]
      exact dw_some s h2 h
theorem dw_isSome {H : Hp} {t : List Nat} {kvs : List (List Key × V)} {L : List (List Nat × List Nat)} (p : Paired (DE H) kvs L) (hn : (L.map (·.1)).Nodup) : (valV kvs (keyN t)).isSome = decide (t ∈ L.map (·.1)) := by
  by_cases h : t ∈ L.map (·.1)
  · obtain ⟨⟨t', w⟩, hm, e⟩ := List.mem_map.mp h
    have e : t' = t := e
    subst e
    obtain ⟨v, hv, _⟩ := dw_some p hn hm
    rw [hv, decide_eq_true h]
    rfl
  · rw [dw_none p h, decide_eq_false h]
    rfl
theorem TK.key {H : Hp} {v : V} {t : List Nat} (h : TK H v t) : ∃ b, v = .ref b ∧ H b = some (.tup ((keyN t).map kV)) := by
  obtain ⟨b, e, hb⟩ := h
  exact ⟨b, e, by rw [hb, nIs_key]; rfl⟩
theorem TN.key {H : Hp} {v : V} {t : List Nat} (h : TN H v t) : ∃ b, v = .ref b ∧ RT H b ((keyN t).map kV) := by
  obtain ⟨b, e, hb⟩ := h
  refine ⟨b, e, ?_⟩
  have z : nIs t = (keyN t).map kV := by rw [nIs_key]; rfl
  rw [← z]
  exact hb
theorem LT.tm {H H' : Hp} {a : Addr} {ts : List (List Nat)} (h : LT H a ts) (e : Tm H H') (ea : H' a = H a) : LT H' a ts := let ⟨xs, h1, h2⟩ := h; ⟨xs, ea.trans h1, TNs.tm e h2⟩
/-! ### d[k], k in d: the key to be read -/
def GetR (H : Hp) (a : Addr) (kvs : List (List Key × V)) (k : List Key) (y : V) : Prop := ∃ b, y = .ref b ∧ Rd H a (.dT kvs) ∧ RT H b (k.map kV)
def tDGetR (td ty : TE) : TE := fun σ H Q => td σ H fun x H1 => ty σ H1 fun y H2 => ∃ a v kvs k b, x = .ref a ∧ y = .ref b ∧ Rd H2 a (.dT kvs) ∧ RT H2 b (k.map kV) ∧ valV kvs k = some v ∧ Q v H2
def tDInR (ty td : TE) : TE := fun σ H Q => ty σ H fun y H1 => td σ H1 fun x H2 => ∃ a kvs k b, x = .ref a ∧ y = .ref b ∧ Rd H2 a (.dT kvs) ∧ RT H2 b (k.map kV) ∧ Q (.bl (valV kvs k).isSome) H2
def tDNotInR (ty td : TE) : TE := fun σ H Q => ty σ H fun y H1 => td σ H1 fun x H2 => ∃ a kvs k b, x = .ref a ∧ y = .ref b ∧ Rd H2 a (.dT kvs) ∧ RT H2 b (k.map kV) ∧ Q (.bl (!(valV kvs k).isSome)) H2
theorem key_rd {P : Program} {w : World} {H : Hp} {h : Heap} {ks : List Key} {a : Addr} (ok : HOk P w H h) (e : RT H a (ks.map kV)) : (tupleKind (mixKind P w)).is h ks a := by
  have z : ObjOk P w H h a (.tup (ks.map kV)) := Rd.ok e ok
  obtain ⟨_, its, r, o, h1, h2, n, h3⟩ := z
  exact ⟨o, its.toArray, n, h1, h2, h3, by simpa using items_are r⟩
section
variable {X : Cx} {o i : Expr} {td ty : TE} {pos : Pos}
theorem pc_dinR (hu : X.A.units + 1 < cLine) (hi : PE X i ty) (ho : PE X o td) : PC X .In i o (tDInR ty td) := by
  refine ⟨fun pins s σ H Q I h => ?_⟩
  refine thn (hi.run pins s σ H _ I h) fun iv s1 ⟨y, H1, I1, ry, q1⟩ => thn (ho.run pins s1 σ H1 _ I1 q1) fun u s2 ⟨x, H2, I2, rx, a, kvs, k, b, ex, ey, hd, hb, q2⟩ => ?_
  subst ex ey
  obtain rfl : u = Value.ref a := rx
  obtain rfl : iv = Value.ref b := ry
  obtain ⟨z, hds, xs, rel, dd⟩ := dt_rd I2.hok hd
  refine wpAny_in_heap (tupleKind_room_in1 hu) (key_rd I2.hok hb) hds dd ?_
  have q := (rel.val k).isSome_eq
  rw [Option.isSome_map] at q
  rw [← q]
  exact ⟨.bl (valV kvs k).isSome, H2, I2.tok _, rfl, q2⟩
theorem pe_dgetR (hu : X.A.units + 1 < cLine) (ho : PE X o td) (hi : PE X i ty) (hs : NoSl i) : PE X (.Subscript o i pos) (tDGetR td ty) := by
  refine ⟨fun pins s σ H Q I h => ?_⟩
  refine subD_of PySem.F.slot_dict_getitem.lookup hs (thn (ho.run pins s σ H _ I h) fun u s1 ⟨x, H1, I1, rx, q1⟩ => thn (hi.run pins s1 σ H1 _ I1 q1) fun iv s2 ⟨y, H2, I2, ry, a, v, kvs, k, b, ex, ey, hd, hb, hv, q2⟩ => ?_)
  subst ex ey
  obtain rfl : u = Value.ref a := rx
  obtain rfl : iv = Value.ref b := ry
  obtain ⟨z, hds, xs, rel, dd⟩ := dt_rd I2.hok hd
  obtain ⟨w', hw, rw'⟩ := RelO.some_of (v := v) (o := (atKey xs k).map (·.2)) (by rw [← hv]; exact rel.val k)
  obtain ⟨p, hp, hp2⟩ := Option.map_eq_some_iff.mp hw
  have ht : s2.TypeIs (.ref a) "dict" := by
    obtain ⟨ob, _, _, h1, h2, _⟩ := dd
    exact ⟨ob, h1, h2.1⟩
  refine ⟨ht, wpAny_getItem_heap (tupleKind_room_in1 hu) (key_rd I2.hok hb) dd hp ?_⟩
  rw [hp2]
  exact ⟨v, H2, I2.tok _, rw', q2⟩
end
/-! ### the mirror's turns, maker by maker -/
theorem grow_app (t w : List Nat) : ∀ (xs ys : List (List Nat)) (p : Nat) (L : List (List Nat × List Nat)), grow t w (xs ++ ys) p L = grow t w ys (p + xs.length) (grow t w xs p L)
  | [], _, _, _ => rfl
  | x :: xs, ys, p, L => by
    show grow t w (xs ++ ys) (p + 1) _ = grow t w ys (p + (xs.length + 1)) (grow t w xs (p + 1) _)
    rw [grow_app t w xs ys (p + 1)]
    congr 1
    omega
theorem grow_next {t w : List Nat} {gs : List (List Nat)} {i : Nat} {g : List Nat} (h : gs[i]? = some g) (L : List (List Nat × List Nat)) :
    grow t w (gs.take (i + 1)) 0 L = if prod t g ∈ (grow t w (gs.take i) 0 L).map (·.1) then grow t w (gs.take i) 0 L else grow t w (gs.take i) 0 L ++ [(prod t g, w ++ [i])] := by
  have hl : i < gs.length := (List.getElem?_eq_some_iff.mp h).1
  have e : gs.take (i + 1) = gs.take i ++ [g] := by rw [List.take_add_one, h]; rfl
  rw [e, grow_app, List.length_take, Nat.min_eq_left (Nat.le_of_lt hl), Nat.zero_add]
  rfl
theorem grow_len (t w : List Nat) : ∀ (gs : List (List Nat)) (p : Nat) (L : List (List Nat × List Nat)), (grow t w gs p L).length ≤ L.length + gs.length
  | [], _, L => Nat.le_refl _
  | g :: gs, p, L => by
    have ih := grow_len t w gs (p + 1) (if prod t g ∈ L.map (·.1) then L else L ++ [(prod t g, w ++ [p])])
    show (grow t w gs (p + 1) _).length ≤ L.length + (gs.length + 1)
    split at ih
    · rename_i h
      rw [if_pos h]
      omega
    · rename_i h
      rw [if_neg h]
      rw [List.length_append] at ih
      have e : [(prod t g, w ++ [p])].length = 1 := rfl
      omega
theorem qq_len_le (gs : List (List Nat)) (n k : Nat) : ∀ i, (qq gs n (k + i)).length ≤ (qq gs n k).length + i * gs.length
  | 0 => by rw [Nat.zero_mul]; exact Nat.le_refl _
  | i + 1 => by
    have ih := qq_len_le gs n k i
    have e : (i + 1) * gs.length = i * gs.length + gs.length := Nat.succ_mul _ _
    show (match (qq gs n (k + i))[k + i]? with
      | none => qq gs n (k + i)
      | some (t, w) => grow t w gs 0 (qq gs n (k + i))).length ≤ _
    split
    · omega
    · rename_i t w _
      have := grow_len t w gs 0 (qq gs n (k + i))
      omega
/-- words[turn] + (place,) -/
theorem catA_tn {K : PySem.W.Frag} {H : Hp} {pw p : Addr} {w : List Nat} {j : Nat} {Q : VK} (hw : RT H pw (nIs w)) (hp : H p = some (.tup [nI j])) (hl : w.length ≤ 1000000) (q : ∀ v H', Same H H' → TN H' v (w ++ [j]) → Q v H') : rCatA K (.ref pw) (.ref p) H Q := by
  refine ⟨pw, p, nIs w, [nI j], rfl, rfl, hw.sq, SqT.of hp, ?_, fun e => ?_, fun _ e => (by cases e), fun _ _ p2 hp2 => ?_⟩
  · rw [nIs_len, sizeLine_eq]
    show w.length + 1 ≤ _
    omega
  · have e : w = [] := by
      cases w with
      | nil => rfl
      | cons a w => cases e
    subst e
    exact q _ _ (Same.refl _) ⟨p, rfl, .inl hp⟩
  · refine q _ _ (same_new hp2) ⟨p2, rfl, .inl ?_⟩
    rw [upd_same]
    unfold nIs
    rw [List.map_append]
    rfl
theorem grow_w (t w : List Nat) (m : Nat) : ∀ (gs : List (List Nat)) (p : Nat) (L : List (List Nat × List Nat)), w.length ≤ m → (∀ x ∈ L, x.2.length ≤ m + 1) → ∀ x ∈ grow t w gs p L, x.2.length ≤ m + 1
  | [], _, _, _, h, x, hx => h x hx
  | g :: gs, p, L, hw, h, x, hx => by
    refine grow_w t w m gs (p + 1) _ hw (fun y hy => ?_) x hx
    split at hy
    · exact h y hy
    · rcases List.mem_append.mp hy with z | z
      · exact h y z
      · rw [List.mem_singleton.mp z, List.length_append]
        show w.length + 1 ≤ m + 1
        omega
theorem qq_w (gs : List (List Nat)) (n : Nat) : ∀ k, ∀ x ∈ qq gs n k, x.2.length ≤ k
  | 0, x, h => by
    rw [List.mem_singleton.mp (show x ∈ [(List.range n, ([] : List Nat))] from h)]
    exact Nat.le_refl 0
  | k + 1, x, h => by
    have ih := qq_w gs n k
    have h' : x ∈ (match (qq gs n k)[k]? with
      | none => qq gs n k
      | some (t, w) => grow t w gs 0 (qq gs n k)) := h
    split at h'
    · exact Nat.le_succ_of_le (ih x h')
    · rename_i t w e
      exact grow_w t w k gs 0 _ (ih _ (List.mem_of_getElem? e)) (fun y hy => Nat.le_succ_of_le (ih y hy)) x h'
section
variable {P : Program} {w : World} {K : PySem.W.Frag} {mg : Str → Option Value} {base : Heap}
/-! ### bracket_of -/
def spBracket : Sp := fun vs H Q _ => ∃ (a b : V) (x y : List Nat) (n : Nat), vs = [a, b] ∧ TN H a x ∧ TN H b y ∧ IsP n x ∧ IsP n y ∧ n ≤ 1000 ∧ ∀ v H', Same H H' → TK H' v (prod (prod x y) (inv (prod y x))) → Q v H'
theorem sc_bracket_of : FnScope ["one", "other"] ["one", "other"] (defScope s_bracket_of) := ⟨rfl, rfl, rfl, by decide +kernel, rfl, by decide +kernel, by decide +kernel⟩
theorem pr_call {H : Hp} {a b : V} {x y : List Nat} {n : Nat} {Q : VK} (ha : TN H a x) (hb : TN H b y) (hx : IsP n x) (hy : IsP n y) (hn : n ≤ 1000) (q : ∀ v H', Same H H' → TK H' v (prod x y) → Q v H') : spProd [a, b] H Q E0 :=
  ⟨a, b, x, y, rfl, ha, hb, fun i hi => by rw [hy.len]; exact hx.lt i hi, by rw [hx.len]; exact hn, q⟩
theorem has_bracket_of (T : Top K mg "bracket_of" s_bracket_of ["one", "other"]) (hP : Has P w K mg base CX0 1 "product_of" ["one", "other"] spProd) (hB : Has P w K mg base CX0 1 "back_of" ["turn"] spBack) : Has P w K mg base CX0 2 "bracket_of" ["one", "other"] spBracket := by
  refine T.ok sc_bracket_of (fun vs H Q E h => ?_) (fun f cdv A outer s H vs Q E hr h => ?_)
  · obtain ⟨a, b, x, y, n, rfl, _⟩ := h
    rfl
  · obtain ⟨a, b, x, y, n, rfl, ha, hb, hx, hy, hn, q⟩ := h
    refine ⟨_, pss_one (ps_ret (pe_has hP hr (by rfl) (pa_cons (pe_has hP hr (by rfl) (pa_cons (pv 0) (pa_cons (pv 1) pa_nil))) (pa_cons (pe_has hB hr (by rfl) (pa_cons (pe_has hP hr (by rfl) (pa_cons (pv 1) (pa_cons (pv 0) pa_nil))) pa_nil)) pa_nil)))), ?_⟩
    refine ⟨_, rfl, _, rfl, pr_call ha hb hx hy hn fun u H1 s1 hu => ?_⟩
    refine ⟨_, rfl, _, rfl, pr_call (hb.tm (.of s1)) (ha.tm (.of s1)) hy hx hn fun u2 H2 s2 hu2 => ?_⟩
    refine ⟨u2, _, n, rfl, hu2.tn, hy.prod hx, hn, fun u3 H3 s3 hu3 => ?_⟩
    exact pr_call (hu.tm (.of (s2.trans s3))).tn hu3.tn (hx.prod hy) (hy.prod hx).inv hn fun u4 H4 s4 hu4 => q _ _ (((s1.trans s2).trans s3).trans s4) hu4
/-! ### words_of -/
def Cn (mg : Str → Option Value) (x : Str) (i : Int) : Prop := ∃ t, mg x = some (.int i t)
def Wd (gs : List (List Nat)) (n : Nat) (L : List (List Nat × List Nat)) : Prop := ∃ a, L = qq gs n a ∧ a ≤ L.length ∧ (L.length = a ∨ 240 < L.length)
def spWords : Sp := fun vs H Q _ => ∃ (ms : V) (gs : List (List Nat)) (n : Nat), vs = [ms, nI n] ∧ TT H ms gs ∧ (∀ g ∈ gs, IsP n g) ∧ n ≤ 1000 ∧ gs.length ≤ 1000 ∧
  ∀ d H' L, Same H H' → H d = none → DW H' d L → Wd gs n L → Q (.ref d) H'
theorem sc_words_of : FnScope ["makers", "size", "still", "words", "level", "longer", "turn", "place", "maker", "led"] ["makers", "size"] (defScope s_words_of) := ⟨rfl, rfl, rfl, by decide +kernel, rfl, by decide +kernel, by decide +kernel⟩
/-- the state at the while: behind a positions -/
structure WS (H0 : Hp) (ms st : V) (n : Nat) (gs : List (List Nat)) (d : Addr) (a : Nat) (σ : L2.St) (H : Hp) : Prop where
  sl : ∃ lv x5 x6 x7 x8 x9, σ = [some ms, some (nI n), some st, some (.ref d), some (.ref lv), x5, x6, x7, x8, x9] ∧ LT H lv (((qq gs n a).map (·.1)).drop a)
  sm : Same H0 H
  dw : DW H d (qq gs n a)
  le : a ≤ (qq gs n a).length
  le2 : a ≤ 240
theorem qq_step {gs : List (List Nat)} {n a i : Nat} {M : List (List Nat × List Nat)} (e : qq gs n (a + i) = qq gs n a ++ M) {t w : List Nat} (h : (qq gs n a)[a + i]? = some (t, w)) : qq gs n (a + i + 1) = grow t w gs 0 (qq gs n (a + i)) := by
  have z : (qq gs n (a + i))[a + i]? = some (t, w) := by
    rw [e, List.getElem?_append_left (List.getElem?_eq_some_iff.mp h).1]
    exact h
  show (match (qq gs n (a + i))[a + i]? with
    | none => qq gs n (a + i)
    | some (t, w) => grow t w gs 0 (qq gs n (a + i))) = _
  rw [z]
theorem has_words_of (T : Top K mg "words_of" s_words_of ["makers", "size"]) (B : Bi mg) (C : Cn mg "MOST_TURNS" 240) (hS : Has P w K mg base CX0 1 "still_of" ["size"] spStill) (hP : Has P w K mg base CX0 1 "product_of" ["one", "other"] spProd) :
    Has P w K mg base CX0 2 "words_of" ["makers", "size"] spWords := by
  refine T.ok sc_words_of (fun vs H Q E h => ?_) (fun f cdv A outer s H vs Q E hr h => ?_)
  · obtain ⟨ms, gs, n, rfl, _⟩ := h
    rfl
  · obtain ⟨ms, gs, n, rfl, hms, hg, hn, hgl, q⟩ := h
    obtain ⟨tk, hC⟩ := C
    have hu := hu_of hr
    refine ⟨_, pss_cons (ps_set (i := 2) sc_words_of.nd rfl (Or.inl rfl) (pe_has hS hr (by rfl) (pa_cons (pv 1) pa_nil)))
      (pss_cons (ps_set (i := 3) sc_words_of.nd rfl (Or.inl rfl) (pe_dispT hu (pv 2) (pe_tup pa_nil)))
      (pss_cons (ps_set (i := 4) sc_words_of.nd rfl (Or.inl rfl) (pe_lst (pa_cons (pv 2) pa_nil)))
      (pss_cons (ps_while PassesOwn.never (PW.pt (pw_and (pt_truth (pv 4) (by intro _; rfl)) (pw_and1 (pt_cmpR op_le (pe_callB call_len_dT (by rfl) B.len PySem.boot_len (pa_cons (pv 3) pa_nil)) (pe_glob (v := .int 240) rfl hC ⟨_, rfl⟩) (nomark _)))))
        (pss_cons (ps_set (i := 5) sc_words_of.nd rfl (Or.inl rfl) (pe_lst pa_nil))
        (pss_cons (ps_for PassesOwn.never rfl (pi_list (pv 4)) (pg_name (i := 6) sc_words_of.nd rfl (Or.inl rfl))
          (pss_one (ps_for PassesOwn.never rfl (pi_enumT (by rfl) B.enumerate (pa_cons (pv 0) pa_nil)) (pg_tup rfl (pgs_cons (pg_name (i := 7) sc_words_of.nd rfl (Or.inl rfl)) (pgs_cons (pg_name (i := 8) sc_words_of.nd rfl (Or.inl rfl)) pgs_nil)))
            (pss_cons (ps_set (i := 9) sc_words_of.nd rfl (Or.inl rfl) (pe_has hP hr (by rfl) (pa_cons (pv 6) (pa_cons (pv 8) pa_nil))))
            (pss_one (ps_if (pt_cmp (pc_dnotin hu (pv 9) (pv 3)))
              (pss_cons (ps_dput hu (pv 3) (pv 9) (pe_op op_catA (pe_dgetR hu (pv 3) (pv 6) (fun _ _ => rfl)) (pe_tup (pa_cons (pv 7) pa_nil))) rfl)
              (pss_one (ps_expr (pe_bm PySem.F.plainAttrs_list PySem.F.slot_list_append PySem.F.type_list_append mt_append (pv 5) (pa_cons (pv 9) pa_nil)))))
              pss_nil))))))
        (pss_one (ps_set (i := 4) sc_words_of.nd rfl (Or.inl rfl) (pv 5))))))
      (pss_one (ps_ret (pv 3)))))), ?_⟩
    refine ⟨_, rfl, n, rfl, hn, fun st H1 s1 hst => ?_⟩
    refine fun d hd => ⟨_, rfl, ⟨Nat.zero_le _, fun p hp => ?_⟩⟩
    have hpd : p ≠ d := fun z => by rw [z, upd_same] at hp; cases hp
    have s2 : Same H1 (upd (upd H1 d (.dT [])) p (.tup [])) := (same_new hd).trans (same_new hp)
    obtain ⟨b, ebv, hb⟩ := (hst.tm (.of s2)).key
    subst ebv
    refine ⟨b, keyN (List.range n), rfl, by rw [upd_ne hpd.symm, upd_same], hb, ?_⟩
    refine ⟨_, rfl, by show 1 ≤ sizeLine; decide, fun lv hlv => ?_⟩
    have hd0 : H d = none := s1.free hd
    have s3 : Same H1 (upd (upd (upd H1 d (.dT [])) p (.tup [])) d (.dT [(keyN (List.range n), .ref p)])) := same_mut s2 hd
    have s4 : Same H1 (upd (upd (upd (upd H1 d (.dT [])) p (.tup [])) d (.dT [(keyN (List.range n), .ref p)])) lv (.lst [.ref b])) := s3.trans (same_new hlv)
    have hdl : d ≠ lv := fun z => by rw [← z, upd_same] at hlv; cases hlv
    have hpl : p ≠ lv := fun z => by rw [← z, upd_ne hpd, upd_same] at hlv; cases hlv
    have hst' : TN (upd (upd (upd (upd H1 d (.dT [])) p (.tup [])) d (.dT [(keyN (List.range n), .ref p)])) lv (.lst [.ref b])) (.ref b) (List.range n) := (hst.tm (.of s4)).tn
    refine ⟨fun m σ H' => ∃ a, m = 240 - a ∧ WS H ms (.ref b) n gs d a σ H', ⟨240, 0, rfl, ⟨⟨lv, none, none, none, none, none, rfl, [.ref b], upd_same, .cons hst' .nil⟩, s1.trans s4, ⟨[(keyN (List.range n), .ref p)], by rw [upd_ne hdl, upd_same], .cons ⟨rfl, p, rfl, .inl ?_⟩ .nil⟩, Nat.zero_le _, Nat.zero_le _⟩⟩, ?_⟩
    · rw [upd_ne hpl, upd_ne hpd, upd_same]
      rfl
    rintro m σ H' ⟨a, rfl, ⟨⟨lv, x5, x6, x7, x8, x9, rfl, xs, hlv', hxs⟩, sm, dw, le, le2⟩⟩
    have ret : (qq gs n a).length = a ∨ 240 < (qq gs n a).length → Q (.ref d) H' := fun h => q d H' _ sm hd0 dw ⟨a, rfl, le, h⟩
    have hxl : xs.length = (qq gs n a).length - a := by
      rw [Paired.length hxs, List.length_drop, List.length_map]
    refine ⟨_, rfl, !xs.isEmpty, .inl ⟨xs, SqL.of hlv', rfl⟩, ?_⟩
    refine ite2 (fun h => ?_) (fun h => ?_)
    rotate_left
    · refine iteF ⟨_, rfl, ret (.inl ?_)⟩
      cases xs with
      | nil => simp at hxl; omega
      | cons x xs => exact absurd rfl h
    obtain ⟨kvs, hkv, pkv⟩ := dw
    have hkl : kvs.length = (qq gs n a).length := Paired.length pkv
    refine ⟨_, rfl, d, kvs, rfl, hkv, _, _, rfl, rfl, _, rfl, ite2 (fun h2 => ?_) (fun h2 => ?_)⟩
    rotate_left
    · have h2 : ¬ ((kvs.length : Int) ≤ 240) := fun z => h2 (decide_eq_true z)
      exact ⟨_, rfl, ret (.inr (by omega))⟩
    have h2 : (kvs.length : Int) ≤ 240 := of_decide_eq_true h2
    have hpos : a < (qq gs n a).length := by
      cases xs with
      | nil => simp at h
      | cons x xs => rw [List.length_cons] at hxl; omega
    refine ⟨fun σ2 H2 => WS H ms (.ref b) n gs d (qq gs n a).length σ2 H2, fun σ2 H2 hw => ⟨240 - (qq gs n a).length, by omega, _, rfl, hw⟩, ?_⟩
    -- longer = []
    refine ⟨Nat.zero_le _, fun lg hlg => ?_⟩
    have hlg0 : H lg = none := sm.free hlg
    have sl := same_new (o := .lst []) hlg
    obtain ⟨pm, mxs, rfl, hpm, hmx⟩ := hms
    have hlvg : lv ≠ lg := ne_of_none hlv' hlg
    have hdg : d ≠ lg := ne_of_none hkv hlg
    have hlv0 : ∀ H2 : Hp, Same H' H2 → H2 lv = some (.lst xs) := fun H2 s => s _ _ hlv'
    refine ⟨_, rfl, lv, rfl, ⟨_, SqL.of (sl _ _ hlv')⟩, for_list (K := K) (a := lv) (xs := xs)
      (fun i σ2 H2 => ∃ y6 y7 y8 y9 M, σ2 = [some (.ref pm), some (nI n), some (.ref b), some (.ref d), some (.ref lv), some (.ref lg), y6, y7, y8, y9] ∧ Same H H2 ∧ qq gs n (a + i) = qq gs n a ++ M ∧ DW H2 d (qq gs n (a + i)) ∧ LT H2 lg (M.map (·.1)) ∧ H2 lv = some (.lst xs) ∧ Paired (TN H2) xs (((qq gs n a).map (·.1)).drop a))
      ⟨x6, x7, x8, x9, [], rfl, sm.trans sl, by rw [List.append_nil]; rfl, DW.same ⟨kvs, hkv, pkv⟩ sl, ⟨[], upd_same, .nil⟩, sl _ _ hlv', TNs.tm (.of sl) hxs⟩
      (fun i σ2 H2 _ ⟨_, _, _, _, _, _, _, _, _, _, h, _⟩ => SqL.of h) ?_ ?_⟩
    · rintro i x σ2 H2 hi ⟨y6, y7, y8, y9, M, rfl, sm2, eM, dw2, lt2, hlv2, hx2⟩
      obtain ⟨t, ht, htn⟩ := Paired.getL hx2 hi
      rw [List.getElem?_drop, List.getElem?_map] at ht
      obtain ⟨⟨t', w'⟩, hq, et⟩ := Option.map_eq_some_iff.mp ht
      have et : t' = t := et
      subst et
      have hstep := qq_step eM hq
      have htP : IsP n t' := Mk.isP hg (qq_mk gs n a t' (List.mem_map.mpr ⟨_, List.mem_of_getElem? hq, rfl⟩))
      refine ⟨_, rfl, pm, _, rfl, SqT.of (sm2 _ _ hpm), for_enumT (K := K) (xs := mxs)
        (fun j σ3 H3 => ∃ z7 z8 z9 M', σ3 = [some (.ref pm), some (nI n), some (.ref b), some (.ref d), some (.ref lv), some (.ref lg), some x, z7, z8, z9] ∧ Same H H3 ∧ grow t' w' (gs.take j) 0 (qq gs n (a + i)) = qq gs n a ++ M' ∧ DW H3 d (qq gs n a ++ M') ∧ LT H3 lg (M'.map (·.1)) ∧ H3 lv = some (.lst xs) ∧ Paired (TN H3) xs (((qq gs n a).map (·.1)).drop a))
        ⟨y7, y8, y9, M, rfl, sm2, eM, by rw [← eM]; exact dw2, lt2, hlv2, hx2⟩ (fun j σ3 H3 _ ⟨_, _, _, _, _, s, _⟩ => SqT.of (s _ _ hpm)) ?_ ?_⟩
      · rintro j y σ3 H3 T hj ⟨z7, z8, z9, M', rfl, sm3, eM', dw3, ⟨gz, hgz, pgz⟩, hlv3, hx3⟩ hT
        obtain ⟨g, hgj, hyg⟩ := Paired.getL hmx hj
        have hgP := hg g (List.mem_of_getElem? hgj)
        have sT := same_new (o := .tup [nI j, y]) hT
        refine ⟨T, _, rfl, SqT.of upd_same, rfl, nI j, _, rfl, y, _, rfl, rfl, ?_⟩
        obtain ⟨t2, ht2, htn3⟩ := Paired.getL hx3 hi
        rw [List.getElem?_drop, List.getElem?_map, hq] at ht2
        have ht2 : t' = t2 := Option.some.inj ht2
        subst ht2
        refine ⟨_, rfl, _, rfl, pr_call (htn3.tm (.of sT)) (hyg.tm (.of (sm3.trans sT))) htP hgP hn fun v H4 s4 hv => ?_⟩
        have s34 : Same H3 H4 := sT.trans s4
        have hvP := htP.prod hgP
        obtain ⟨b1, rfl, hb1⟩ := hv.key
        obtain ⟨kv4, hk4, pk4⟩ := dw3.same s34
        have hgz4 := s34 _ _ hgz
        have pgz4 := TNs.tm (.of s34) pgz
        have hlv4 := s34 _ _ hlv3
        have hx4 := TNs.tm (.of s34) hx3
        have hnd : ((qq gs n a ++ M').map (·.1)).Nodup := by rw [← eM']; exact grow_nd _ _ _ _ _ (qq_nd gs n (a + i))
        have hnx := grow_next (t := t') (w := w') hgj (qq gs n (a + i))
        rw [eM'] at hnx
        have sm4 : Same H H4 := sm3.trans s34
        refine ⟨_, rfl, _, rfl, d, _, rfl, DGet.t hk4 hb1, _, rfl, ?_⟩
        rw [dw_isSome pk4 hnd]
        by_cases hin : prod t' g ∈ (qq gs n a ++ M').map (·.1)
        · rw [if_pos hin] at hnx
          rw [decide_eq_true hin]
          exact iteF ⟨_, _, _, M', rfl, sm4, hnx, ⟨kv4, hk4, pk4⟩, ⟨gz, hgz4, pgz4⟩, hlv4, hx4⟩
        · rw [if_neg hin] at hnx
          rw [decide_eq_false hin]
          refine iteT ?_
          have hmem : (t', w') ∈ qq gs n a ++ M' := List.mem_append.mpr (.inl (List.mem_of_getElem? hq))
          obtain ⟨wv, hwv, hwn⟩ := dw_some pk4 hnd hmem
          obtain ⟨b2, rfl, hb2⟩ := (htn3.tm (.of s34)).key
          obtain ⟨pw, rfl, hpw⟩ := hwn
          have hwl : w'.length ≤ 240 := Nat.le_trans (qq_w gs n a _ (List.mem_of_getElem? hq)) le2
          refine ⟨_, rfl, _, rfl, d, .ref pw, kv4, _, _, rfl, rfl, .inl hk4, hb2, hwv, _, rfl, by show 1 ≤ sizeLine; decide, fun p hp => ?_⟩
          have s5 := same_new (o := .tup [nI j]) hp
          refine catA_tn (hpw.sm s5) upd_same (by omega) fun v5 H5 s6 hv5 => ?_
          have s45 := s5.trans s6
          have hk5 := s45 _ _ hk4
          have hkl4 : kv4.length = (grow t' w' (gs.take j) 0 (qq gs n (a + i))).length := by rw [Paired.length pk4, ← eM']
          have hsz : kv4.length ≤ 1000000 := by
            have h0 := grow_len t' w' (gs.take j) 0 (qq gs n (a + i))
            have h1 := qq_len_le gs n a i
            have h3 : i ≤ 240 := by
              have := (List.getElem?_eq_some_iff.mp hq).1
              omega
            have h4 : i * gs.length ≤ 240 * 1000 := Nat.mul_le_mul h3 hgl
            rw [List.length_take] at h0
            omega
          refine ⟨_, rfl, _, rfl, d, _, rfl, DPut.t hk5 (s45 _ _ hb1) (by rw [sizeLine_eq]; omega), ?_⟩
          rw [putK_new v5 (dw_none pk4 hin)]
          have t6 : Tm H5 (upd H5 d (.dT (kv4 ++ [(keyN (prod t' g), v5)]))) := Tm.dT hk5
          have hg6 : (upd H5 d (.dT (kv4 ++ [(keyN (prod t' g), v5)]))) lg = some (.lst gz) := by
            rw [upd_ne (ne_of hgz4 hk4 (fun z => nomatch z))]
            exact s45 _ _ hgz4
          have hgzl : gz.length ≤ kv4.length := by
            rw [Paired.length pgz, Paired.length pk4, List.length_map, List.length_append]
            omega
          refine ⟨_, rfl, .inl ⟨rfl, _, SqL.of hg6⟩, _, rfl, lg, _, _, rfl, rfl, hg6, by rw [sizeLine_eq]; omega, ?_⟩
          have t7 := Tm.lst (o := .lst (gz ++ [.ref b1])) hg6
          have tt := (Tm.of s45).trans (t6.trans t7)
          refine ⟨_, _, _, M' ++ [(prod t' g, w' ++ [j])], rfl, ?_, ?_, ⟨kv4 ++ [(keyN (prod t' g), v5)], ?_, ?_⟩, ⟨gz ++ [.ref b1], upd_same, ?_⟩, ?_, TNs.tm tt hx4⟩
          · exact same_mut (same_mut (sm4.trans s45) hd0) hlg0
          · rw [hnx, List.append_assoc]
          · rw [upd_ne hdg, upd_same]
          · rw [← List.append_assoc]
            exact Paired.app (DEs.tm tt pk4) (Paired.one ⟨rfl, hv5.tm (t6.trans t7)⟩)
          · rw [List.map_append]
            exact Paired.app (TNs.tm tt pgz4) (Paired.one (hv.tn.tm tt))
          · rw [upd_ne hlvg, upd_ne (ne_of hlv4 hk4 (fun z => nomatch z))]
            exact s45 _ _ hlv4
      · rintro σ3 H3 ⟨z7, z8, z9, M', rfl, sm3, eM', dw3, lt3, hlv3, hx3⟩
        have e : gs.take mxs.length = gs := by rw [Paired.length hmx, List.take_length]
        rw [e] at eM'
        refine ⟨_, _, _, _, M', rfl, sm3, ?_, ?_, lt3, hlv3, hx3⟩
        · show qq gs n (a + i + 1) = _
          rw [hstep, eM']
        · show DW H3 d (qq gs n (a + i + 1))
          rw [hstep, eM']
          exact dw3
    · rintro σ2 H2 ⟨y6, y7, y8, y9, M, rfl, sm2, eM, dw2, lt2, hlv2, hx2⟩
      have e : a + xs.length = (qq gs n a).length := by omega
      rw [e] at eM dw2
      refine ⟨_, rfl, ⟨⟨lg, _, _, _, _, _, rfl, ?_⟩, sm2, dw2, ?_, by omega⟩⟩
      · rw [eM, List.map_append, List.drop_append_of_le_length (by rw [List.length_map]; exact Nat.le_refl _), List.drop_of_length_le (by rw [List.length_map]; exact Nat.le_refl _), List.nil_append]
        exact lt2
      · rw [eM, List.length_append]
        omega
end
end Lt

set_option Elab.async false
set_option linter.all false
set_option maxRecDepth 100000
set_option maxHeartbeats 4000000
namespace Lt
open PySem PySem.Spec PyProof.Rows L2
/-! ### what is a lock -/
def lenOf : PyData → Nat
  | .tuple ds => ds.length
  | _ => 0
def firstBad : List PyData → Nat → Nat → Option Nat
  | [], _, _ => none
  | d :: ds, n, i => if isPermD d n = true then firstBad ds n (i + 1) else some i
def lockBad : PyData → Option (Option Nat)
  | .tuple ds => if 1 ≤ ds.length ∧ ds.length ≤ 4 then (if isTup (ds.headD .none) = true ∧ 2 ≤ lenOf (ds.headD .none) ∧ lenOf (ds.headD .none) ≤ 9 then (firstBad ds (lenOf (ds.headD .none)) 0).map some else some (some 0)) else some none
  | _ => some none
def plV : Option Nat → V
  | none => .non
  | some i => nI i
def Sml (d : PyData) : Prop := ∀ ds, d = .tuple ds → ds.length ≤ 1000 ∧ ∀ e ∈ ds, ∀ es, e = .tuple es → es.length < 64
section
variable {P : Program} {w : World} {K : PySem.W.Frag} {mg : Str → Option Value} {base : Heap} {CL CM CT : Addr}
/-! ### check_lock -/
def spCheck (CL : Addr) : Sp := fun vs H Q E => ∃ (v : V) (d : PyData), vs = [v] ∧ Rp H v d ∧ Sml d ∧ (lockBad d = none → ∀ H', Same H H' → Q .non H') ∧ ∀ pl, lockBad d = some pl → BadF CL "place" (plV pl) H E
theorem sc_check_lock : FnScope ["lock", "place", "given"] ["lock"] (defScope s_check_lock) := ⟨rfl, rfl, rfl, by decide +kernel, rfl, by decide +kernel, by decide +kernel⟩
theorem has_check_lock (T : Top K mg "check_lock" s_check_lock ["lock"]) (B : Bi mg) (X1 : ErrI P w K mg base "BadLock" "place" CL) (C1 : Cn mg "MOST_GIVEN" 4) (C2 : Cn mg "FEWEST_PLACES" 2) (C3 : Cn mg "MOST_PLACES" 9)
    (hP : Has P w K mg base CX0 3 "is_permutation" ["value", "size"] spPerm) : Has P w K mg base (L2.CX P w) 4 "check_lock" ["lock"] (spCheck CL) := by
  refine T.okX sc_check_lock (fun vs H Q E h => ?_) (fun f cdv A outer s H vs Q E hr h => ?_)
  · obtain ⟨v, d, rfl, _⟩ := h
    rfl
  · obtain ⟨v, d, rfl, hd, hs, qg, qb⟩ := h
    obtain ⟨t1, e1⟩ := C1
    obtain ⟨t2, e2⟩ := C2
    obtain ⟨t3, e3⟩ := C3
    have hr2 : Room 2 _ := hr.mono (by decide)
    refine ⟨_, pss_cons (ps_if (PW.pt (pw_or (pt_not (pt_val (pe_callB call_isi (by rfl) B.isinstance PyProof.Rows.boot_isinstance (pa_cons (pv 0) (pa_cons (pe_bltn (by rfl) B.tuple PyProof.Rows.boot_tuple (rr_ty "tuple")) pa_nil)))))
          (pw_or1 (pt_not (pt_chain op_le op_le pe_int (pe_callB call_len_seq (by rfl) B.len PySem.boot_len (pa_cons (pv 0) pa_nil)) (pe_glob (v := .int 4) rfl e1 ⟨_, rfl⟩))))))
        (pss_one (ps_raise rfl (takes_of rfl rfl rfl rfl) (pmk_errI X1 hr2 (by rfl) (pa_cons pe_non pa_nil)))) pss_nil)
      (pss_cons (ps_if (PW.pt (pw_or (pt_not (pt_val (pe_callB call_isi (by rfl) B.isinstance PyProof.Rows.boot_isinstance (pa_cons (pe_ix ix_tup (pv 0) pe_int (fun _ _ => rfl)) (pa_cons (pe_bltn (by rfl) B.tuple PyProof.Rows.boot_tuple (rr_ty "tuple")) pa_nil)))))
          (pw_or1 (pt_not (pt_chain op_le op_le (pe_glob (v := .int 2) rfl e2 ⟨_, rfl⟩) (pe_callB call_len_seq (by rfl) B.len PySem.boot_len (pa_cons (pe_ix ix_tup (pv 0) pe_int (fun _ _ => rfl)) pa_nil)) (pe_glob (v := .int 9) rfl e3 ⟨_, rfl⟩))))))
        (pss_one (ps_raise rfl (takes_of rfl rfl rfl rfl) (pmk_errI X1 hr2 (by rfl) (pa_cons pe_int pa_nil)))) pss_nil)
      (pss_one (ps_for (passes_of rfl) rfl (pi_enumT (by rfl) B.enumerate (pa_cons (pv 0) pa_nil)) (pg_tup rfl (pgs_cons (pg_name (i := 1) sc_check_lock.nd rfl (Or.inl rfl)) (pgs_cons (pg_name (i := 2) sc_check_lock.nd rfl (Or.inl rfl)) pgs_nil)))
        (pss_one (ps_if (pt_not (pt_val (pe_has hP hr (by rfl) (pa_cons (pv 2) (pa_cons (pe_callB call_len_seq (by rfl) B.len PySem.boot_len (pa_cons (pe_ix ix_tup (pv 0) pe_int (fun _ _ => rfl)) pa_nil)) pa_nil)))))
          (pss_one (ps_raise rfl (takes_of rfl rfl rfl rfl) (pmk_errI X1 hr2 (by rfl) (pa_cons (pv 1) pa_nil)))) pss_nil))))), ?_⟩
    have bad : ∀ {pl : Option Nat} {H' : Hp}, lockBad d = some pl → Same H H' → BadF CL "place" (plV pl) H' E := fun e s => (qb _ e).same s
    by_cases hT : isTup d = true
    rotate_left
    · have e : lockBad d = some none := by cases d <;> first | rfl | exact absurd rfl hT
      have hF : isTup d = false := by simpa using hT
      refine ⟨_, rfl, v, .ty "tuple", _, _, isTup d, rfl, .ty _, rp_ty hd, kit_ty (kit_tup d), isTup d, rfl, ?_⟩
      rw [hF]
      exact mk_read X1.oex X1.no (bad e (Same.refl _))
    cases hd with
    | non => cases hT
    | bl => cases hT
    | int => cases hT
    | str => cases hT
    | lst => cases hT
    | @tup a xs ds ha hx =>
      have hxl := hx.len
      obtain ⟨hs1, hs2⟩ := hs ds rfl
      refine ⟨_, rfl, .ref a, .ty "tuple", _, _, true, rfl, .ty _, rp_ty (.tup ha hx), kit_ty (kit_tup (.tuple ds)), true, rfl, iteF ?_⟩
      have none_of : ¬ (1 ≤ ds.length ∧ ds.length ≤ 4) → lockBad (.tuple ds) = some none := fun h => by
        show (if 1 ≤ ds.length ∧ ds.length ≤ 4 then _ else _) = _
        rw [if_neg h]
      refine ⟨_, rfl, a, xs, rfl, .inr (ha.sq), 1, (xs.length : Int), rfl, rfl, _, rfl, ite2 (fun h1 => ⟨_, _, rfl, rfl, _, rfl, ite2 (fun h2 => ?_) (fun h2 => ?_)⟩) (fun h1 => ⟨_, rfl, ?_⟩)⟩
      · have h2 : ¬ ((xs.length : Int) ≤ 4) := fun z => by rw [decide_eq_true z] at h2; cases h2
        exact mk_read X1.oex X1.no (bad (none_of (by omega)) (Same.refl _))
      rotate_left
      · have h1 : ¬ ((1 : Int) ≤ (xs.length : Int)) := fun z => h1 (decide_eq_true z)
        exact mk_read X1.oex X1.no (bad (none_of (by omega)) (Same.refl _))
      have h2 : (xs.length : Int) ≤ 4 := by
        by_cases z : (xs.length : Int) ≤ 4
        · exact z
        · rw [decide_eq_false z] at h2
          exact absurd rfl h2
      have h1 : (1 : Int) ≤ (xs.length : Int) := of_decide_eq_true h1
      have hlen : 1 ≤ ds.length ∧ ds.length ≤ 4 := ⟨by omega, by omega⟩
      -- the first given turn
      cases hx with
      | nil => exact absurd hlen.1 (by decide)
      | @cons x xr dd dr r0 rr =>
      have hx : RpAll H (x :: xr) (dd :: dr) := .cons r0 rr
      have eLB : lockBad (.tuple (dd :: dr)) = if isTup dd = true ∧ 2 ≤ lenOf dd ∧ lenOf dd ≤ 9 then (firstBad (dd :: dr) (lenOf dd) 0).map some else some (some 0) := by
        show (if 1 ≤ (dd :: dr).length ∧ (dd :: dr).length ≤ 4 then _ else _) = _
        rw [if_pos hlen]
        rfl
      have zero_of : ¬ (isTup dd = true ∧ 2 ≤ lenOf dd ∧ lenOf dd ≤ 9) → lockBad (.tuple (dd :: dr)) = some (some 0) := fun h => by rw [eLB, if_neg h]
      have at0 : atI (x :: xr) 0 = some x := atI_nat (j := 0) rfl
      refine ⟨_, rfl, a, _, 0, x, rfl, rfl, ha.sq, at0, x, .ty "tuple", _, _, isTup dd, rfl, .ty _, rp_ty r0, kit_ty (kit_tup dd), isTup dd, rfl, ?_⟩
      by_cases hT2 : isTup dd = true
      rotate_left
      · have hF : isTup dd = false := by simpa using hT2
        rw [hF]
        exact mk_read (v := .int 0) X1.oex X1.no (bad (zero_of fun z => hT2 z.1) (Same.refl _))
      rw [hT2]
      refine iteF ?_
      cases r0 with
      | non => cases hT2
      | bl => cases hT2
      | int => cases hT2
      | str => cases hT2
      | lst => cases hT2
      | @tup b ys es hb hy =>
      have hyl := hy.len
      refine ⟨_, rfl, a, _, 0, .ref b, rfl, rfl, ha.sq, at0, b, ys, rfl, .inr (hb.sq), 2, (ys.length : Int), rfl, rfl, _, rfl, ite2 (fun h3 => ⟨_, _, rfl, rfl, _, rfl, ite2 (fun h4 => ?_) (fun h4 => ?_)⟩) (fun h3 => ⟨_, rfl, ?_⟩)⟩
      · have h4 : ¬ ((ys.length : Int) ≤ 9) := fun z => by rw [decide_eq_true z] at h4; cases h4
        exact mk_read (v := .int 0) X1.oex X1.no (bad (zero_of fun z => h4 (by have := z.2.2; show (ys.length : Int) ≤ 9; rw [hyl]; exact Int.ofNat_le.mpr this)) (Same.refl _))
      rotate_left
      · have h3 : ¬ ((2 : Int) ≤ (ys.length : Int)) := fun z => h3 (decide_eq_true z)
        exact mk_read (v := .int 0) X1.oex X1.no (bad (zero_of fun z => h3 (by have := z.2.1; show (2 : Int) ≤ (ys.length : Int); rw [hyl]; exact Int.ofNat_le.mpr this)) (Same.refl _))
      have h4 : (ys.length : Int) ≤ 9 := by
        by_cases z : (ys.length : Int) ≤ 9
        · exact z
        · rw [decide_eq_false z] at h4
          exact absurd rfl h4
      have h3 : (2 : Int) ≤ (ys.length : Int) := of_decide_eq_true h3
      rw [if_pos ⟨rfl, by show 2 ≤ es.length; omega, by show es.length ≤ 9; omega⟩] at eLB
      have eLB : lockBad (.tuple (.tuple es :: dr)) = (firstBad (.tuple es :: dr) es.length 0).map some := eLB
      refine ⟨_, rfl, a, _, rfl, ha.sq, for_enumT (K := K) (xs := .ref b :: xr) (fun i σ H' => ∃ y z, σ = [some (.ref a), y, z] ∧ Same H H' ∧ firstBad (.tuple es :: dr) es.length 0 = firstBad ((.tuple es :: dr).drop i) es.length i)
        ⟨none, none, rfl, Same.refl _, rfl⟩ (fun i σ H' _ ⟨_, _, _, s, _⟩ => (ha.sm s).sq) ?_ ?_⟩
      · rintro i u σ H' T hi ⟨y, z, rfl, sm, hfb⟩ hTn
        obtain ⟨du, hdu, hru⟩ := hx.get hi
        have sT := same_new (o := .tup [nI i, u]) hTn
        have sm' := sm.trans sT
        have hdrop : (PyData.tuple es :: dr).drop i = du :: (PyData.tuple es :: dr).drop (i + 1) := by
          obtain ⟨hl, e⟩ := List.getElem?_eq_some_iff.mp hdu
          rw [List.drop_eq_getElem_cons hl, e]
        rw [hdrop] at hfb
        refine ⟨T, _, rfl, SqT.of upd_same, rfl, nI i, _, rfl, u, _, rfl, rfl, ?_⟩
        refine ⟨_, rfl, _, rfl, a, _, 0, .ref b, rfl, rfl, (ha.sm sm').sq, at0, b, ys, rfl, .inr ((hb.sm sm').sq), u, du, es.length, by rw [hyl]; rfl, Rp.same sm' _ _ hru, fun es' e => ?_, by omega, fun H2 s2 => ?_⟩
        · exact hs2 du (List.mem_of_getElem? hdu) es' e
        refine ⟨isPermD du es.length, rfl, ?_⟩
        by_cases hp : isPermD du es.length = true
        · rw [hp]
          refine iteF ⟨_, _, rfl, sm'.trans s2, ?_⟩
          rw [hfb]
          show (if isPermD du es.length = true then _ else _) = _
          rw [if_pos hp]
        · have hF : isPermD du es.length = false := by simpa using hp
          rw [hF]
          refine iteT ⟨_, rfl, mk_read X1.oex X1.no (bad (pl := some i) ?_ (sm'.trans s2))⟩
          rw [eLB, hfb]
          rw [show firstBad (du :: List.drop (i + 1) (PyData.tuple es :: dr)) es.length i = some i from if_neg hp]
          rfl
      · rintro σ H' ⟨y, z, rfl, sm, hfb⟩
        refine qg ?_ H' sm
        rw [eLB, hfb, List.drop_of_length_le (by rw [hxl]; exact Nat.le_refl _)]
        rfl
end
end Lt

set_option Elab.async false
set_option linter.all false
set_option maxRecDepth 100000
set_option maxHeartbeats 4000000
namespace Lt
open PySem PySem.Spec PyProof.Rows L2
def GL (ls : List (List Nat)) (n : Nat) : Prop := 1 ≤ ls.length ∧ ls.length ≤ 4 ∧ 2 ≤ n ∧ n ≤ 9 ∧ ∀ g ∈ ls, IsP n g
/-- the argument lock: no lock, too great a one, or a lock of which k -/
def LockIn (CL CM : Addr) (v : V) (H : Hp) (E : XK) (k : List (List Nat) → Nat → Prop) : Prop := ∃ d, Rp H v d ∧ Sml d ∧ (∀ pl, lockBad d = some pl → BadF CL "place" (plV pl) H E) ∧
  (lockBad d = none → ∃ ls n, TT H v ls ∧ GL ls n ∧ (∀ L, Wd ls n L → 240 < L.length → BadF CM "most" (.int 240) H E) ∧ k ls n)
theorem LockIn.imp {CL CM : Addr} {v : V} {H : Hp} {E : XK} {k k' : List (List Nat) → Nat → Prop} (h : LockIn CL CM v H E k) (i : ∀ ls n, TT H v ls → GL ls n → k ls n → k' ls n) : LockIn CL CM v H E k' := by
  obtain ⟨d, h1, h2, h3, h4⟩ := h
  refine ⟨d, h1, h2, h3, fun e => ?_⟩
  obtain ⟨ls, n, a, b, c, q⟩ := h4 e
  exact ⟨ls, n, a, b, c, i ls n a b q⟩
theorem numsOf_dT (t : List Nat) : numsOf (dT t) = t.map Int.ofNat := by
  show (t.map dN).map numOf = _
  rw [List.map_map]
  rfl
theorem isNums_dT (t : List Nat) : isNums (dT t) = true := by
  show (t.map dN).all isNum = true
  rw [List.all_map]
  exact List.all_eq_true.mpr fun _ _ => rfl
theorem ofNat_inj : ∀ x y : Nat, Int.ofNat x = Int.ofNat y → x = y := fun _ _ e => Int.ofNat.inj e
theorem perm_ofNat {a b : List Nat} (h : (a.map Int.ofNat).Perm (b.map Int.ofNat)) : a.Perm b := by
  have z := h.map Int.toNat
  rw [List.map_map, List.map_map] at z
  have e : ∀ l : List Nat, l.map (Int.toNat ∘ Int.ofNat) = l := fun l => (List.map_congr_left (g := id) fun _ _ => rfl).trans (List.map_id l)
  rw [e, e] at z
  exact z
theorem isPermD_dT (t : List Nat) (n : Nat) : isPermD (dT t) n = decide (IsP n t) := by
  unfold isPermD
  rw [isNums_dT, Bool.true_and, numsOf_dT]
  exact decide_eq_decide.mpr ⟨fun h => perm_ofNat h, fun h => List.Perm.map _ h⟩
theorem firstBad_good {n : Nat} : ∀ (ls : List (List Nat)) (i : Nat), (∀ g ∈ ls, IsP n g) → firstBad (ls.map dT) n i = none
  | [], _, _ => rfl
  | g :: ls, i, h => by
    show (if isPermD (dT g) n = true then firstBad (ls.map dT) n (i + 1) else some i) = none
    rw [isPermD_dT, decide_eq_true (h g List.mem_cons_self), if_pos rfl]
    exact firstBad_good ls (i + 1) fun x hx => h x (List.mem_cons_of_mem _ hx)
theorem lockBad_good {ls : List (List Nat)} {n : Nat} (h : GL ls n) : lockBad (.tuple (ls.map dT)) = none := by
  obtain ⟨h1, h2, h3, h4, h5⟩ := h
  cases ls with
  | nil => exact absurd h1 (by decide)
  | cons g ls =>
    have hg := (h5 g List.mem_cons_self).len
    show (if 1 ≤ ((g :: ls).map dT).length ∧ ((g :: ls).map dT).length ≤ 4 then (if isTup (dT g) = true ∧ 2 ≤ lenOf (dT g) ∧ lenOf (dT g) ≤ 9 then (firstBad ((g :: ls).map dT) (lenOf (dT g)) 0).map some else some (some 0)) else some none) = none
    have e : lenOf (dT g) = n := by
      show (g.map dN).length = n
      rw [List.length_map, hg]
    rw [if_pos ⟨by rw [List.length_map]; exact h1, by rw [List.length_map]; exact h2⟩, e, if_pos ⟨rfl, h3, h4⟩, firstBad_good _ _ h5]
    rfl
theorem sml_good {ls : List (List Nat)} {n : Nat} (h : GL ls n) : Sml (.tuple (ls.map dT)) := by
  obtain ⟨h1, h2, h3, h4, h5⟩ := h
  intro ds e
  injection e with e
  subst e
  refine ⟨by rw [List.length_map]; omega, fun x hx es ee => ?_⟩
  obtain ⟨g, hg, rfl⟩ := List.mem_map.mp hx
  injection ee with ee
  subst ee
  rw [List.length_map, (h5 g hg).len]
  omega
theorem Few.wd {ls : List (List Nat)} {n m : Nat} (h : Few ls n m) (hm : m ≤ 240) {L : List (List Nat × List Nat)} (hL : Wd ls n L) : ∃ a, L = Lt.qq ls n a ∧ L.length = a ∧ L.length ≤ m := by
  obtain ⟨a, rfl, h1, h2⟩ := hL
  have h3 := h.qq a
  exact ⟨a, rfl, by omega, h3⟩
theorem lockIn_good {CL CM : Addr} {v : V} {H : Hp} {E : XK} {k : List (List Nat) → Nat → Prop} {ls : List (List Nat)} {n m : Nat} (ht : TT H v ls) (hg : GL ls n) (hf : Few ls n m) (hm : m ≤ 240) (q : k ls n) : LockIn CL CM v H E k :=
  ⟨_, ht.rp, sml_good hg, fun pl e => (by rw [lockBad_good hg] at e; cases e), fun _ => ⟨ls, n, ht, hg, fun L hL h => by
    obtain ⟨a, _, _, z⟩ := hf.wd hm hL
    omega, q⟩⟩
theorem TT.head {H : Hp} {v : V} {ls : List (List Nat)} {n : Nat} (h : TT H v ls) (hg : GL ls n) : ∃ a xs b, v = .ref a ∧ H a = some (.tup xs) ∧ Paired (TN H) xs ls ∧ atI xs 0 = some (.ref b) ∧ ∃ t, RT H b (nIs t) ∧ t.length = n := by
  obtain ⟨a, xs, rfl, ha, p⟩ := h
  cases p with
  | nil => exact absurd hg.1 (by decide)
  | @cons x t xr tr r rr =>
    obtain ⟨b, rfl, hb⟩ := r
    exact ⟨a, _, b, rfl, ha, .cons ⟨b, rfl, hb⟩ rr, atI_nat (j := 0) rfl, t, hb, (hg.2.2.2.2 t List.mem_cons_self).len⟩
section
variable {P : Program} {w : World} {K : PySem.W.Frag} {mg : Str → Option Value} {base : Heap} {CL CM CT : Addr}
/-! ### made_words -/
def spMade (CL CM : Addr) : Sp := fun vs H Q E => ∃ v, vs = [v] ∧ LockIn CL CM v H E (fun ls n => ∀ d H' L, Same H H' → H d = none → DW H' d L → Wd ls n L → L.length ≤ 240 → Q (.ref d) H')
theorem sc_made_words : FnScope ["lock", "made"] ["lock"] (defScope s_made_words) := ⟨rfl, rfl, rfl, by decide +kernel, rfl, by decide +kernel, by decide +kernel⟩
theorem has_made_words (T : Top K mg "made_words" s_made_words ["lock"]) (B : Bi mg) (X2 : ErrI P w K mg base "TooMany" "most" CM) (C1 : Cn mg "MOST_TURNS" 240)
    (hC : Has P w K mg base (L2.CX P w) 4 "check_lock" ["lock"] (spCheck CL)) (hW : Has P w K mg base CX0 2 "words_of" ["makers", "size"] spWords) : Has P w K mg base (L2.CX P w) 5 "made_words" ["lock"] (spMade CL CM) := by
  refine T.okX sc_made_words (fun vs H Q E h => ?_) (fun f cdv A outer s H vs Q E hr h => ?_)
  · obtain ⟨v, rfl, _⟩ := h
    rfl
  · obtain ⟨v, rfl, d, hd, hs, hb, hg⟩ := h
    obtain ⟨t1, e1⟩ := C1
    have hr2 : Room 2 _ := hr.mono (by decide)
    refine ⟨_, pss_cons (ps_expr (pe_hasX (E := E) hC hr (by rfl) (passes_call (takes_of rfl rfl rfl rfl) (fun _ _ _ _ h => h)) (pa_cons (pv 0) pa_nil)))
      (pss_cons (ps_set (i := 1) sc_made_words.nd rfl (Or.inl rfl) (pe_has hW hr2 (by rfl) (pa_cons (pv 0) (pa_cons (pe_callB call_len_seq (by rfl) B.len PySem.boot_len (pa_cons (pe_ix ix_tup (pv 0) pe_int (fun _ _ => rfl)) pa_nil)) pa_nil))))
      (pss_cons (ps_if (pt_cmpR op_gt (pe_callB call_len_dT (by rfl) B.len PySem.boot_len (pa_cons (pv 1) pa_nil)) (pe_glob (v := .int 240) rfl e1 ⟨_, rfl⟩) (nomark _))
        (pss_one (ps_raise rfl (takes_of rfl rfl rfl rfl) (pmk_errI X2 hr2 (by rfl) (pa_cons (pe_glob (v := .int 240) rfl e1 ⟨_, rfl⟩) pa_nil)))) pss_nil)
      (pss_one (ps_ret (pv 1))))), ?_⟩
    refine ⟨_, rfl, v, d, rfl, hd, hs, fun eg H1 s1 => ?_, hb⟩
    obtain ⟨ls, n, ht, hgl, hM, q⟩ := hg eg
    have ht1 := ht.tm (.of s1)
    obtain ⟨a, xs, b, rfl, ha, hp, h0, t, hbt, htl⟩ := ht1.head hgl
    refine ⟨_, rfl, _, rfl, a, xs, 0, .ref b, rfl, rfl, SqT.of ha, h0, b, _, rfl, .inr (hbt.sq), .ref a, ls, n, by rw [nIs_len, htl]; rfl, ht1, hgl.2.2.2.2, by have := hgl.2.2.2.1; omega, by have := hgl.2.1; omega, fun dd H2 L s2 hdd hdw hwd => ?_⟩
    obtain ⟨kvs, hk, pk⟩ := hdw
    have s12 := s1.trans s2
    refine ⟨_, rfl, dd, kvs, rfl, hk, _, _, rfl, rfl, _, rfl, ite2 (fun h => ?_) (fun h => ?_)⟩
    · have h : (240 : Int) < (kvs.length : Int) := of_decide_eq_true h
      have hl : kvs.length = L.length := Paired.length pk
      exact mk_read X2.oex X2.no ((hM L hwd (by omega)).same s12)
    · have h : ¬ ((240 : Int) < (kvs.length : Int)) := fun z => h (decide_eq_true z)
      have hl : kvs.length = L.length := Paired.length pk
      exact ⟨_, rfl, q dd H2 L s12 (s1.free hdd) ⟨kvs, hk, pk⟩ hwd (by omega)⟩
/-! ### is_turn, are_turns, check_turn -/
def keyI (ns : List Int) : List Key := ns.map Sum.inl
theorem keyN_I (t : List Nat) : keyN t = keyI (t.map Int.ofNat) := by
  unfold keyN keyI
  rw [List.map_map]
  rfl
theorem keyI_inj {s t : List Int} (h : keyI s = keyI t) : s = t := by
  unfold keyI at h
  exact (List.map_inj_right (fun x y e => by injection e)).mp h
abbrev numL (L : List (List Nat × List Nat)) : List (List Int) := L.map fun x : List Nat × List Nat => x.1.map Int.ofNat
theorem dw_isSomeK {H : Hp} {ns : List Int} : ∀ {kvs : List (List Key × V)} {L : List (List Nat × List Nat)}, Paired (DE H) kvs L → (valV kvs (keyI ns)).isSome = decide (ns ∈ numL L)
  | _, _, .nil => by simp [valV_nil]
  | p :: ps, q :: qs, .cons r s => by
    have ep : p.1 = keyI (q.1.map Int.ofNat) := by rw [r.1, keyN_I]
    show _ = decide (ns ∈ (q.1.map Int.ofNat) :: numL qs)
    by_cases e : p.1 = keyI ns
    · have e2 : q.1.map Int.ofNat = ns := keyI_inj (ep.symm.trans e)
      rw [valV_pos e, e2, decide_eq_true List.mem_cons_self]
      rfl
    · rw [valV_neg e, dw_isSomeK s]
      refine decide_eq_decide.mpr ⟨fun h => List.mem_cons_of_mem _ h, fun h => ?_⟩
      rcases List.mem_cons.mp h with z | z
      · rw [z] at e
        exact absurd ep e
      · exact z
def isTurnD (L : List (List Nat × List Nat)) (d : PyData) : Bool := isNums d && decide (numsOf d ∈ numL L)
theorem isTurnD_dT (L : List (List Nat × List Nat)) (t : List Nat) : isTurnD L (dT t) = decide (t ∈ L.map (·.1)) := by
  unfold isTurnD
  rw [isNums_dT, Bool.true_and, numsOf_dT]
  refine decide_eq_decide.mpr ⟨fun h => ?_, fun h => ?_⟩
  · obtain ⟨x, hx, e⟩ := List.mem_map.mp h
    rw [← (List.map_inj_right ofNat_inj).mp e]
    exact List.mem_map.mpr ⟨x, hx, rfl⟩
  · obtain ⟨x, hx, e⟩ := List.mem_map.mp h
    exact List.mem_map.mpr ⟨x, hx, by rw [e]⟩
def spIsTurn : Sp := fun vs H Q _ => ∃ (m : Addr) (L : List (List Nat × List Nat)) (v : V) (d : PyData), vs = [.ref m, v] ∧ DW H m L ∧ Rp H v d ∧ (∀ ds, d = .tuple ds → ds.length ≤ 1000) ∧ ∀ H', Same H H' → Q (.bl (isTurnD L d)) H'
theorem sc_is_turn : FnScope ["made", "value"] ["made", "value"] (defScope s_is_turn) := ⟨rfl, rfl, rfl, by decide +kernel, rfl, by decide +kernel, by decide +kernel⟩
theorem has_is_turn (T : Top K mg "is_turn" s_is_turn ["made", "value"]) (hN : Has P w K mg base CX0 2 "are_numbers" ["value"] spNums) : Has P w K mg base CX0 3 "is_turn" ["made", "value"] spIsTurn := by
  refine T.ok sc_is_turn (fun vs H Q E h => ?_) (fun f cdv A outer s H vs Q E hr h => ?_)
  · obtain ⟨m, L, v, d, rfl, _⟩ := h
    rfl
  · obtain ⟨m, L, v, d, rfl, hw, hd, hl, q⟩ := h
    have hu := hu_of hr
    refine ⟨_, pss_one (ps_ret (pe_and (pe_has hN hr (by rfl) (pa_cons (pv 1) pa_nil)) (pe_one (pe_cmp (pc_dinR hu (pv 1) (pv 0)) (by rfl))))), ?_⟩
    refine ⟨_, rfl, v, d, rfl, hd, hl, fun H1 s1 => ⟨isNums d, rfl, ite2 (fun h => ?_) (fun h => ?_)⟩⟩
    · cases hd with
      | @tup a xs ds ha hx =>
        have h : ds.all isNum = true := h
        have ha1 := ha.sm s1
        rw [nums_vals hx h] at ha1
        have ha2 : RT H1 a ((keyI (ds.map numOf)).map kV) := by unfold keyI; rw [kV_ints]; exact ha1
        obtain ⟨kvs, hk, pk⟩ := hw.same s1
        refine ⟨_, rfl, _, rfl, m, kvs, _, a, rfl, rfl, .inl hk, ha2, ?_⟩
        rw [dw_isSomeK pk]
        have e : decide (ds.map numOf ∈ numL L) = isTurnD L (.tuple ds) := by
          unfold isTurnD
          rw [show isNums (.tuple ds) = true from h, Bool.true_and]
          rfl
        rw [e]
        exact q _ s1
      | non => cases h
      | bl => cases h
      | int => cases h
      | str => cases h
      | lst => cases h
    · have e : false = isTurnD L d := by
        unfold isTurnD
        have z : isNums d = false := by simpa using h
        rw [z]
        rfl
      show Q (.bl false) H1
      rw [e]
      exact q _ s1
def areTurnsD (L : List (List Nat × List Nat)) : PyData → Bool
  | .tuple ds => ds.all (isTurnD L)
  | _ => false
def spAreTurns : Sp := fun vs H Q _ => ∃ (m : Addr) (L : List (List Nat × List Nat)) (v : V) (d : PyData), vs = [.ref m, v] ∧ DW H m L ∧ Rp H v d ∧ Sml d ∧ ∀ H', Same H H' → Q (.bl (areTurnsD L d)) H'
theorem sc_are_turns : FnScope ["made", "value", "turn"] ["made", "value"] (defScope s_are_turns) := ⟨rfl, rfl, rfl, by decide +kernel, rfl, by decide +kernel, by decide +kernel⟩
theorem has_are_turns (T : Top K mg "are_turns" s_are_turns ["made", "value"]) (B : Bi mg) (hT : Has P w K mg base CX0 3 "is_turn" ["made", "value"] spIsTurn) : Has P w K mg base CX0 4 "are_turns" ["made", "value"] spAreTurns := by
  refine T.ok sc_are_turns (fun vs H Q E h => ?_) (fun f cdv A outer s H vs Q E hr h => ?_)
  · obtain ⟨m, L, v, d, rfl, _⟩ := h
    rfl
  · obtain ⟨m, L, v, d, rfl, hw, hd, hs, q⟩ := h
    refine ⟨_, pss_one (ps_ret (pe_and (pe_callB call_isi (by rfl) B.isinstance PyProof.Rows.boot_isinstance (pa_cons (pv 1) (pa_cons (pe_bltn (by rfl) B.tuple PyProof.Rows.boot_tuple (rr_ty "tuple")) pa_nil)))
      (pe_one (pe_callB (cr_all (by rfl)) (by rfl) B.all PyProof.Rows.boot_all (pa_cons (pe_lc (own := [("turn", 2)]) (g := gName 2) (te := tCall spIsTurn [] E0 (tCons (tVar 0) (tCons (tVar 2) tNil))) (by rfl) sc_are_turns.nd (pi_tup (pv 1)) (blkOk_by (own := [("turn", 2)]) (N := ["made", "value", "turn"]) (sc := defScope s_are_turns) (by decide +kernel))
        (fun _ _ _ _ _ => pg_name (i := 2) sc_are_turns.nd rfl (Or.inl rfl)) (fun _ _ _ _ _ => pts_nil) (fun _ _ _ _ _ => pe_has hT hr (by rfl) (pa_cons (pv 0) (pa_cons (pv 2) pa_nil)))) pa_nil))))), ?_⟩
    refine ⟨_, rfl, v, .ty "tuple", _, _, isTup d, rfl, .ty _, rp_ty hd, kit_ty (kit_tup d), isTup d, rfl, ite2 (fun h => ?_) (fun h => ?_)⟩
    · cases hd with
      | @tup a xs ds ha hx =>
        obtain ⟨hl, hl2⟩ := hs ds rfl
        have hxl := hx.len
        refine ⟨_, rfl, a, rfl, ⟨_, ha.sq⟩, fun D hD => lc_tupM (fun _ v b => v = V.bl b) (ds.map (isTurnD L)) (fun _ _ _ _ _ r => r) ha.sq (fun H' sm => (ha.sm sm).sq) (by omega) (by rw [List.length_map, hxl]) hD (fun x => rfl) (fun i v n hi hn H' sm Q' q' => ?_) (fun H' zs sm hz pr => ?_)⟩
        · obtain ⟨d, e1, e2⟩ := hx.get hi
          rw [List.getElem?_map, e1] at hn
          have hn : isTurnD L d = n := Option.some.inj hn
          refine ⟨_, rfl, _, rfl, m, L, v, d, rfl, hw.same sm, Rp.same sm d _ e2, fun es e => ?_, fun H2 s2 => q' _ _ s2 (by rw [hn])⟩
          have := hl2 d (List.mem_of_getElem? e1) es e
          omega
        · refine ⟨D, ds.map (isTurnD L), rfl, SqL.of (by rw [hz, bls_of pr]), ?_⟩
          have e : (ds.map (isTurnD L)).all id = areTurnsD L (.tuple ds) := by rw [List.all_map]; rfl
          rw [e]
          exact q _ sm
      | non => cases h
      | bl => cases h
      | int => cases h
      | str => cases h
      | lst => cases h
    · have e : false = areTurnsD L d := by cases d <;> first | rfl | exact absurd rfl h
      show Q (.bl false) H
      rw [e]
      exact q _ (Same.refl _)
def spCheckTurn (CT : Addr) : Sp := fun vs H Q E => ∃ (m : Addr) (L : List (List Nat × List Nat)) (v : V) (d : PyData), vs = [.ref m, v] ∧ DW H m L ∧ Rp H v d ∧ (∀ ds, d = .tuple ds → ds.length ≤ 1000) ∧ (isTurnD L d = true → ∀ H', Same H H' → Q .non H') ∧ (isTurnD L d = false → Bad0 CT H E)
theorem sc_check_turn : FnScope ["made", "turn"] ["made", "turn"] (defScope s_check_turn) := ⟨rfl, rfl, rfl, by decide +kernel, rfl, by decide +kernel, by decide +kernel⟩
theorem has_check_turn (T : Top K mg "check_turn" s_check_turn ["made", "turn"]) (X3 : Err0 K mg "BadTurn" CT) (hT : Has P w K mg base CX0 3 "is_turn" ["made", "value"] spIsTurn) : Has P w K mg base (L2.CX P w) 4 "check_turn" ["made", "turn"] (spCheckTurn CT) := by
  refine T.okX sc_check_turn (fun vs H Q E h => ?_) (fun f cdv A outer s H vs Q E hr h => ?_)
  · obtain ⟨m, L, v, d, rfl, _⟩ := h
    rfl
  · obtain ⟨m, L, v, d, rfl, hw, hd, hl, qg, qb⟩ := h
    refine ⟨_, pss_one (ps_if (pt_not (pt_val (pe_has hT hr (by rfl) (pa_cons (pv 0) (pa_cons (pv 1) pa_nil)))))
      (pss_one (ps_raise rfl (takes_of rfl rfl rfl rfl) (pmk_err0 X3 (by rfl)))) pss_nil), ?_⟩
    refine ⟨_, rfl, _, rfl, m, L, v, d, rfl, hw, hd, hl, fun H1 s1 => ⟨isTurnD L d, rfl, ?_⟩⟩
    cases hb : isTurnD L d with
    | true => exact iteF (qg hb _ s1)
    | false => exact iteT (qb hb _ s1)
end
end Lt

set_option Elab.async false
set_option linter.all false
set_option maxRecDepth 100000
set_option maxHeartbeats 4000000
namespace Lt
open PySem PySem.Spec PyProof.Rows L2
/-! ### ascending -/
def iN (t : List Nat) : List Int := t.map Int.ofNat
def cd (t : List Nat) : Int := TS.code 9 (iN t)
def Asc (ts : List (List Nat)) : Prop := ts.Pairwise fun x y => cd x ≤ cd y
theorem iN_len (t : List Nat) : (iN t).length = t.length := List.length_map ..
theorem iN_inj {s t : List Nat} (h : iN s = iN t) : s = t := (List.map_inj_right ofNat_inj).mp h
theorem bd_iN {n : Nat} {t : List Nat} (h : IsP n t) (hn : n ≤ 9) : TS.Bd 9 (iN t) := fun m hm => by
  obtain ⟨i, hi, rfl⟩ := List.mem_map.mp hm
  have := h.lt i hi
  exact ⟨Int.natCast_nonneg i, by show (i : Int) < 9; omega⟩
theorem code_inj : ∀ {x y : List Int}, x.length = y.length → TS.Bd 9 x → TS.Bd 9 y → TS.code 9 x = TS.code 9 y → x = y
  | [], [], _, _, _, _ => rfl
  | [], _ :: _, h, _, _, _ => by cases h
  | _ :: _, [], h, _, _, _ => by cases h
  | a :: x, b :: y, h, hx, hy, e => by
    have hl : x.length = y.length := Nat.succ.inj h
    rcases Int.lt_trichotomy a b with z | z | z
    · have := TS.code_lt hl hx.tail hy.tail z
      omega
    · subst z
      have e2 : TS.code 9 x = TS.code 9 y := by
        have e' : a * 9 ^ x.length + TS.code 9 x = a * 9 ^ y.length + TS.code 9 y := e
        rw [hl] at e'
        omega
      rw [code_inj hl hx.tail hy.tail e2]
    · have := TS.code_lt hl.symm hy.tail hx.tail z
      omega
theorem cd_inj {n : Nat} {s t : List Nat} (hs : IsP n s) (ht : IsP n t) (hn : n ≤ 9) (e : cd s = cd t) : s = t :=
  iN_inj (code_inj (by rw [iN_len, iN_len, hs.len, ht.len]) (bd_iN hs hn) (bd_iN ht hn) e)
/-- an ascending list is told by its members -/
theorem asc_one {n : Nat} {a b : List (List Nat)} (hn : n ≤ 9) (ha : ∀ t ∈ a, IsP n t) (p : a.Perm b) (h1 : Asc a) (h2 : Asc b) : a = b :=
  List.Perm.eq_of_pairwise (fun x y hx hy e1 e2 => cd_inj (ha x hx) (ha y (p.mem_iff.mpr hy)) hn (Int.le_antisymm e1 e2)) h1 h2 p
/-- a lock that is asked of -/
structure Good (H : Hp) (v : V) (ls : List (List Nat)) (n : Nat) : Prop where
  tt : TT H v ls
  gl : GL ls n
  few : Few ls n 63
theorem Good.tm {H H' : Hp} {v : V} {ls : List (List Nat)} {n : Nat} (h : Good H v ls n) (e : Tm H H') : Good H' v ls n := ⟨h.tt.tm e, h.gl, h.few⟩
theorem Good.same {H H' : Hp} {v : V} {ls : List (List Nat)} {n : Nat} (h : Good H v ls n) (e : Same H H') : Good H' v ls n := h.tm (.of e)
theorem Good.isP {H : Hp} {v : V} {ls : List (List Nat)} {n : Nat} (h : Good H v ls n) {t : List Nat} (m : Mk ls n t) : IsP n t := m.isP h.gl.2.2.2.2
theorem Good.mem {H : Hp} {v : V} {ls : List (List Nat)} {n : Nat} (h : Good H v ls n) (t : List Nat) : t ∈ (LL ls n).map (·.1) ↔ Mk ls n t := LL_mem h.few (by omega) t
section
variable {P : Program} {w : World} {K : PySem.W.Frag} {mg : Str → Option Value} {base : Heap} {CL CM CT : Addr}
theorem Good.wd {H : Hp} {v : V} {ls : List (List Nat)} {n : Nat} (g : Good H v ls n) {L : List (List Nat × List Nat)} (hL : Wd ls n L) : L = LL ls n := by
  obtain ⟨a, e1, e2, _⟩ := g.few.wd (by omega) hL
  rw [e1] at e2 ⊢
  exact LL_of g.few (by omega) e2
theorem tlen {t : List Nat} {m : Nat} (h : t.length ≤ m) : ∀ ds, dT t = .tuple ds → ds.length ≤ m := fun ds e => by
  injection e with e
  subst e
  rw [List.length_map]
  exact h
theorem isTurn_mk {H : Hp} {v : V} {ls : List (List Nat)} {n : Nat} (g : Good H v ls n) (t : List Nat) : (isTurnD (LL ls n) (dT t) = true ↔ Mk ls n t) := by
  rw [isTurnD_dT, decide_eq_true_iff]
  exact g.mem t
theorem isTurn_no {H : Hp} {v : V} {ls : List (List Nat)} {n : Nat} (g : Good H v ls n) {t : List Nat} (e : isTurnD (LL ls n) (dT t) = false) : ¬ Mk ls n t := fun z => by
  rw [(isTurn_mk g t).mpr z] at e
  cases e
/-! ### all_turns -/
def spAll (CL CM : Addr) : Sp := fun vs H Q E => ∃ v, vs = [v] ∧ LockIn CL CM v H E (fun ls n => ∀ L, Wd ls n L → L.length ≤ 240 → L.length < 64 ∧ ∀ r H' ts, Same H H' → TT H' r ts → ts.Perm (L.map (·.1)) → Asc ts → Q r H')
theorem sc_all_turns : FnScope ["lock"] ["lock"] (defScope s_all_turns) := ⟨rfl, rfl, rfl, by decide +kernel, rfl, by decide +kernel, by decide +kernel⟩
theorem keysI {H : Hp} {kvs : List (List Key × V)} {L : List (List Nat × List Nat)} (p : Paired (DE H) kvs L) : kvs.map (·.1) = (numL L).map fun k => k.map Sum.inl := by
  induction p with
  | nil => rfl
  | cons r _ ih =>
    rw [List.map_cons, ih, r.1, keyN_I]
    rfl
theorem wd_isP {ls : List (List Nat)} {n : Nat} (hg : ∀ g ∈ ls, IsP n g) {L : List (List Nat × List Nat)} (h : Wd ls n L) : ∀ x ∈ L, IsP n x.1 := fun x hx => by
  obtain ⟨a, rfl, _⟩ := h
  exact (qq_mk ls n a x.1 (List.mem_map.mpr ⟨x, hx, rfl⟩)).isP hg
/-- the bases of sorted ints are turns -/
theorem turns_back {L : List (List Nat × List Nat)} : ∀ {ks : List (List Int)}, (∀ k ∈ ks, k ∈ numL L) → ∃ ts : List (List Nat), ks = ts.map iN
  | [], _ => ⟨[], rfl⟩
  | k :: ks, h => by
    obtain ⟨x, _, e⟩ := List.mem_map.mp (h k List.mem_cons_self)
    obtain ⟨ts, e2⟩ := turns_back fun y hy => h y (List.mem_cons_of_mem _ hy)
    exact ⟨x.1 :: ts, by rw [e2, List.map_cons, ← e]; rfl⟩
theorem perm_iN {a b : List (List Nat)} (h : (a.map iN).Perm (b.map iN)) : a.Perm b := by
  have z := h.map fun k : List Int => k.map Int.toNat
  rw [List.map_map, List.map_map] at z
  have e : ∀ l : List (List Nat), l.map ((fun k : List Int => k.map Int.toNat) ∘ iN) = l := fun l => (List.map_congr_left (g := id) fun t _ => by
    show (t.map Int.ofNat).map Int.toNat = t
    rw [List.map_map]
    exact (List.map_congr_left (g := id) fun _ _ => rfl).trans (List.map_id t)).trans (List.map_id l)
  rw [e, e] at z
  exact z
theorem tns_of {H : Hp} : ∀ {bs : List Addr} {ts : List (List Nat)}, Paired (fun (b : Addr) k => H b = some (.tup (k.map V.int))) bs (ts.map iN) → Paired (TN H) (bs.map V.ref) ts
  | [], [], .nil => .nil
  | b :: bs, t :: ts, .cons r s => .cons ⟨b, rfl, .inl (by rw [r, nIs_int]; rfl)⟩ (tns_of s)
theorem has_all_turns (T : Top K mg "all_turns" s_all_turns ["lock"]) (B : Bi mg) (hM : Has P w K mg base (L2.CX P w) 5 "made_words" ["lock"] (spMade CL CM)) : Has P w K mg base (L2.CX P w) 6 "all_turns" ["lock"] (spAll CL CM) := by
  refine T.okX sc_all_turns (fun vs H Q E h => ?_) (fun f cdv A outer s H vs Q E hr h => ?_)
  · obtain ⟨v, rfl, _⟩ := h
    rfl
  · obtain ⟨v, rfl, hl⟩ := h
    obtain ⟨n, hn1, hl⟩ : ∃ n, 1 ≤ n ∧ LockIn CL CM v H E (fun ls m => m = n ∧ ∀ L, Wd ls m L → L.length ≤ 240 → L.length < 64 ∧ ∀ r H' ts, Same H H' → TT H' r ts → ts.Perm (L.map (·.1)) → Asc ts → Q r H') := by
      obtain ⟨d, h1, h2, h3, h4⟩ := hl
      cases hb : lockBad d with
      | some pl => exact ⟨1, Nat.le_refl 1, d, h1, h2, h3, fun e => by rw [hb] at e; cases e⟩
      | none =>
        obtain ⟨ls, n, a, b, c, q⟩ := h4 hb
        exact ⟨n, by have := b.2.2.1; omega, d, h1, h2, h3, fun _ => ⟨ls, n, a, b, c, rfl, q⟩⟩
    refine ⟨_, pss_one (ps_ret (pe_tupleOf (by rfl) B.tuple (pe_callB (cr_sortDT (d := n) (B := 9) rfl hn1) (by rfl) B.sorted PyProof.Rows.boot_sorted (pa_cons (pe_hasX (E := E) hM hr (by rfl) (passes_call (takes_of rfl rfl rfl rfl) (fun _ _ _ _ h => h)) (pa_cons (pv 0) pa_nil)) pa_nil)))), ?_⟩
    refine ⟨_, rfl, v, rfl, hl.imp fun ls m ht hg ⟨em, q⟩ d H1 L s1 hd hw hL h240 => ?_⟩
    subst em
    obtain ⟨kvs, hk, pk⟩ := hw
    obtain ⟨h64, q⟩ := q L hL h240
    have hP := wd_isP hg.2.2.2.2 hL
    refine ⟨d, kvs, numL L, rfl, .inl hk, keysI pk, by rw [List.length_map]; exact h64, fun k hk => ?_, fun bs ks' p pm so pr hp => ?_⟩
    · obtain ⟨x, hx, rfl⟩ := List.mem_map.mp hk
      exact ⟨by rw [List.length_map, (hP x hx).len], bd_iN (hP x hx) hg.2.2.2.1⟩
    · obtain ⟨ts, rfl⟩ := turns_back (L := L) fun k hk => pm.mem_iff.mp hk
      have pm2 : ts.Perm (L.map (·.1)) := perm_iN (by
        rw [List.map_map]
        exact pm)
      refine .inl ⟨p, _, rfl, SqL.of upd_same, fun r hr => ?_⟩
      have s2 := (same_new (o := .lst (bs.map V.ref)) hp).trans (same_new (o := .tup (bs.map V.ref)) hr)
      refine q _ _ ts (s1.trans s2) ⟨r, _, rfl, upd_same, TNs.tm (.of s2) (tns_of pr)⟩ pm2 (show ts.Pairwise fun x y => cd x ≤ cd y from (List.pairwise_map (f := iN) (R := fun x y => TS.code 9 x ≤ TS.code 9 y)).mp so)
end
end Lt

set_option Elab.async false
set_option linter.all false
set_option maxRecDepth 100000
set_option maxHeartbeats 1000000
namespace Lt
open PySem PySem.Spec PyProof.Rows L2
section
variable {P : Program} {w : World} {K : PySem.W.Frag} {mg : Str → Option Value} {base : Heap} {CL CM CT : Addr}
/-! ### is_made -/
def spIsMade (CT : Addr) : Sp := fun vs H Q E => ∃ (v u : V) (ls : List (List Nat)) (n : Nat) (d : PyData), vs = [v, u] ∧ Good H v ls n ∧ Rp H u d ∧ (∀ ds, d = .tuple ds → ds.length < 64) ∧
  (isPermD d n = true → ∀ H', Same H H' → Q (.bl (isTurnD (LL ls n) d)) H') ∧ (isPermD d n = false → Bad0 CT H E)
theorem sc_is_made : FnScope ["lock", "turn", "made"] ["lock", "turn"] (defScope s_is_made) := ⟨rfl, rfl, rfl, by decide +kernel, rfl, by decide +kernel, by decide +kernel⟩
theorem has_is_made (T : Top K mg "is_made" s_is_made ["lock", "turn"]) (B : Bi mg) (X3 : Err0 K mg "BadTurn" CT) (hM : Has P w K mg base (L2.CX P w) 5 "made_words" ["lock"] (spMade CL CM)) (hP : Has P w K mg base CX0 3 "is_permutation" ["value", "size"] spPerm) :
    Has P w K mg base (L2.CX P w) 6 "is_made" ["lock", "turn"] (spIsMade CT) := by
  refine T.okX sc_is_made (fun vs H Q E h => ?_) (fun f cdv A outer s H vs Q E hr h => ?_)
  · obtain ⟨v, u, ls, n, d, rfl, _⟩ := h
    rfl
  · obtain ⟨v, u, ls, n, d, rfl, g, hd, hl, qg, qb⟩ := h
    have hr3 : Room 3 _ := hr.mono (by decide)
    have hu := hu_of hr
    refine ⟨_, pss_cons (ps_set (i := 2) sc_is_made.nd rfl (Or.inl rfl) (pe_hasL hM hr (by rfl) (pa_cons (pv 0) pa_nil)))
      (pss_cons (ps_if (pt_not (pt_val (pe_has hP hr3 (by rfl) (pa_cons (pv 1) (pa_cons (pe_callB call_len_seq (by rfl) B.len PySem.boot_len (pa_cons (pe_ix ix_tup (pv 0) pe_int (fun _ _ => rfl)) pa_nil)) pa_nil)))))
        (pss_one (ps_raise rfl (takes_of rfl rfl rfl rfl) (pmk_err0 X3 (by rfl)))) pss_nil)
      (pss_one (ps_ret (pe_cmp (pc_dinR hu (pv 1) (pv 2)) (by rfl))))), ?_⟩
    refine ⟨_, rfl, v, rfl, lockIn_good g.tt g.gl g.few (by omega) fun m H1 L s1 hm hw hL _ => ?_⟩
    have hL := g.wd hL
    subst hL
    have g1 := g.same s1
    obtain ⟨a, xs, b, rfl, ha, hp, h0, t, hbt, htl⟩ := g1.tt.head g.gl
    refine ⟨_, rfl, _, rfl, a, xs, 0, .ref b, rfl, rfl, SqT.of ha, h0, b, _, rfl, .inr (hbt.sq), u, d, n, by rw [nIs_len, htl]; rfl, Rp.same s1 _ _ hd, hl, by have := g.gl.2.2.2.1; omega, fun H2 s2 => ⟨isPermD d n, rfl, ?_⟩⟩
    have s12 := s1.trans s2
    cases hb : isPermD d n with
    | false => exact iteT (qb hb _ s12)
    | true =>
      refine iteF ?_
      have hb' := hb
      unfold isPermD at hb'
      rw [Bool.and_eq_true] at hb'
      cases hd with
      | @tup c ys ds hc hy =>
        have hc2 := hc.sm s12
        rw [nums_vals hy hb'.1] at hc2
        have hc3 : RT H2 c ((keyI (ds.map numOf)).map kV) := by unfold keyI; rw [kV_ints]; exact hc2
        obtain ⟨kvs, hk, pk⟩ := hw.same s2
        refine ⟨_, rfl, _, rfl, m, kvs, _, c, rfl, rfl, .inl hk, hc3, ?_⟩
        rw [dw_isSomeK pk]
        have e : decide (ds.map numOf ∈ numL (LL ls n)) = isTurnD (LL ls n) (.tuple ds) := by
          unfold isTurnD
          rw [hb'.1, Bool.true_and]
          rfl
        rw [e]
        exact qg hb _ s12
      | non => cases hb'.1
      | bl => cases hb'.1
      | int => cases hb'.1
      | str => cases hb'.1
      | lst => cases hb'.1
end
end Lt

set_option Elab.async false
set_option linter.all false
set_option maxRecDepth 100000
set_option maxHeartbeats 1000000
namespace Lt
open PySem PySem.Spec PyProof.Rows L2
section
variable {P : Program} {w : World} {K : PySem.W.Frag} {mg : Str → Option Value} {base : Heap} {CL CM CT : Addr}
/-! ### join -/
def spJoin (CT : Addr) : Sp := fun vs H Q E => ∃ (v u : V) (ls : List (List Nat)) (n : Nat) (d : PyData), vs = [v, u] ∧ Good H v ls n ∧ Rp H u d ∧ Sml d ∧ (areTurnsD (LL ls n) d = false → Bad0 CT H E) ∧
  (areTurnsD (LL ls n) d = true → ∃ ts : List (List Nat), TT H u ts ∧ (∀ t ∈ ts, Mk ls n t) ∧ ts.length ≤ 1000 ∧ ∀ r H', Same H H' → TK H' r (ts.foldl prod (List.range n)) → Q r H')
theorem sc_join : FnScope ["lock", "turns", "made", "reached", "turn"] ["lock", "turns"] (defScope s_join) := ⟨rfl, rfl, rfl, by decide +kernel, rfl, by decide +kernel, by decide +kernel⟩
theorem fold_next {ts : List (List Nat)} {i : Nat} {t a : List Nat} (h : ts[i]? = some t) : (ts.take (i + 1)).foldl prod a = prod ((ts.take i).foldl prod a) t := by
  rw [List.take_add_one, h, List.foldl_append]
  rfl
theorem fold_mk {ls : List (List Nat)} {n : Nat} (hg : ∀ g ∈ ls, IsP n g) : ∀ (ts : List (List Nat)) (a : List Nat), Mk ls n a → (∀ t ∈ ts, Mk ls n t) → Mk ls n (ts.foldl prod a)
  | [], _, h, _ => h
  | t :: ts, a, h, ht => fold_mk hg ts (prod a t) (h.prod hg (ht t List.mem_cons_self)) fun x hx => ht x (List.mem_cons_of_mem _ hx)
theorem has_join (T : Top K mg "join" s_join ["lock", "turns"]) (B : Bi mg) (X3 : Err0 K mg "BadTurn" CT) (hM : Has P w K mg base (L2.CX P w) 5 "made_words" ["lock"] (spMade CL CM)) (hA : Has P w K mg base CX0 4 "are_turns" ["made", "value"] spAreTurns)
    (hS : Has P w K mg base CX0 1 "still_of" ["size"] spStill) (hP : Has P w K mg base CX0 1 "product_of" ["one", "other"] spProd) : Has P w K mg base (L2.CX P w) 6 "join" ["lock", "turns"] (spJoin CT) := by
  refine T.okX sc_join (fun vs H Q E h => ?_) (fun f cdv A outer s H vs Q E hr h => ?_)
  · obtain ⟨v, u, ls, n, d, rfl, _⟩ := h
    rfl
  · obtain ⟨v, u, ls, n, d, rfl, g, hd, hs, qb, qg⟩ := h
    have hr4 : Room 4 _ := hr.mono (by decide)
    have hr1 : Room 1 _ := hr.mono (by decide)
    refine ⟨_, pss_cons (ps_set (i := 2) sc_join.nd rfl (Or.inl rfl) (pe_hasL hM hr (by rfl) (pa_cons (pv 0) pa_nil)))
      (pss_cons (ps_if (pt_not (pt_val (pe_has hA hr4 (by rfl) (pa_cons (pv 2) (pa_cons (pv 1) pa_nil)))))
        (pss_one (ps_raise rfl (takes_of rfl rfl rfl rfl) (pmk_err0 X3 (by rfl)))) pss_nil)
      (pss_cons (ps_set (i := 3) sc_join.nd rfl (Or.inl rfl) (pe_has hS hr1 (by rfl) (pa_cons (pe_callB call_len_seq (by rfl) B.len PySem.boot_len (pa_cons (pe_ix ix_tup (pv 0) pe_int (fun _ _ => rfl)) pa_nil)) pa_nil)))
      (pss_cons (ps_for (passes_of rfl) rfl (pi_tup (pv 1)) (pg_name (i := 4) sc_join.nd rfl (Or.inl rfl))
        (pss_one (ps_set (i := 3) sc_join.nd rfl (Or.inl rfl) (pe_has hP hr1 (by rfl) (pa_cons (pv 3) (pa_cons (pv 4) pa_nil))))))
      (pss_one (ps_ret (pv 3)))))), ?_⟩
    refine ⟨_, rfl, v, rfl, lockIn_good g.tt g.gl g.few (by omega) fun m H1 L s1 hm hw hL _ => ?_⟩
    have hL := g.wd hL
    subst hL
    refine ⟨_, rfl, _, rfl, m, LL ls n, u, d, rfl, hw, Rp.same s1 _ _ hd, hs, fun H2 s2 => ⟨areTurnsD (LL ls n) d, rfl, ?_⟩⟩
    have s12 := s1.trans s2
    cases hb : areTurnsD (LL ls n) d with
    | false => exact iteT (qb hb _ s12)
    | true =>
      obtain ⟨ts, htt, hmk, htl, q⟩ := qg hb
      refine iteF ?_
      have g2 := g.same s12
      obtain ⟨a, xs, b, rfl, ha, hp, h0, t, hbt, htl2⟩ := g2.tt.head g.gl
      obtain ⟨c, ys, rfl, hc, pc⟩ := htt.tm (.of s12)
      have hg := g.gl.2.2.2.2
      have hn := g.gl.2.2.2.1
      refine ⟨_, rfl, a, xs, 0, .ref b, rfl, rfl, SqT.of ha, h0, b, _, rfl, .inr (hbt.sq), n, by rw [nIs_len, htl2]; rfl, by omega, fun r H3 s3 hr3 => ?_⟩
      refine ⟨_, rfl, c, rfl, ⟨_, SqT.of (s3 _ _ hc)⟩, for_tup (K := K) (a := c) (xs := ys) (fun i σ H' => ∃ r y4, σ = [some (.ref a), some (.ref c), some (.ref m), some r, y4] ∧ Same H2 H' ∧ TK H' r ((ts.take i).foldl prod (List.range n)))
        ⟨r, none, rfl, s3, hr3⟩ (fun i σ H' _ ⟨_, _, _, s, _⟩ => SqT.of (s _ _ hc)) ?_ ?_⟩
      · rintro i y σ H' hi ⟨r, y4, rfl, sm, hr'⟩
        obtain ⟨t', ht', htn⟩ := Paired.getL pc hi
        have hm1 := fold_mk hg (ts.take i) (List.range n) .still fun x hx => hmk x (List.mem_of_mem_take hx)
        have hm2 := hmk t' (List.mem_of_getElem? ht')
        refine ⟨_, rfl, _, rfl, pr_call hr'.tn (htn.tm (.of sm)) (hm1.isP hg) (hm2.isP hg) (by omega) fun r2 H4 s4 hr2 => ?_⟩
        exact ⟨r2, _, rfl, sm.trans s4, by rw [fold_next ht']; exact hr2⟩
      · rintro σ H' ⟨r, y4, rfl, sm, hr'⟩
        rw [Paired.length pc, List.take_length] at hr'
        exact ⟨_, rfl, q _ _ (s12.trans sm) hr'⟩
end
end Lt

set_option Elab.async false
set_option linter.all false
set_option maxRecDepth 100000
set_option maxHeartbeats 1000000
namespace Lt
open PySem PySem.Spec PyProof.Rows L2
section
variable {P : Program} {w : World} {K : PySem.W.Frag} {mg : Str → Option Value} {base : Heap} {CL CM CT : Addr}
/-! ### undo, swapped, word_for -/
def spUndo (CT : Addr) : Sp := fun vs H Q E => ∃ (v u : V) (ls : List (List Nat)) (n : Nat) (t : List Nat), vs = [v, u] ∧ Good H v ls n ∧ TN H u t ∧ t.length ≤ 1000 ∧ (Mk ls n t → ∀ r H', Same H H' → TK H' r (inv t) → Q r H') ∧ (¬ Mk ls n t → Bad0 CT H E)
theorem sc_undo : FnScope ["lock", "turn"] ["lock", "turn"] (defScope s_undo) := ⟨rfl, rfl, rfl, by decide +kernel, rfl, by decide +kernel, by decide +kernel⟩
theorem has_undo (T : Top K mg "undo" s_undo ["lock", "turn"]) (hM : Has P w K mg base (L2.CX P w) 5 "made_words" ["lock"] (spMade CL CM)) (hC : Has P w K mg base (L2.CX P w) 4 "check_turn" ["made", "turn"] (spCheckTurn CT))
    (hB : Has P w K mg base CX0 1 "back_of" ["turn"] spBack) : Has P w K mg base (L2.CX P w) 6 "undo" ["lock", "turn"] (spUndo CT) := by
  refine T.okX sc_undo (fun vs H Q E h => ?_) (fun f cdv A outer s H vs Q E hr h => ?_)
  · obtain ⟨v, u, ls, n, t, rfl, _⟩ := h
    rfl
  · obtain ⟨v, u, ls, n, t, rfl, g, ht, hl, qg, qb⟩ := h
    have hr4 : Room 4 _ := hr.mono (by decide)
    have hr1 : Room 1 _ := hr.mono (by decide)
    refine ⟨_, pss_cons (ps_expr (pe_hasX (E := E) hC hr4 (by rfl) (passes_call (takes_of rfl rfl rfl rfl) (fun _ _ _ _ h => h)) (pa_cons (pe_hasL hM hr (by rfl) (pa_cons (pv 0) pa_nil)) (pa_cons (pv 1) pa_nil))))
      (pss_one (ps_ret (pe_has hB hr1 (by rfl) (pa_cons (pv 1) pa_nil)))), ?_⟩
    refine ⟨_, rfl, v, rfl, lockIn_good g.tt g.gl g.few (by omega) fun m H1 L s1 hm hw hL _ => ?_⟩
    have hL := g.wd hL
    subst hL
    refine ⟨_, rfl, m, LL ls n, u, dT t, rfl, hw, (ht.tm (.of s1)).rp, tlen hl, fun e H2 s2 => ?_, fun e => (qb (isTurn_no g e)).same s1⟩
    have mk := (isTurn_mk g t).mp e
    have s12 := s1.trans s2
    exact ⟨_, rfl, u, t, n, rfl, ht.tm (.of s12), g.isP mk, by have := g.gl.2.2.2.1; omega, fun r H3 s3 hr3 => qg mk r H3 (s12.trans s3) hr3⟩
end
end Lt

set_option Elab.async false
set_option linter.all false
set_option maxRecDepth 100000
set_option maxHeartbeats 1000000
namespace Lt
open PySem PySem.Spec PyProof.Rows L2
section
variable {P : Program} {w : World} {K : PySem.W.Frag} {mg : Str → Option Value} {base : Heap} {CL CM CT : Addr}
def spSwapped : Sp := fun vs H Q E => ∃ (v u u2 : V) (ls : List (List Nat)) (n : Nat) (t t2 : List Nat), vs = [v, u, u2] ∧ Good H v ls n ∧ TN H u t ∧ TN H u2 t2 ∧ Mk ls n t ∧ Mk ls n t2 ∧ ∀ r H', Same H H' → TK H' r (prod (prod t t2) (inv (prod t2 t))) → Q r H'
theorem sc_swapped : FnScope ["lock", "one", "other", "made"] ["lock", "one", "other"] (defScope s_swapped) := ⟨rfl, rfl, rfl, by decide +kernel, rfl, by decide +kernel, by decide +kernel⟩
theorem has_swapped (T : Top K mg "swapped" s_swapped ["lock", "one", "other"]) (hM : Has P w K mg base (L2.CX P w) 5 "made_words" ["lock"] (spMade CL CM)) (hC : Has P w K mg base (L2.CX P w) 4 "check_turn" ["made", "turn"] (spCheckTurn CT))
    (hB : Has P w K mg base CX0 2 "bracket_of" ["one", "other"] spBracket) : Has P w K mg base CX0 6 "swapped" ["lock", "one", "other"] spSwapped := by
  refine T.ok sc_swapped (fun vs H Q E h => ?_) (fun f cdv A outer s H vs Q E hr h => ?_)
  · obtain ⟨v, u, u2, ls, n, t, t2, rfl, _⟩ := h
    rfl
  · obtain ⟨v, u, u2, ls, n, t, t2, rfl, g, ht, ht2, mk, mk2, q⟩ := h
    have hr4 : Room 4 _ := hr.mono (by decide)
    have hr2 : Room 2 _ := hr.mono (by decide)
    have hn := g.gl.2.2.2.1
    refine ⟨_, pss_cons (ps_set (i := 3) sc_swapped.nd rfl (Or.inl rfl) (pe_hasL hM hr (by rfl) (pa_cons (pv 0) pa_nil)))
      (pss_cons (ps_expr (pe_hasL hC hr4 (by rfl) (pa_cons (pv 3) (pa_cons (pv 1) pa_nil))))
      (pss_cons (ps_expr (pe_hasL hC hr4 (by rfl) (pa_cons (pv 3) (pa_cons (pv 2) pa_nil))))
      (pss_one (ps_ret (pe_has hB hr2 (by rfl) (pa_cons (pv 1) (pa_cons (pv 2) pa_nil))))))), ?_⟩
    refine ⟨_, rfl, v, rfl, lockIn_good g.tt g.gl g.few (by omega) fun m H1 L s1 hm hw hL _ => ?_⟩
    have hL := g.wd hL
    subst hL
    refine ⟨_, rfl, _, rfl, m, LL ls n, u, dT t, rfl, hw, (ht.tm (.of s1)).rp, tlen (by rw [(g.isP mk).len]; omega), fun _ H2 s2 => ?_, fun e => absurd mk (isTurn_no g e)⟩
    refine ⟨_, rfl, _, rfl, m, LL ls n, u2, dT t2, rfl, hw.same s2, (ht2.tm (.of (s1.trans s2))).rp, tlen (by rw [(g.isP mk2).len]; omega), fun _ H3 s3 => ?_, fun e => absurd mk2 (isTurn_no g e)⟩
    have s := (s1.trans s2).trans s3
    exact ⟨_, rfl, _, rfl, u, u2, t, t2, n, rfl, ht.tm (.of s), ht2.tm (.of s), g.isP mk, g.isP mk2, by omega, fun r H4 s4 hr4 => q r H4 (s.trans s4) hr4⟩
end
end Lt

set_option Elab.async false
set_option linter.all false
set_option maxRecDepth 100000
set_option maxHeartbeats 1000000
namespace Lt
open PySem PySem.Spec PyProof.Rows L2
section
variable {P : Program} {w : World} {K : PySem.W.Frag} {mg : Str → Option Value} {base : Heap} {CL CM CT : Addr}
def spWordFor : Sp := fun vs H Q E => ∃ (v u : V) (ls : List (List Nat)) (n : Nat) (t wd : List Nat), vs = [v, u] ∧ Good H v ls n ∧ TN H u t ∧ (t, wd) ∈ LL ls n ∧ ∀ r H', Same H H' → TN H' r wd → Q r H'
theorem sc_word_for : FnScope ["lock", "turn", "made"] ["lock", "turn"] (defScope s_word_for) := ⟨rfl, rfl, rfl, by decide +kernel, rfl, by decide +kernel, by decide +kernel⟩
theorem has_word_for (T : Top K mg "word_for" s_word_for ["lock", "turn"]) (hM : Has P w K mg base (L2.CX P w) 5 "made_words" ["lock"] (spMade CL CM)) (hC : Has P w K mg base (L2.CX P w) 4 "check_turn" ["made", "turn"] (spCheckTurn CT)) :
    Has P w K mg base CX0 6 "word_for" ["lock", "turn"] spWordFor := by
  refine T.ok sc_word_for (fun vs H Q E h => ?_) (fun f cdv A outer s H vs Q E hr h => ?_)
  · obtain ⟨v, u, ls, n, t, wd, rfl, _⟩ := h
    rfl
  · obtain ⟨v, u, ls, n, t, wd, rfl, g, ht, hm, q⟩ := h
    have hr4 : Room 4 _ := hr.mono (by decide)
    have hu := hu_of hr
    have hn := g.gl.2.2.2.1
    have mk : Mk ls n t := (g.mem t).mp (List.mem_map.mpr ⟨_, hm, rfl⟩)
    refine ⟨_, pss_cons (ps_set (i := 2) sc_word_for.nd rfl (Or.inl rfl) (pe_hasL hM hr (by rfl) (pa_cons (pv 0) pa_nil)))
      (pss_cons (ps_expr (pe_hasL hC hr4 (by rfl) (pa_cons (pv 2) (pa_cons (pv 1) pa_nil))))
      (pss_one (ps_ret (pe_dgetR hu (pv 2) (pv 1) (fun _ _ => rfl))))), ?_⟩
    refine ⟨_, rfl, v, rfl, lockIn_good g.tt g.gl g.few (by omega) fun m H1 L s1 hm' hw hL _ => ?_⟩
    have hL := g.wd hL
    subst hL
    refine ⟨_, rfl, _, rfl, m, LL ls n, u, dT t, rfl, hw, (ht.tm (.of s1)).rp, tlen (by rw [(g.isP mk).len]; omega), fun _ H2 s2 => ?_, fun e => absurd mk (isTurn_no g e)⟩
    obtain ⟨kvs, hk, pk⟩ := hw.same s2
    obtain ⟨b, rfl, hb⟩ := (ht.tm (.of (s1.trans s2))).key
    obtain ⟨r, hr1, hr2⟩ := dw_some pk (LL_nd ls n) hm
    refine ⟨_, rfl, _, rfl, m, r, kvs, _, b, rfl, rfl, .inl hk, hb, hr1, q r H2 (s1.trans s2) hr2⟩
end
end Lt

set_option Elab.async false
set_option linter.all false
set_option maxRecDepth 100000
set_option maxHeartbeats 1000000
namespace Lt
open PySem PySem.Spec PyProof.Rows L2
section
variable {P : Program} {w : World} {K : PySem.W.Frag} {mg : Str → Option Value} {base : Heap} {CL CM CT : Addr}
/-! ### rounds -/
def spRounds : Sp := fun vs H Q E => ∃ (v u : V) (ls : List (List Nat)) (n : Nat) (t : List Nat), vs = [v, u] ∧ Good H v ls n ∧ TN H u t ∧ Mk ls n t ∧ ∀ N H', Same H H' → 1 ≤ N → N ≤ 63 → pw n t N = List.range n → (∀ j, 1 ≤ j → j < N → pw n t j ≠ List.range n) → Q (nI N) H'
def spRoundsOf : Sp := fun vs H Q _ => ∃ (u : V) (n N : Nat) (t : List Nat), vs = [u] ∧ TN H u t ∧ IsP n t ∧ n ≤ 1000 ∧ 1 ≤ N ∧ pw n t N = List.range n ∧ (∀ j, 1 ≤ j → j < N → pw n t j ≠ List.range n) ∧ ∀ H', Same H H' → Q (nI N) H'
theorem sc_rounds_of : FnScope ["turn", "still", "reached", "many"] ["turn"] (defScope s_rounds_of) := ⟨rfl, rfl, rfl, by decide +kernel, rfl, by decide +kernel, by decide +kernel⟩
theorem has_rounds_of (T : Top K mg "rounds_of" s_rounds_of ["turn"]) (B : Bi mg)
    (hS : Has P w K mg base CX0 1 "still_of" ["size"] spStill) (hP : Has P w K mg base CX0 1 "product_of" ["one", "other"] spProd) : Has P w K mg base CX0 2 "rounds_of" ["turn"] spRoundsOf := by
  refine T.ok sc_rounds_of (fun vs H Q E h => ?_) (fun f cdv A outer s H vs Q E hr h => ?_)
  · obtain ⟨u, n, N, t, rfl, _⟩ := h
    rfl
  · obtain ⟨u, n, N, t, rfl, ht, hP', hn, hN1, hN3, hN4, q⟩ := h
    have hr1 : Room 1 _ := hr.mono (by decide)
    refine ⟨_, pss_cons (ps_set (i := 1) sc_rounds_of.nd rfl (Or.inl rfl) (pe_has hS hr1 (by rfl) (pa_cons (pe_callB call_len_seq (by rfl) B.len PySem.boot_len (pa_cons (pv 0) pa_nil)) pa_nil)))
      (pss_cons (ps_set (i := 2) sc_rounds_of.nd rfl (Or.inl rfl) (pv 0))
      (pss_cons (ps_set (i := 3) sc_rounds_of.nd rfl (Or.inl rfl) pe_int)
      (pss_cons (ps_while PassesOwn.never (pt_cmpR (op_neD hr.units) (pv 2) (pv 1) (nomark _))
        (pss_cons (ps_set (i := 2) sc_rounds_of.nd rfl (Or.inl rfl) (pe_has hP hr1 (by rfl) (pa_cons (pv 2) (pa_cons (pv 0) pa_nil))))
        (pss_one (ps_aug (i := 3) sc_rounds_of.nd rfl (Or.inl rfl) pe_int ip_add))))
      (pss_one (ps_ret (pv 3)))))), ?_⟩
    obtain ⟨a, rfl, ha⟩ := ht
    refine ⟨_, rfl, a, _, rfl, .inr ha.sq, n, by rw [nIs_len, hP'.len]; rfl, by omega, fun st H3 s3 hst => ⟨_, rfl, ?_⟩⟩
    refine ⟨fun m σ H' => ∃ r k, σ = [some (.ref a), some st, some r, some (nI k)] ∧ Same H3 H' ∧ TN H' r (pw n t k) ∧ 1 ≤ k ∧ k ≤ N ∧ m = N - k, ⟨N - 1, .ref a, 1, rfl, Same.refl _, by rw [pw_one hP']; exact ⟨a, rfl, ha.sm s3⟩, Nat.le_refl 1, hN1, rfl⟩, ?_⟩
    rintro m σ H' ⟨r, k, rfl, sm, hr', hk1, hk2, rfl⟩
    refine ⟨_, rfl, _, rfl, dT (pw n t k), dT (List.range n), hr'.dp, (hst.tn.tm (.of sm)).dp, sh_T _, sh_T _, _, rfl, ?_⟩
    rw [eqv_dT]
    by_cases he : pw n t k = List.range n
    · rw [decide_eq_true he]
      have hk : k = N := by
        by_cases hlt : k < N
        · exact absurd he (hN4 k hk1 hlt)
        · omega
      subst hk
      exact iteF ⟨_, rfl, q _ (s3.trans sm)⟩
    · rw [decide_eq_false he]
      have hlt : k < N := by
        by_cases z : k = N
        · rw [z] at he; exact absurd hN3 he
        · omega
      refine iteT ⟨fun σ2 H2' => ∃ r, σ2 = [some (.ref a), some st, some r, some (nI (k + 1))] ∧ Same H3 H2' ∧ TN H2' r (pw n t (k + 1)), fun σ2 H2' ⟨r2, e1, e2, e3⟩ => ⟨N - (k + 1), by omega, r2, k + 1, e1, e2, e3, by omega, by omega, rfl⟩, ?_⟩
      refine ⟨_, rfl, _, rfl, pr_call hr' ⟨a, rfl, (ha.sm s3).sm sm⟩ (pw_isP hP' k) hP' (by omega) fun r2 H5 s5 hr2 => ?_⟩
      exact ⟨_, rfl, _, _, rfl, rfl, r2, rfl, sm.trans s5, hr2.tn⟩
theorem sc_rounds : FnScope ["lock", "turn"] ["lock", "turn"] (defScope s_rounds) := ⟨rfl, rfl, rfl, by decide +kernel, rfl, by decide +kernel, by decide +kernel⟩
theorem has_rounds (T : Top K mg "rounds" s_rounds ["lock", "turn"]) (B : Bi mg) (hM : Has P w K mg base (L2.CX P w) 5 "made_words" ["lock"] (spMade CL CM)) (hC : Has P w K mg base (L2.CX P w) 4 "check_turn" ["made", "turn"] (spCheckTurn CT))
    (hO : Has P w K mg base CX0 2 "rounds_of" ["turn"] spRoundsOf) : Has P w K mg base CX0 6 "rounds" ["lock", "turn"] spRounds := by
  refine T.ok sc_rounds (fun vs H Q E h => ?_) (fun f cdv A outer s H vs Q E hr h => ?_)
  · obtain ⟨v, u, ls, n, t, rfl, _⟩ := h
    rfl
  · obtain ⟨v, u, ls, n, t, rfl, g, ht, mk, q⟩ := h
    have hr4 : Room 4 _ := hr.mono (by decide)
    have hr2 : Room 2 _ := hr.mono (by decide)
    have hn := g.gl.2.2.2.1
    have hP' := g.isP mk
    obtain ⟨N, hN1, hN2, hN3, hN4⟩ := pw_least g.gl.2.2.2.2 g.few mk
    refine ⟨_, pss_cons (ps_expr (pe_hasL hC hr4 (by rfl) (pa_cons (pe_hasL hM hr (by rfl) (pa_cons (pv 0) pa_nil)) (pa_cons (pv 1) pa_nil))))
      (pss_one (ps_ret (pe_has hO hr2 (by rfl) (pa_cons (pv 1) pa_nil)))), ?_⟩
    refine ⟨_, rfl, v, rfl, lockIn_good g.tt g.gl g.few (by omega) fun m H1 L s1 hm hw hL _ => ?_⟩
    have hL := g.wd hL
    subst hL
    refine ⟨_, rfl, m, LL ls n, u, dT t, rfl, hw, (ht.tm (.of s1)).rp, tlen (by rw [hP'.len]; omega), fun _ H2 s2 => ?_, fun e => absurd mk (isTurn_no g e)⟩
    have s12 := s1.trans s2
    exact ⟨_, rfl, u, n, N, t, rfl, ht.tm (.of s12), hP', by omega, hN1, hN3, hN4, fun H3 s3 => q N _ (s12.trans s3) hN1 hN2 hN3 hN4⟩
end
end Lt

set_option Elab.async false
set_option linter.all false
set_option maxRecDepth 100000
set_option maxHeartbeats 1000000
/-! tuples whose object is known: they bear no dict, so their methods are found -/
namespace L2
open PySem PySem.Spec PyProof.Rows
section
variable {X : Cx} {a : Expr} {ta : TE} {te : St → Hp → (Int → Int → Hp → Prop) → Prop} {e : Expr}
def kTupF (K : PySem.W.Frag) (x : V) (H : Hp) (Q : VK) : Prop := ∃ p xs, x = .ref p ∧ SqL K H p xs ∧ ∀ q o, o.dict = none → H q = none → Q (.ref q) (upd H q (.frz o (.tup xs)))
theorem pe_tupleOfF {p pos : Pos} (hg : Gl X "tuple") (hm : X.mg "tuple" = none) (ha : PE X a ta) (na : starEach [a] X.env = (false, eval a X.env) :: starEach [] X.env := by rfl) :
    PE X (.Call (.Name "tuple" p) [a] [] pos) (tThen ta (kTupF X.K)) := by
  refine ⟨fun pins s σ H Q I h => ?_⟩
  refine Call_ (ld_blt I hg hm boot_tuple (PyProof.Rows.callWith_type1 (one_arg ha I h (fun v s2 x H2 I2 r q => ?_) na) na))
  obtain ⟨l, xs, rfl, hs, q⟩ := q
  obtain rfl : v = .ref l := r
  obtain ⟨its, rv, pl, hz⟩ := I2.list hs
  refine call_tuple_list pl.isList (fun h' hk => ?_) (by rw [List.size_toArray, ← rv.length]; exact hz)
  have I3 : Inv X pins σ H2 { s2 with heap := h' } := I2.kept (t' := s2.toks) hk
  have hget : (h'.push { cls := .type "tuple", data := .seq its.toArray }).get? h'.objs.size = some { cls := .type "tuple", data := .seq its.toArray } := Heap.get?_push_size _ rfl
  have I4 := I3.laid (a := h'.objs.size) (o := .frz { cls := .type "tuple", data := .seq its.toArray } (.tup xs)) (h' := h'.push { cls := .type "tuple", data := .seq its.toArray }) (t' := s2.toks) (fun b o e => Heap.get?_push_of_some _ e) (Nat.le_refl _) ⟨hget, hz, its, rv, _, hget, rfl, _, rfl⟩
  exact ⟨.ref h'.objs.size, _, I4, rfl, q _ _ rfl (I3.hok.fresh (Nat.le_refl _))⟩
def tTupRgF (te : St → Hp → (Int → Int → Hp → Prop) → Prop) : TE := fun σ H Q => te σ H fun a b H1 => RgOk a b ∧ ∀ q o, o.dict = none → H1 q = none → Q (.ref q) (upd H1 q (.frz o (.tup (rgV a b))))
theorem pe_tupRgF {p pos : Pos} (hc : X.calm = true) (hg : Gl X "tuple") (hm : X.mg "tuple" = none) (he : PRg X e te) (na : starEach [e] X.env = (false, eval e X.env) :: starEach [] X.env := by rfl) : PE X (.Call (.Name "tuple" p) [e] [] pos) (tTupRgF te) := by
  refine ⟨fun pins s σ H Q I h => ?_⟩
  refine Call_ (ld_blt I hg hm boot_tuple (PyProof.Rows.callWith_type1 (args_cons (thn (he pins s σ H _ I h) fun x s1 ⟨r, a, b, t, u, v, H1, ex, hr, I1, ok, q⟩ => args_nil ?_) na) na))
  subst ex
  obtain ⟨b1, b2, b3, b4, b5⟩ := ok
  refine call_tuple_range (n := (b - a).toNat) (I1.ok.hd hc) hr (small_one b1 b2 b3 b4) (rangeSize_nat a b) b5 fun h' tk acc hk hi => ?_
  have I2 : Inv X pins σ H1 { s1 with heap := h', toks := tk } := I1.kept hk
  have hget : (h'.push { cls := .type "tuple", data := .seq acc }).get? h'.objs.size = some { cls := .type "tuple", data := .seq acc } := Heap.get?_push_size _ rfl
  have hz : (rgV a b).length ≤ sizeLine := by rw [rgV_length, sizeLine_eq]; omega
  have hi2 : IsTup (h'.push { cls := .type "tuple", data := .seq acc }) h'.objs.size acc.toList.toArray := by rw [Array.toArray_toList]; exact IsTup.new _ _
  have I3 := I2.laid (a := h'.objs.size) (o := .frz { cls := .type "tuple", data := .seq acc } (.tup (rgV a b))) (h' := h'.push { cls := .type "tuple", data := .seq acc }) (t' := tk) (fun c o e => Heap.get?_push_of_some _ e) (Nat.le_refl _) ⟨hget, hz, acc.toList, vals_rg hi, hi2⟩
  exact ⟨.ref h'.objs.size, _, I3, rfl, q _ _ rfl (I2.hok.fresh (Nat.le_refl _))⟩
/-- a method of a tuple whose object is known -/
def tBMF (r : V → List V → Hp → VK → Prop) (to : TE) (t : TA) : TE := fun σ H Q => to σ H fun x H1 => (∃ a o xs, x = .ref a ∧ H1 a = some (.frz o (.tup xs)) ∧ o.dict = none) ∧ t σ H1 fun ys H2 => r x ys H2 Q
theorem pe_bmF {o e : Expr} {es : List Expr} {to : TE} {t : TA} {name : Str} {apos cpos : Pos} {id : String} {r : V → List V → Hp → VK → Prop} (slot : Slot "tuple" name id) (hty : typeOf (.builtin id) = pure (.type "method_descriptor")) (hm : MtR X id r) (ho : PE X o to) (ha : PA X (e :: es) t)
    (hbase : attributeBase o name X.env (eval o X.env) = eval o X.env := by rfl)
    (hfew : ((backTo cpos (starEach (e :: es) X.env)).all (fun x => !x.1) && (backToKw cpos (keywordEach [] X.env)).all (fun x => x.1.isSome)
      && decide ((e :: es).length + ([] : List Keyword).length + (if ([] : List Keyword).isEmpty then 0 else 1) < 30)) = true := by rfl)
    (hline : (apos.endLine == cpos.line) = true := by rfl) (hs : starEach (e :: es) X.env = (false, eval e X.env) :: starEach es X.env := by rfl) (hplain : (backTo cpos (starEach es X.env)).any (·.1) = false := by rfl) :
    PE X (.Call (.Attribute o name apos) (e :: es) [] cpos) (tBMF r to t) := by
  refine ⟨fun pins s σ H Q I h => ?_⟩
  refine wpAny_Call_method_late hbase hfew hline rfl (thn (ho.run pins s σ H _ I h) fun v s1 ⟨x, H1, I1, r1, ty, q1⟩ => ?_)
  obtain ⟨a, ob, xs, rfl, hH, hdn⟩ := ty
  obtain rfl : v = Value.ref a := r1
  obtain ⟨hget, hz, its, rv, ob', hget', hcls, hdat⟩ := (show ObjOk X.prog X.w H1 s1.heap a (.frz ob (.tup xs)) from I1.hok a _ hH)
  refine ⟨"tuple", id, PySem.F.plainAttrs_tuple, slot, hty, ⟨ob', hget', hcls⟩, fun b eb => ?_, ?_⟩
  · cases eb
    exact ⟨ob, hget, hdn⟩
  have hA := ha.run cpos pins s1 σ H1 _ I1 q1
  rw [hs] at hA ⊢
  refine Calls.callWith_builtin (by show (false || (backTo cpos (starEach es X.env)).any (·.1)) = false; rw [hplain] <;> rfl) (Calls.evalArgs_plain ?_)
  exact thn hA fun us s2 ⟨vs, H2, I2, r2, q2⟩ => hm pins s2 σ H2 (.ref a) vs (.ref a) us Q I2 rfl r2 q2
end
end L2

set_option Elab.async false
set_option linter.all false
set_option maxRecDepth 100000
set_option maxHeartbeats 1000000
namespace Lt
open PySem PySem.Spec PyProof.Rows L2
/-! ### the row of draws -/
/-- all but the object at r is as it was -/
def StepR (r : Addr) (H H' : Hp) : Prop := ∀ a o, a ≠ r → H a = some o → H' a = some o
theorem StepR.refl (r : Addr) (H : Hp) : StepR r H H := fun _ _ _ h => h
theorem StepR.trans {r : Addr} {H H1 H2 : Hp} (a : StepR r H H1) (b : StepR r H1 H2) : StepR r H H2 := fun c o hc h => b c o hc (a c o hc h)
theorem StepR.of {r : Addr} {H H' : Hp} (e : Same H H') : StepR r H H' := fun a o _ h => e a o h
theorem StepR.put (r : Addr) (H : Hp) (o : HO) : StepR r H (upd H r o) := fun a u h e => by rw [upd_ne h]; exact e
structure Row4 (K : PySem.W.Frag) (H : Hp) (r sc : Addr) (ns : List Int) (a b c : Int) : Prop where
  at_ : H r = some (.lst [.ref sc, .int a, .int b, .int c])
  sc : SqL K H sc (ns.map V.int)
  a0 : 0 ≤ a
  b0 : 0 ≤ b
  b1 : b < 2147483647
def RowAt (K : PySem.W.Frag) (H : Hp) (r sc : Addr) (ns : List Int) : Prop := ∃ a b c, Row4 K H r sc ns a b c
theorem StepR.tm {K : PySem.W.Frag} {r sc : Addr} {ns : List Int} {H H' : Hp} (s : StepR r H H') (h : RowAt K H r sc ns) : Tm H H' := by
  obtain ⟨x, b, c, R⟩ := h
  exact ⟨fun a xs e => s a _ (ne_of e R.at_ (fun z => nomatch z)) e, fun a o xs e => s a _ (ne_of e R.at_ (fun z => nomatch z)) e⟩
theorem sq_upd {K : PySem.W.Frag} {H : Hp} {r sc x : Addr} {o : HO} {ns : List Int} {ys : List V} (hr : H r = some (.lst (.ref x :: ys))) (h : SqL K H sc (ns.map V.int)) : SqL K (upd H r o) sc (ns.map V.int) := by
  have key : ∀ u, H sc = some u → u = .lst (ns.map V.int) ∨ (∃ ob, u = .frz ob (.lst (ns.map V.int))) → upd H r o sc = some u := fun u hu hc => by
    refine (upd_ne (ne_of hu hr fun z => ?_)).trans hu
    rcases hc with e | ⟨ob, e⟩
    · rw [e] at z
      injection z with z
      cases ns with
      | nil => cases z
      | cons n ns => cases z
    · rw [e] at z
      cases z
  rcases h with (h | ⟨ob, h⟩) | h
  · exact .inl (.inl (key _ h (.inl rfl)))
  · exact .inl (.inr ⟨ob, key _ h (.inr ⟨ob, rfl⟩)⟩)
  · exact .inr h
theorem Row4.put {K : PySem.W.Frag} {H : Hp} {r sc : Addr} {ns : List Int} {a b c a' b' c' : Int} (h : Row4 K H r sc ns a b c) (h1 : 0 ≤ a') (h2 : 0 ≤ b') (h3 : b' < 2147483647) : Row4 K (upd H r (.lst [.ref sc, .int a', .int b', .int c'])) r sc ns a' b' c' :=
  ⟨upd_same, sq_upd h.at_ h.sc, h1, h2, h3⟩
theorem RowAt.step {K : PySem.W.Frag} {H H' : Hp} {r sc : Addr} {ns : List Int} (h : RowAt K H r sc ns) (s : Same H H') : RowAt K H' r sc ns := by
  obtain ⟨a, b, c, R⟩ := h
  exact ⟨a, b, c, s _ _ R.at_, Same.seq s R.sc, R.a0, R.b0, R.b1⟩
theorem RowAt.sq {K : PySem.W.Frag} {H : Hp} {r sc : Addr} {ns : List Int} (h : RowAt K H r sc ns) : SqL K H sc (ns.map V.int) := let ⟨_, _, _, R⟩ := h; R.sc
theorem RowAt.ne {K : PySem.W.Frag} {H : Hp} {r sc l : Addr} {ns : List Int} (h : RowAt K H r sc ns) (hl : H l = none) : r ≠ l := let ⟨_, _, _, R⟩ := h; ne_of_none R.at_ hl
/-- an object that was not there at H0, where the row stood, may change -/
theorem RowAt.mut {K : PySem.W.Frag} {H0 H : Hp} {r sc l : Addr} {o : HO} {ns : List Int} (h0 : RowAt K H0 r sc ns) (hl : H0 l = none) (h : RowAt K H r sc ns) : RowAt K (upd H l o) r sc ns := by
  have hr := h0.ne hl
  have s0 := h0.sq
  obtain ⟨a, b, c, R⟩ := h
  refine ⟨a, b, c, (upd_ne hr).trans R.at_, ?_, R.a0, R.b0, R.b1⟩
  rcases s0 with (s0 | ⟨ob, s0⟩) | s0
  · have hne : sc ≠ l := ne_of_none s0 hl
    rcases R.sc with (z | ⟨ob, z⟩) | z
    · exact .inl (.inl ((upd_ne hne).trans z))
    · exact .inl (.inr ⟨ob, (upd_ne hne).trans z⟩)
    · exact .inr z
  · have hne : sc ≠ l := ne_of_none s0 hl
    rcases R.sc with (z | ⟨ob, z⟩) | z
    · exact .inl (.inl ((upd_ne hne).trans z))
    · exact .inl (.inr ⟨ob, (upd_ne hne).trans z⟩)
    · exact .inr z
  · exact .inr s0
theorem StepR.mut {r l : Addr} {H0 H : Hp} {o : HO} (s : StepR r H0 H) (hl : H0 l = none) : StepR r H0 (upd H l o) := fun a u ha e => by
  rw [upd_ne (ne_of_none e hl)]
  exact s a u ha e
theorem StepR.free {r l : Addr} {H0 H : Hp} (s : StepR r H0 H) (hr : r ≠ l) (hl : H l = none) : H0 l = none := by
  cases e : H0 l with
  | none => rfl
  | some o =>
    rw [s l o (Ne.symm hr) e] at hl
    cases hl
section
variable {P : Program} {w : World} {K : PySem.W.Frag} {mg : Str → Option Value} {base : Heap}
def spTaken (K : PySem.W.Frag) : Sp := fun vs H Q _ => ∃ (r sc : Addr) (ns : List Int) (m : Nat), vs = [.ref r, nI m] ∧ RowAt K H r sc ns ∧ 1 ≤ m ∧ m ≤ 1000 ∧ ∀ x H', x < m → StepR r H H' → RowAt K H' r sc ns → Q (nI x) H'
theorem sc_law_taken : FnScope ["row", "many", "found", "cell"] ["row", "many"] (defScope s_law_taken) := ⟨rfl, rfl, rfl, by decide +kernel, rfl, by decide +kernel, by decide +kernel⟩
theorem fmod_nat {i : Int} {m : Nat} (h : 1 ≤ m) : ∃ x : Nat, x < m ∧ Int.fmod i (m : Int) = (x : Int) := by
  have h0 : (0 : Int) < (m : Int) := by omega
  rw [Int.fmod_eq_emod_of_nonneg i (Int.le_of_lt h0)]
  have h1 := Int.emod_nonneg i (show (m : Int) ≠ 0 by omega)
  have h2 := Int.emod_lt_of_pos i h0
  exact ⟨(i % m).toNat, by omega, by omega⟩
theorem has_law_taken (T : Top K mg "_law_taken" s_law_taken ["row", "many"]) (B : Bi mg) : Has P w K mg base CX0 1 "_law_taken" ["row", "many"] (spTaken K) := by
  refine T.ok sc_law_taken (fun vs H Q E h => ?_) (fun f cdv A outer s H vs Q E hr h => ?_)
  · obtain ⟨r, sc, ns, m, rfl, _⟩ := h
    rfl
  · obtain ⟨r, sc, ns, m, rfl, ⟨a, b, c, R⟩, hm1, hm2, q⟩ := h
    refine ⟨_, pss_cons (ps_if (pt_cmpR op_gt (pe_ix ix_list (pv 0) pe_int (fun _ _ => rfl)) pe_int (nomark _))
        (pss_cons (ps_set (i := 2) sc_law_taken.nd rfl (Or.inl rfl) (pe_op op_modN (pe_callTy call_int1 (by rfl) B.int PyProof.Rows.boot_int (pa_cons (pe_ix ix_list (pv 0) pe_int (fun _ _ => rfl)) pa_nil)) (pv 1)))
        (pss_cons (ps_asg (pe_op op_fdivN (pe_ix ix_list (pv 0) pe_int (fun _ _ => rfl)) (pv 1)) (pg_sub (pv 0) pe_int set_list))
        (pss_one (ps_ret (pv 2))))) pss_nil)
      (pss_cons (ps_asg (pe_op op_add (pe_ix ix_list (pv 0) pe_int (fun _ _ => rfl)) pe_int) (pg_sub (pv 0) pe_int set_list))
      (pss_cons (ps_if (pt_cmpR op_gt (pe_ix ix_list (pv 0) pe_int (fun _ _ => rfl)) (pe_callB call_len_seq (by rfl) B.len PySem.boot_len (pa_cons (pe_ix ix_list (pv 0) pe_int (fun _ _ => rfl)) pa_nil)) (nomark _))
        (pss_cons (ps_asg (pe_op op_modN (pe_callTy call_int1 (by rfl) B.int PyProof.Rows.boot_int (pa_cons (pe_op op_add (pe_op op_mul (pe_ix ix_list (pv 0) pe_int (fun _ _ => rfl)) pe_int) pe_int) pa_nil)) pe_int) (pg_sub (pv 0) pe_int set_list))
        (pss_one (ps_ret (pe_op op_modN (pe_callTy call_int1 (by rfl) B.int PyProof.Rows.boot_int (pa_cons (pe_op op_fdivN (pe_ix ix_list (pv 0) pe_int (fun _ _ => rfl)) pe_int) pa_nil)) (pv 1))))) pss_nil)
      (pss_cons (ps_set (i := 3) sc_law_taken.nd rfl (Or.inl rfl) (pe_ix ix_list (pe_ix ix_list (pv 0) pe_int (fun _ _ => rfl)) (pe_op op_sub (pe_ix ix_list (pv 0) pe_int (fun _ _ => rfl)) pe_int) (fun _ _ => rfl)))
      (pss_cons (ps_asg (pe_op op_modN (pe_callTy call_int1 (by rfl) B.int PyProof.Rows.boot_int (pa_cons (pe_op op_add (pe_op op_add (pe_op op_mul (pe_ix ix_list (pv 0) pe_int (fun _ _ => rfl)) pe_int) (pv 3)) pe_int) pa_nil)) pe_int) (pg_sub (pv 0) pe_int set_list))
      (pss_cons (ps_if (pt_cmpR op_ge (pv 3) (pe_op op_pow pe_int pe_int) (nomark _))
        (pss_one (ps_asg (pe_op op_fdivN (pv 3) (pv 1)) (pg_sub (pv 0) pe_int set_list))) pss_nil)
      (pss_one (ps_ret (pe_op op_modN (pe_callTy call_int1 (by rfl) B.int PyProof.Rows.boot_int (pa_cons (pv 3) pa_nil)) (pv 1))))))))), ?_⟩
    have hm0 : (m : Int) ≠ 0 := by omega
    have hmb : ((m : Int)).natAbs < 1073741824 := by omega
    have rd : ∀ {H a b c}, Row4 K H r sc ns a b c → SqL K H r [.ref sc, .int a, .int b, .int c] := fun R => SqL.of R.at_
    have a00 := R.a0
    have b00 := R.b0
    have b11 := R.b1
    have fin : ∀ i H', StepR r H H' → RowAt K H' r sc ns → Q (.int (Int.fmod i m)) H' := fun i H' st ra => by
      obtain ⟨x, hx, ex⟩ := fmod_nat (i := i) hm1
      rw [ex]
      exact q x H' hx st ra
    refine ⟨_, rfl, r, _, 3, .int c, rfl, rfl, rd R, rfl, c, 0, rfl, rfl, _, rfl, ite2 (fun hc => ?_) (fun hc => ?_)⟩
    · refine ⟨_, rfl, r, _, 3, .int c, rfl, rfl, rd R, rfl, .inl ⟨_, rfl, _, rfl, c, m, rfl, rfl, hm0, ?_⟩⟩
      refine ⟨_, rfl, r, _, 3, .int c, rfl, rfl, rd R, rfl, _, rfl, c, m, rfl, rfl, ⟨hm0, hmb⟩, _, rfl, r, _, 3, 3, rfl, rfl, R.at_, rfl, ?_⟩
      exact ⟨_, rfl, fin c _ (StepR.put _ _ _) ⟨a, b, _, R.put a00 b00 b11⟩⟩
    · have R1 := R.put (a' := a + 1) (b' := b) (c' := c) (by omega) b00 b11
      refine ⟨_, rfl, r, _, 1, .int a, rfl, rfl, rd R, rfl, a, 1, rfl, rfl, _, rfl, r, _, 1, 1, rfl, rfl, R.at_, rfl, ?_⟩
      refine ⟨_, rfl, r, _, 1, .int (a + 1), rfl, rfl, rd R1, rfl, _, rfl, r, _, 0, .ref sc, rfl, rfl, rd R1, rfl, sc, ns.map V.int, rfl, .inl R1.sc, a + 1, _, rfl, rfl, _, rfl, ite2 (fun h2 => ?_) (fun h2 => ?_)⟩
      · obtain ⟨y, hy, ey⟩ := fmod_nat (i := b * 48271 + 11) (m := 2147483647) (by decide)
        have ey' : Int.fmod (b * 48271 + 11) 2147483647 = (y : Int) := ey
        have R2 := R1.put (a' := a + 1) (b' := Int.fmod (b * 48271 + 11) 2147483647) (c' := c) (by omega) (by omega) (by omega)
        refine ⟨_, rfl, r, _, 2, .int b, rfl, rfl, rd R1, rfl, b, 48271, rfl, rfl, .inl ⟨by omega, by omega⟩, b * 48271, 11, rfl, rfl, .inl ⟨_, rfl, b * 48271 + 11, 2147483647, rfl, rfl, (show (2147483647 : Int) ≠ 0 by decide), _, rfl, r, _, 2, 2, rfl, rfl, R1.at_, rfl, ?_⟩⟩
        refine ⟨_, rfl, r, _, 2, .int _, rfl, rfl, rd R2, rfl, _, 7, rfl, rfl, ⟨by decide, by decide⟩, .inl ⟨_, rfl, _, rfl, _, m, rfl, rfl, hm0, ?_⟩⟩
        exact fin _ _ ((StepR.put _ _ _).trans (StepR.put _ _ _)) ⟨_, _, _, R2⟩
      · have h2 : ¬ (((ns.map V.int).length : Int) < a + 1) := fun z => h2 (decide_eq_true z)
        rw [List.length_map] at h2
        have hlt : a.toNat < ns.length := by omega
        have hat : atI (ns.map V.int) (a + 1 - 1) = some (.int ns[a.toNat]) := by
          have e : a + 1 - 1 = ((a.toNat : Nat) : Int) := by omega
          rw [e]
          refine atI_nat ?_
          rw [List.getElem?_map, List.getElem?_eq_getElem hlt]
          rfl
        generalize ns[a.toNat] = z at hat
        refine ⟨_, rfl, r, _, 0, .ref sc, rfl, rfl, rd R1, rfl, _, rfl, r, _, 1, .int (a + 1), rfl, rfl, rd R1, rfl, a + 1, 1, rfl, rfl, sc, _, a + 1 - 1, .int z, rfl, rfl, R1.sc, hat, ?_⟩
        obtain ⟨y, hy, ey⟩ := fmod_nat (i := b * 48271 + z + 11) (m := 2147483647) (by decide)
        have ey' : Int.fmod (b * 48271 + z + 11) 2147483647 = (y : Int) := ey
        have R2 := R1.put (a' := a + 1) (b' := Int.fmod (b * 48271 + z + 11) 2147483647) (c' := c) (by omega) (by omega) (by omega)
        refine ⟨_, rfl, r, _, 2, .int b, rfl, rfl, rd R1, rfl, b, 48271, rfl, rfl, .inl ⟨by omega, by omega⟩, _, rfl, b * 48271, z, rfl, rfl, b * 48271 + z, 11, rfl, rfl, .inl ⟨_, rfl, b * 48271 + z + 11, 2147483647, rfl, rfl, (show (2147483647 : Int) ≠ 0 by decide), _, rfl, r, _, 2, 2, rfl, rfl, R1.at_, rfl, ?_⟩⟩
        refine ⟨_, rfl, 10, 18, rfl, rfl, ⟨by decide, by decide, by decide⟩, z, _, rfl, rfl, _, rfl, ite2 (fun h3 => ?_) (fun h3 => ?_)⟩
        · refine ⟨_, rfl, _, rfl, z, m, rfl, rfl, ⟨hm0, hmb⟩, _, rfl, r, _, 3, 3, rfl, rfl, R2.at_, rfl, ?_⟩
          refine ⟨_, rfl, .inl ⟨_, rfl, _, rfl, _, m, rfl, rfl, hm0, ?_⟩⟩
          exact fin _ _ (((StepR.put _ _ _).trans (StepR.put _ _ _)).trans (StepR.put _ _ _)) ⟨_, _, _, R2.put (by omega) (by omega) (by omega)⟩
        · refine ⟨_, rfl, .inl ⟨_, rfl, _, rfl, _, m, rfl, rfl, hm0, ?_⟩⟩
          exact fin _ _ ((StepR.put _ _ _).trans (StepR.put _ _ _)) ⟨_, _, _, R2⟩
end
end Lt

set_option Elab.async false
set_option linter.all false
set_option maxRecDepth 100000
set_option maxHeartbeats 1000000
namespace Lt
open PySem PySem.Spec PyProof.Rows L2
/-- a turn whose object is known -/
def TF (H : Hp) (v : V) (t : List Nat) : Prop := ∃ a o, v = .ref a ∧ H a = some (.frz o (.tup (nIs t))) ∧ o.dict = none
theorem TF.tn {H : Hp} {v : V} {t : List Nat} (h : TF H v t) : TN H v t := let ⟨a, o, e, h, _⟩ := h; ⟨a, e, .inr ⟨o, h⟩⟩
theorem TF.tm {H H' : Hp} {v : V} {t : List Nat} (e : Tm H H') (h : TF H v t) : TF H' v t := let ⟨a, o, ev, h, d⟩ := h; ⟨a, o, ev, e.2 _ _ _ h, d⟩
section
variable {P : Program} {w : World} {K : PySem.W.Frag} {mg : Str → Option Value} {base : Heap}
/-! ### _law_pick, _law_is -/
def spPick (K : PySem.W.Frag) : Sp := fun vs H Q _ => ∃ (r l sc : Addr) (ns : List Int) (xs : List V), vs = [.ref r, .ref l] ∧ RowAt K H r sc ns ∧ H l = some (.lst xs) ∧ l ≠ r ∧ 1 ≤ xs.length ∧ xs.length ≤ 1000 ∧ ∀ x H', x ∈ xs → StepR r H H' → RowAt K H' r sc ns → Q x H'
theorem sc_law_pick : FnScope ["row", "things"] ["row", "things"] (defScope s_law_pick) := ⟨rfl, rfl, rfl, by decide +kernel, rfl, by decide +kernel, by decide +kernel⟩
theorem has_law_pick (T : Top K mg "_law_pick" s_law_pick ["row", "things"]) (B : Bi mg) (hT : Has P w K mg base CX0 1 "_law_taken" ["row", "many"] (spTaken K)) : Has P w K mg base CX0 2 "_law_pick" ["row", "things"] (spPick K) := by
  refine T.ok sc_law_pick (fun vs H Q E h => ?_) (fun f cdv A outer s H vs Q E hr h => ?_)
  · obtain ⟨r, l, sc, ns, xs, rfl, _⟩ := h
    rfl
  · obtain ⟨r, l, sc, ns, xs, rfl, ra, hl, hne, h1, h2, q⟩ := h
    refine ⟨_, pss_one (ps_ret (pe_ix ix_list (pv 1) (pe_has hT hr (by rfl) (pa_cons (pv 0) (pa_cons (pe_callB call_len_seq (by rfl) B.len PySem.boot_len (pa_cons (pv 1) pa_nil)) pa_nil))) (fun _ _ => rfl))), ?_⟩
    refine ⟨_, rfl, _, rfl, _, rfl, l, xs, rfl, .inl (SqL.of hl), r, sc, ns, xs.length, rfl, ra, h1, h2, fun x H' hx st ra' => ?_⟩
    exact ⟨l, xs, (x : Int), xs[x], rfl, rfl, SqL.of (st l _ hne hl), atI_nat (List.getElem?_eq_getElem hx), q _ H' (List.getElem_mem hx) st ra'⟩
def spIs : Sp := fun vs H Q _ => ∃ (a b : Bool), vs = [.bl a, .bl b] ∧ Q (.bl (decide (a = b))) H
theorem sc_law_is : FnScope ["found", "due"] ["found", "due"] (defScope s_law_is) := ⟨rfl, rfl, rfl, by decide +kernel, rfl, by decide +kernel, by decide +kernel⟩
theorem has_law_is (T : Top K mg "_law_is" s_law_is ["found", "due"]) (B : Bi mg) : Has P w K mg base CX0 1 "_law_is" ["found", "due"] spIs := by
  refine T.ok sc_law_is (fun vs H Q E h => ?_) (fun f cdv A outer s H vs Q E hr h => ?_)
  · obtain ⟨a, b, rfl, _⟩ := h
    rfl
  · obtain ⟨a, b, rfl, q⟩ := h
    refine ⟨_, pss_one (ps_ret (pe_and (pe_callB call_isi (by rfl) B.isinstance PyProof.Rows.boot_isinstance (pa_cons (pv 0) (pa_cons (pe_bltn (by rfl) B.bool PyProof.Rows.boot_bool (rr_ty "bool")) pa_nil)))
      (pe_one (pe_cmpR op_eq (pv 0) (pv 1) (nomark _))))), ?_⟩
    refine ⟨_, rfl, .bl a, .ty "bool", _, _, true, rfl, .ty _, .base (.bl a), kit_ty (kit_bool (.bool a)), true, rfl, iteT ⟨_, rfl, _, rfl, rfl, ?_⟩⟩
    have e : decide (V.bl a = V.bl b) = decide (a = b) := decide_eq_decide.mpr ⟨fun h => by injection h, fun h => by rw [h]⟩
    rw [e]
    exact q
/-! ### _law_behind, _law_back, _law_swap -/
theorem sc_law_behind : FnScope ["one", "other", "place"] ["one", "other"] (defScope s_law_behind) := ⟨rfl, rfl, rfl, by decide +kernel, rfl, by decide +kernel, by decide +kernel⟩
theorem has_law_behind (T : Top K mg "_law_behind" s_law_behind ["one", "other"]) (B : Bi mg) : Has P w K mg base CX0 1 "_law_behind" ["one", "other"] spProd := by
  refine T.ok sc_law_behind (fun vs H Q E h => ?_) (fun f cdv A outer s H vs Q E hr h => ?_)
  · obtain ⟨a, b, x, y, rfl, _⟩ := h
    rfl
  · obtain ⟨a, b, x, y, rfl, ha, hb, hxy, hx, q⟩ := h
    refine ⟨_, pss_one (ps_ret (pe_tupleOf (by rfl) B.tuple (pe_lc (own := [("place", 2)]) (g := gName 2) (te := tOp (rIxT K) (tVar 1) (tVar 2)) (by rfl) sc_law_behind.nd (pi_tup (pv 0)) (blkOk_by (own := [("place", 2)]) (N := ["one", "other", "place"]) (sc := defScope s_law_behind) (by decide +kernel))
      (fun _ _ _ _ _ => pg_name (i := 2) sc_law_behind.nd rfl (Or.inl rfl)) (fun _ _ _ _ _ => pts_nil) (fun _ _ _ _ _ => pe_ix ix_tup (pv 1) (pv 2) (fun _ _ => rfl))))), ?_⟩
    obtain ⟨pa, rfl, ea⟩ := ha
    obtain ⟨pb, rfl, eb⟩ := hb
    refine ⟨_, rfl, pa, rfl, ⟨_, ea.sq⟩, fun D hD => lc_tupM RN (prod x y) (fun _ _ _ _ _ r => r) ea.sq (fun H' sm => (ea.sm sm).sq) (by rw [nIs_len]; omega) (by rw [prod_len, nIs_len]) hD (fun x => rfl) (fun i v n hi hn H' sm Q' q' => ?_) (fun H' zs sm hz pr => ?_)⟩
    · rw [nIs_get] at hi
      obtain ⟨m, hm, rfl⟩ := Option.map_eq_some_iff.mp hi
      have hlt := hxy m (List.mem_of_getElem? hm)
      have e : n = y.getD m 0 := by
        have z : (prod x y)[i]? = some (y.getD m 0) := by
          unfold prod
          rw [List.getElem?_map, hm]
          rfl
        exact Option.some.inj (hn.symm.trans z)
      refine ⟨_, rfl, _, rfl, pb, _, _, nI n, rfl, rfl, (eb.sm sm).sq, atI_nat ?_, q' _ _ (Same.refl _) rfl⟩
      rw [nIs_get, e, List.getD_eq_getElem?_getD, List.getElem?_eq_getElem hlt]
      rfl
    · refine .inl ⟨D, zs, rfl, SqL.of hz, fun p hp => q _ _ (sm.trans (same_new hp)) (tn_of upd_same (RN.all pr))⟩
/-- the same, the new turn's object told -/
def spProdF : Sp := fun vs H Q _ => ∃ (a b : V) (x y : List Nat), vs = [a, b] ∧ TN H a x ∧ TN H b y ∧ (∀ i ∈ x, i < y.length) ∧ x.length ≤ 1000 ∧ ∀ v H', Same H H' → TF H' v (prod x y) → Q v H'
theorem has_law_behindF (T : Top K mg "_law_behind" s_law_behind ["one", "other"]) (B : Bi mg) : Has P w K mg base CX0 1 "_law_behind" ["one", "other"] spProdF := by
  refine T.ok sc_law_behind (fun vs H Q E h => ?_) (fun f cdv A outer s H vs Q E hr h => ?_)
  · obtain ⟨a, b, x, y, rfl, _⟩ := h
    rfl
  · obtain ⟨a, b, x, y, rfl, ha, hb, hxy, hx, q⟩ := h
    refine ⟨_, pss_one (ps_ret (pe_tupleOfF (by rfl) B.tuple (pe_lc (own := [("place", 2)]) (g := gName 2) (te := tOp (rIxT K) (tVar 1) (tVar 2)) (by rfl) sc_law_behind.nd (pi_tup (pv 0)) (blkOk_by (own := [("place", 2)]) (N := ["one", "other", "place"]) (sc := defScope s_law_behind) (by decide +kernel))
      (fun _ _ _ _ _ => pg_name (i := 2) sc_law_behind.nd rfl (Or.inl rfl)) (fun _ _ _ _ _ => pts_nil) (fun _ _ _ _ _ => pe_ix ix_tup (pv 1) (pv 2) (fun _ _ => rfl))))), ?_⟩
    obtain ⟨pa, rfl, ea⟩ := ha
    obtain ⟨pb, rfl, eb⟩ := hb
    refine ⟨_, rfl, pa, rfl, ⟨_, ea.sq⟩, fun D hD => lc_tupM RN (prod x y) (fun _ _ _ _ _ r => r) ea.sq (fun H' sm => (ea.sm sm).sq) (by rw [nIs_len]; omega) (by rw [prod_len, nIs_len]) hD (fun x => rfl) (fun i v n hi hn H' sm Q' q' => ?_) (fun H' zs sm hz pr => ?_)⟩
    · rw [nIs_get] at hi
      obtain ⟨m, hm, rfl⟩ := Option.map_eq_some_iff.mp hi
      have hlt := hxy m (List.mem_of_getElem? hm)
      have e : n = y.getD m 0 := by
        have z : (prod x y)[i]? = some (y.getD m 0) := by
          unfold prod
          rw [List.getElem?_map, hm]
          rfl
        exact Option.some.inj (hn.symm.trans z)
      refine ⟨_, rfl, _, rfl, pb, _, _, nI n, rfl, rfl, (eb.sm sm).sq, atI_nat ?_, q' _ _ (Same.refl _) rfl⟩
      rw [nIs_get, e, List.getD_eq_getElem?_getD, List.getElem?_eq_getElem hlt]
      rfl
    · refine ⟨D, zs, rfl, SqL.of hz, fun p o ho hp => q _ _ (sm.trans (same_new hp)) ⟨p, o, rfl, by rw [upd_same, RN.all pr], ho⟩⟩
def rTupIx (K : PySem.W.Frag) : V → List V → Hp → VK → Prop := fun x xs H Q => ∃ p, ∃ ys : List Int, ∃ z j, x = .ref p ∧ xs = [.int z] ∧ SqT K H p (ys.map V.int) ∧ ys[j]? = some z ∧ (∀ m, m < j → ys[m]? ≠ some z) ∧ Q (.int (j : Nat)) H
def spLawBack : Sp := fun vs H Q _ => ∃ (a : V) (t : List Nat) (n : Nat), vs = [a] ∧ TF H a t ∧ IsP n t ∧ n ≤ 1000 ∧ ∀ v H', Same H H' → TK H' v (inv t) → Q v H'
theorem sc_law_back : FnScope ["turn", "place"] ["turn"] (defScope s_law_back) := ⟨rfl, rfl, rfl, by decide +kernel, rfl, by decide +kernel, by decide +kernel⟩
theorem has_law_back (T : Top K mg "_law_back" s_law_back ["turn"]) (B : Bi mg) : Has P w K mg base CX0 1 "_law_back" ["turn"] spLawBack := by
  refine T.ok sc_law_back (fun vs H Q E h => ?_) (fun f cdv A outer s H vs Q E hr h => ?_)
  · obtain ⟨a, t, n, rfl, _⟩ := h
    rfl
  · obtain ⟨a, t, n, rfl, ⟨pa, o, rfl, ea, ho⟩, ht, hn, q⟩ := h
    refine ⟨_, pss_one (ps_ret (pe_tupleOf (by rfl) B.tuple (pe_lc (own := [("place", 1)]) (g := gName 1) (te := tBMF (rTupIx K) (tVar 0) (tCons (tVar 1) tNil)) (by rfl) sc_law_back.nd (pi_range1 (by rfl) B.range (pa_cons (pe_callB call_len_seq (by rfl) B.len PySem.boot_len (pa_cons (pv 0) pa_nil)) pa_nil)) (blkOk_by (own := [("place", 1)]) (N := ["turn", "place"]) (sc := defScope s_law_back) (by decide +kernel))
      (fun _ _ _ _ _ => pg_name (i := 1) sc_law_back.nd rfl (Or.inl rfl)) (fun _ _ _ _ _ => pts_nil) (fun _ _ _ _ _ => pe_bmF PySem.F.slot_tuple_index PySem.F.type_tuple_index mt_tup_indexI (pv 0) (pa_cons (pv 1) pa_nil))))), ?_⟩
    have hlen := ht.len
    refine ⟨_, rfl, pa, nIs t, rfl, .inr (RT.sq (.inr ⟨o, ea⟩)), ((nIs t).length : Int), rfl, by omega, by rw [nIs_len, hlen]; omega, fun D hD => lc_rangeM (n := ((nIs t).length : Int).toNat) RN (inv t) (fun _ _ _ _ _ r => r) (by rw [nIs_len]; omega) (by rw [inv_len, nIs_len]; omega) hD (fun x => rfl) (fun i m hi hm H' sm Q' q' => ?_) (fun H' zs sm hz pr => ?_)⟩
    · have hit : i < t.length := by rw [nIs_len] at hi; omega
      have hmem : i ∈ t := ht.mem.mpr (by omega)
      have em : m = t.idxOf i := by
        unfold inv at hm
        rw [List.getElem?_map, List.getElem?_range hit] at hm
        exact (Option.some.inj hm).symm
      have hil := List.idxOf_lt_length_of_mem hmem
      refine ⟨_, rfl, ⟨pa, o, _, rfl, sm _ _ ea, ho⟩, _, rfl, pa, iN t, (0 : Int) + (i : Int), m, rfl, rfl, by rw [show (iN t).map V.int = nIs t from (nIs_int t).symm]; exact RT.sq (.inr ⟨o, sm _ _ ea⟩), ?_, fun j hj e => ?_, q' _ _ (Same.refl _) rfl⟩
      · unfold iN
        rw [em, List.getElem?_map, List.getElem?_eq_getElem hil, List.getElem_idxOf, Int.zero_add]
        rfl
      · unfold iN at e
        rw [List.getElem?_map] at e
        obtain ⟨y, hy, ey⟩ := Option.map_eq_some_iff.mp e
        have ey : (y : Int) = 0 + (i : Int) := ey
        have eyi : y = i := by omega
        subst eyi
        have : j = t.idxOf y := nd_ix ht.nd hy (by rw [List.getElem?_eq_getElem hil, List.getElem_idxOf])
        omega
    · refine .inl ⟨D, zs, rfl, SqL.of hz, fun p hp => q _ _ (sm.trans (same_new hp)) (tn_of upd_same (RN.all pr))⟩
def spLawSwap : Sp := fun vs H Q _ => ∃ (a b : V) (x y : List Nat) (n : Nat), vs = [a, b] ∧ TF H a x ∧ TF H b y ∧ IsP n x ∧ IsP n y ∧ n ≤ 1000 ∧ ∀ v H', Same H H' → TK H' v (prod (prod x y) (prod (inv x) (inv y))) → Q v H'
theorem sc_law_swap : FnScope ["one", "other"] ["one", "other"] (defScope s_law_swap) := ⟨rfl, rfl, rfl, by decide +kernel, rfl, by decide +kernel, by decide +kernel⟩
theorem has_law_swap (T : Top K mg "_law_swap" s_law_swap ["one", "other"]) (hP : Has P w K mg base CX0 1 "_law_behind" ["one", "other"] spProd) (hB : Has P w K mg base CX0 1 "_law_back" ["turn"] spLawBack) : Has P w K mg base CX0 2 "_law_swap" ["one", "other"] spLawSwap := by
  refine T.ok sc_law_swap (fun vs H Q E h => ?_) (fun f cdv A outer s H vs Q E hr h => ?_)
  · obtain ⟨a, b, x, y, n, rfl, _⟩ := h
    rfl
  · obtain ⟨a, b, x, y, n, rfl, ha, hb, hx, hy, hn, q⟩ := h
    refine ⟨_, pss_one (ps_ret (pe_has hP hr (by rfl) (pa_cons (pe_has hP hr (by rfl) (pa_cons (pv 0) (pa_cons (pv 1) pa_nil))) (pa_cons (pe_has hP hr (by rfl) (pa_cons (pe_has hB hr (by rfl) (pa_cons (pv 0) pa_nil)) (pa_cons (pe_has hB hr (by rfl) (pa_cons (pv 1) pa_nil)) pa_nil))) pa_nil)))), ?_⟩
    refine ⟨_, rfl, _, rfl, pr_call ha.tn hb.tn hx hy hn fun u1 H1 s1 h1 => ?_⟩
    refine ⟨_, rfl, a, x, n, rfl, ha.tm (.of s1), hx, hn, fun u2 H2 s2 h2 => ?_⟩
    refine ⟨_, rfl, b, y, n, rfl, hb.tm (.of (s1.trans s2)), hy, hn, fun u3 H3 s3 h3 => ?_⟩
    refine pr_call (h2.tm (.of s3)).tn h3.tn hx.inv hy.inv hn fun u4 H4 s4 h4 => ?_
    exact pr_call (h1.tm (.of ((s2.trans s3).trans s4))).tn h4.tn (hx.prod hy) (hx.inv.prod hy.inv) hn fun u5 H5 s5 h5 => q u5 H5 ((((s1.trans s2).trans s3).trans s4).trans s5) h5
/-! ### _law_permutation -/
def spLawPerm (K : PySem.W.Frag) : Sp := fun vs H Q _ => ∃ (r sc : Addr) (ns : List Int) (n : Nat), vs = [.ref r, nI n] ∧ RowAt K H r sc ns ∧ n ≤ 1000 ∧ ∀ v H' t, IsP n t → StepR r H H' → RowAt K H' r sc ns → TK H' v t → Q v H'
theorem sc_law_permutation : FnScope ["row", "places", "left", "found", "turn"] ["row", "places"] (defScope s_law_permutation) := ⟨rfl, rfl, rfl, by decide +kernel, rfl, by decide +kernel, by decide +kernel⟩
theorem nIs_erase : ∀ (t : List Nat) (i : Nat), (nIs t).eraseIdx i = nIs (t.eraseIdx i)
  | [], _ => rfl
  | _ :: _, 0 => rfl
  | a :: t, i + 1 => by
    show nI a :: (nIs t).eraseIdx i = nI a :: nIs (t.eraseIdx i)
    rw [nIs_erase t i]
theorem erase_perm : ∀ (l : List Nat) (x : Nat) (h : x < l.length), (l[x] :: l.eraseIdx x).Perm l
  | [], x, h => absurd h (Nat.not_lt_zero x)
  | a :: l, 0, _ => List.Perm.refl _
  | a :: l, x + 1, h => (List.Perm.swap a (l[x]'(Nat.lt_of_succ_lt_succ h)) (l.eraseIdx x)).trans ((erase_perm l x (Nat.lt_of_succ_lt_succ h)).cons a)
theorem has_law_permutation (T : Top K mg "_law_permutation" s_law_permutation ["row", "places"]) (B : Bi mg) (hT : Has P w K mg base CX0 1 "_law_taken" ["row", "many"] (spTaken K)) : Has P w K mg base CX0 2 "_law_permutation" ["row", "places"] (spLawPerm K) := by
  refine T.ok sc_law_permutation (fun vs H Q E h => ?_) (fun f cdv A outer s H vs Q E hr h => ?_)
  · obtain ⟨r, sc, ns, n, rfl, _⟩ := h
    rfl
  · obtain ⟨r, sc, ns, n, rfl, ra, hn, q⟩ := h
    refine ⟨_, pss_cons (ps_par (i := 2) (j := 3) (by rfl) sc_law_permutation.nd rfl rfl (by decide) rfl rfl (pa_cons (pe_listRg (by rfl) (by rfl) B.list (prg_1 (by rfl) B.range (pv 1))) (pa_cons (pe_lst pa_nil) pa_nil)) (by rfl))
      (pss_cons (ps_for PassesOwn.never rfl (pi_range1 (by rfl) B.range (pa_cons (pv 1) pa_nil)) (pg_name (i := 4) sc_law_permutation.nd rfl (Or.inl rfl))
        (pss_one (ps_expr (pe_bm PySem.F.plainAttrs_list PySem.F.slot_list_append PySem.F.type_list_append mt_append (pv 3) (pa_cons
          (pe_bm PySem.F.plainAttrs_list PySem.F.slot_list_pop PySem.F.type_list_pop mt_popAt (pv 2) (pa_cons (pe_has hT hr (by rfl) (pa_cons (pv 0) (pa_cons (pe_callB call_len_seq (by rfl) B.len PySem.boot_len (pa_cons (pv 2) pa_nil)) pa_nil))) pa_nil)) pa_nil)))))
      (pss_one (ps_ret (pe_tupleOf (by rfl) B.tuple (pv 3))))), ?_⟩
    refine ⟨_, rfl, n, rfl, .of_le (by omega) (by omega) (by omega) (by omega), fun lf hlf => ?_⟩
    have s1 := same_new (o := .lst (rgV 0 n)) hlf
    refine ⟨Nat.zero_le _, fun fd hfd => ⟨_, _, rfl, ?_⟩⟩
    have s2 := s1.trans (same_new (o := .lst []) hfd)
    have hfd0 : H fd = none := s1.free hfd
    have hlfd : lf ≠ fd := fun z => by rw [← z, upd_same] at hfd; cases hfd
    refine ⟨_, rfl, (n : Int), rfl, by omega, by omega, for_range (lo := 0) (n := (n : Int).toNat) (fun i σ H' => ∃ (l f : List Nat) (y : Option V), σ = [some (.ref r), some (nI n), some (.ref lf), some (.ref fd), y] ∧ StepR r H H' ∧ RowAt K H' r sc ns ∧ H' lf = some (.lst (nIs l)) ∧ H' fd = some (.lst (nIs f)) ∧ (f ++ l).Perm (List.range n) ∧ f.length = i)
      ⟨List.range n, [], none, rfl, .of s2, ra.step s2, by rw [upd_ne hlfd, upd_same, rgV_nat], by rw [upd_same]; rfl, List.Perm.refl _, rfl⟩ ?_ ?_⟩
    · rintro i σ H' hi ⟨l, f, y, rfl, st, ra', hl, hf, pm, hfl⟩
      have hlen := pm.length_eq
      rw [List.length_append, List.length_range] at hlen
      have hl1 : 1 ≤ l.length := by omega
      refine ⟨_, rfl, .inl ⟨rfl, _, SqL.of hf⟩, _, rfl, .inl ⟨rfl, _, SqL.of hl⟩, _, rfl, _, rfl, lf, nIs l, rfl, .inl (SqL.of hl), r, sc, ns, l.length, by rw [nIs_len]; rfl, ra', hl1, by omega, fun x H2 hx st2 ra2 => ?_⟩
      have hlr : lf ≠ r := (ra.ne hlf).symm
      have hfr : fd ≠ r := (ra.ne hfd0).symm
      have hl2 := st2 _ _ hlr hl
      have hf2 := st2 _ _ hfr hf
      refine ⟨lf, nIs l, (x : Int), x, nI l[x], rfl, rfl, hl2, by omega, by omega, (ixN_seq (Evl.ixN_nat (by rw [nIs_len]; exact hx))).1, by rw [nIs_get, List.getElem?_eq_getElem hx]; rfl, ?_⟩
      have hf3 : (upd H2 lf (.lst ((nIs l).eraseIdx x))) fd = some (.lst (nIs f)) := by rw [upd_ne hlfd.symm]; exact hf2
      refine ⟨fd, nIs f, nI l[x], rfl, rfl, hf3, by rw [nIs_len, sizeLine_eq]; omega, ?_⟩
      refine ⟨l.eraseIdx x, f ++ [l[x]], _, rfl, ((st.trans st2).mut hlf).mut hfd0, RowAt.mut ra hfd0 (RowAt.mut ra hlf ra2), ?_, ?_, ?_, by rw [List.length_append, hfl]; rfl⟩
      · rw [upd_ne hlfd, upd_same, nIs_erase]
      · rw [upd_same]
        unfold nIs
        rw [List.map_append]
        rfl
      · rw [List.append_assoc]
        refine List.Perm.trans (List.Perm.append_left f ?_) pm
        exact erase_perm l x hx
    · rintro σ H' ⟨l, f, y, rfl, st, ra', hl, hf, pm, hfl⟩
      have hlen := pm.length_eq
      rw [List.length_append, List.length_range] at hlen
      have hl0 : l = [] := by
        cases l with
        | nil => rfl
        | cons a l => rw [List.length_cons] at hlen; omega
      subst hl0
      rw [List.append_nil] at pm
      refine ⟨_, rfl, .inl ⟨fd, nIs f, rfl, SqL.of hf, fun p hp => ?_⟩⟩
      have sp := same_new (o := .tup (nIs f)) hp
      exact q _ _ f pm (st.trans (.of sp)) (ra'.step sp) ⟨p, rfl, upd_same⟩
end
end Lt

set_option Elab.async false
set_option linter.all false
set_option maxRecDepth 100000
set_option maxHeartbeats 1000000
namespace Lt
open PySem PySem.Spec PyProof.Rows L2
/-! ### _law_alike, of equal data -/
def Pl : Nat → PyData → Prop
  | _, .int _ => True
  | k + 1, .tuple ds => ds.length ≤ 1000 ∧ ∀ e ∈ ds, Pl k e
  | k + 1, .list ds => ds.length ≤ 1000 ∧ ∀ e ∈ ds, Pl k e
  | _, _ => False
def isTL (d : PyData) : Bool := isTup d || isLst d
theorem kit_TL {K : PySem.W.Frag} (d : PyData) : PySem.W.kitAny K (.type (tyN d)) [.type "tuple", .type "list"] = some (isTL d) := by
  refine kitAny_cons (b := isTup d) (kit_ty (kit_tup d)) (fun h => ?_) (fun h => by unfold isTL; rw [h]; rfl)
  refine kitAny_cons (b := isLst d) (kit_ty (kit_lst d)) (fun h2 => ?_) (fun h2 => by unfold isTL; rw [h, h2]; rfl)
  unfold isTL
  rw [h, h2]
  exact kitAny_nil
theorem cls_TL : Paired ClsV [V.ty "tuple", V.ty "list"] [.type "tuple", .type "list"] := .cons (.ty _) (.cons (.ty _) .nil)
section
variable {P : Program} {w : World} {K : PySem.W.Frag} {mg : Str → Option Value} {base : Heap}
def spAlike (k : Nat) : Sp := fun vs H Q _ => ∃ (v u : V) (d : PyData), vs = [v, u] ∧ Rp H v d ∧ Rp H u d ∧ Pl k d ∧ ∀ H', Same H H' → Q (.bl true) H'
theorem sc_law_alike : FnScope ["found", "due", "k"] ["found", "due"] (defScope s_law_alike) := ⟨rfl, rfl, rfl, by decide +kernel, rfl, by decide +kernel, by decide +kernel⟩
theorem Rp.ix {K : PySem.W.Frag} {H : Hp} {a : Addr} {xs : List V} {i : Nat} {v : V} {Q : VK} (h : H a = some (.lst xs) ∨ RT H a xs) (hi : xs[i]? = some v) (q : Q v H) : rIx K (.ref a) (.int ((0 : Int) + (i : Nat))) H Q := by
  have e : atI xs ((0 : Int) + (i : Nat)) = some v := by rw [Int.zero_add]; exact atI_nat hi
  rcases h with h | h
  · exact .inl ⟨a, xs, _, v, rfl, rfl, SqL.of h, e, q⟩
  · exact .inr (.inl ⟨a, xs, _, v, rfl, rfl, h.sq, e, q⟩)
theorem RpAll.getR {H : Hp} : ∀ {ds : List PyData} {vs : List V} {i : Nat}, RpAll H vs ds → i < ds.length → ∃ v d, vs[i]? = some v ∧ ds[i]? = some d ∧ Rp H v d := fun {ds vs i} h hi => by
  have hl := h.len
  have hv : vs[i]? = some (vs[i]'(by omega)) := List.getElem?_eq_getElem (by omega)
  obtain ⟨d, h1, h2⟩ := h.get hv
  exact ⟨_, d, hv, h1, h2⟩
/-- a list or tuple -/
theorem Rp.seq {H : Hp} {v : V} {d : PyData} (h : Rp H v d) (ht : isTL d = true) : ∃ a xs ds, v = .ref a ∧ (H a = some (.lst xs) ∨ RT H a xs) ∧ RpAll H xs ds ∧ (d = .tuple ds ∨ d = .list ds) := by
  cases h with
  | lst h a => exact ⟨_, _, _, rfl, .inl h, a, .inr rfl⟩
  | tup h a => exact ⟨_, _, _, rfl, .inr h, a, .inl rfl⟩
  | non => cases ht
  | bl => cases ht
  | int => cases ht
  | str => cases ht
theorem sq_or {K : PySem.W.Frag} {H : Hp} {a : Addr} {xs : List V} (h : H a = some (.lst xs) ∨ RT H a xs) : SqL K H a xs ∨ SqT K H a xs := by
  rcases h with h | h
  · exact .inl (SqL.of h)
  · exact .inr h.sq
theorem or_same {H H' : Hp} {a : Addr} {xs : List V} (s : Same H H') (h : H a = some (.lst xs) ∨ RT H a xs) : H' a = some (.lst xs) ∨ RT H' a xs := by
  rcases h with h | h
  · exact .inl (s _ _ h)
  · exact .inr (h.sm s)
theorem has_law_alike (T : Top K mg "_law_alike" s_law_alike ["found", "due"]) (B : Bi mg) : ∀ k, Has P w K mg base CX0 (k + 1) "_law_alike" ["found", "due"] (spAlike k) := by
  have step : ∀ (k : Nat) (sp : Sp) (hsp : ∀ (v u : V) (d : PyData) (H : Hp) (Q : VK), (∃ k', k = k' + 1 ∧ Pl k' d) → Rp H v d → Rp H u d → (∀ H', Same H H' → Q (.bl true) H') → sp [v, u] H Q E0), Has P w K mg base CX0 k "_law_alike" ["found", "due"] sp → Has P w K mg base CX0 (k + 1) "_law_alike" ["found", "due"] (spAlike k) := by
    intro k sp hsp hA
    refine T.ok sc_law_alike (fun vs H Q E h => ?_) (fun f cdv A outer s H vs Q E hr h => ?_)
    · obtain ⟨v, u, d, rfl, _⟩ := h
      rfl
    · obtain ⟨v, u, d, rfl, hv, hu, hp, q⟩ := h
      refine ⟨_, pss_cons (ps_if (pt_val (pe_callB call_isiT (by rfl) B.isinstance PyProof.Rows.boot_isinstance (pa_cons (pv 1) (pa_cons (pe_tup (pa_cons (pe_bltn (by rfl) B.tuple PyProof.Rows.boot_tuple (rr_ty "tuple")) (pa_cons (pe_bltn (by rfl) B.list PyProof.Rows.boot_list (rr_ty "list")) pa_nil))) pa_nil))))
          (pss_cons (ps_if (PW.pt (pw_or (pt_not (pt_val (pe_callB call_isiT (by rfl) B.isinstance PyProof.Rows.boot_isinstance (pa_cons (pv 0) (pa_cons (pe_tup (pa_cons (pe_bltn (by rfl) B.tuple PyProof.Rows.boot_tuple (rr_ty "tuple")) (pa_cons (pe_bltn (by rfl) B.list PyProof.Rows.boot_list (rr_ty "list")) pa_nil))) pa_nil)))))
            (pw_or1 (pt_cmpR op_ne (pe_callB call_isi (by rfl) B.isinstance PyProof.Rows.boot_isinstance (pa_cons (pv 0) (pa_cons (pe_bltn (by rfl) B.list PyProof.Rows.boot_list (rr_ty "list")) pa_nil))) (pe_callB call_isi (by rfl) B.isinstance PyProof.Rows.boot_isinstance (pa_cons (pv 1) (pa_cons (pe_bltn (by rfl) B.list PyProof.Rows.boot_list (rr_ty "list")) pa_nil))) (nomark _)))))
            (pss_one (ps_ret pe_bl)) pss_nil)
          (pss_cons (ps_if (pt_cmpR op_ne (pe_callB call_len_seq (by rfl) B.len PySem.boot_len (pa_cons (pv 0) pa_nil)) (pe_callB call_len_seq (by rfl) B.len PySem.boot_len (pa_cons (pv 1) pa_nil)) (nomark _)) (pss_one (ps_ret pe_bl)) pss_nil)
          (pss_one (ps_ret (pe_cmpR (op_eqD hr.units) (pe_lc (own := [("k", 2)]) (g := gName 2) (tt := tNot (tB (tCall sp [] E0 (tCons (tOp (rIx K) (tVar 0) (tVar 2)) (tCons (tOp (rIx K) (tVar 1) (tVar 2)) tNil))))) (te := tVar 2) (by rfl) sc_law_alike.nd (pi_range1 (by rfl) B.range (pa_cons (pe_callB call_len_seq (by rfl) B.len PySem.boot_len (pa_cons (pv 1) pa_nil)) pa_nil))
              (blkOk_by (own := [("k", 2)]) (N := ["found", "due", "k"]) (sc := defScope s_law_alike) (by decide +kernel)) (fun _ _ _ _ _ => pg_name (i := 2) sc_law_alike.nd rfl (Or.inl rfl))
              (fun _ _ _ _ _ => pts_one (pt_not (pt_val (pe_has hA hr (by rfl) (pa_cons (pe_ix ix_seq (pv 0) (pv 2) (fun _ _ => rfl)) (pa_cons (pe_ix ix_seq (pv 1) (pv 2) (fun _ _ => rfl)) pa_nil))))))
              (fun _ _ _ _ _ => pv 2)) (pe_lst pa_nil) (nomark _)))))) pss_nil)
        (pss_cons (ps_if (PW.pt (pw_or (pt_cmp (pc_isN (pv 1))) (pw_or1 (pt_val (pe_callB call_isi (by rfl) B.isinstance PyProof.Rows.boot_isinstance (pa_cons (pv 1) (pa_cons (pe_bltn (by rfl) B.str PyProof.Rows.boot_str (rr_ty "str")) pa_nil)))))))
          (pss_one (ps_ret (pe_and (pe_cmpR (op_eqD hr.units) (pv 0) (pv 1) (nomark _)) (pe_one (pe_cmpR op_eq (pe_callB call_isi (by rfl) B.isinstance PyProof.Rows.boot_isinstance (pa_cons (pv 0) (pa_cons (pe_bltn (by rfl) B.str PyProof.Rows.boot_str (rr_ty "str")) pa_nil))) (pe_callB call_isi (by rfl) B.isinstance PyProof.Rows.boot_isinstance (pa_cons (pv 1) (pa_cons (pe_bltn (by rfl) B.str PyProof.Rows.boot_str (rr_ty "str")) pa_nil))) (nomark _)))))) pss_nil)
        (pss_one (ps_ret (pe_and (pe_callB call_isi (by rfl) B.isinstance PyProof.Rows.boot_isinstance (pa_cons (pv 0) (pa_cons (pe_bltn (by rfl) B.int PyProof.Rows.boot_int (rr_ty "int")) pa_nil)))
          (pe_and (pe_cmpR op_eq (pe_callB call_isi (by rfl) B.isinstance PyProof.Rows.boot_isinstance (pa_cons (pv 0) (pa_cons (pe_bltn (by rfl) B.bool PyProof.Rows.boot_bool (rr_ty "bool")) pa_nil))) (pe_callB call_isi (by rfl) B.isinstance PyProof.Rows.boot_isinstance (pa_cons (pv 1) (pa_cons (pe_bltn (by rfl) B.bool PyProof.Rows.boot_bool (rr_ty "bool")) pa_nil))) (nomark _))
            (pe_one (pe_cmpR op_eq (pv 0) (pv 1) (nomark _)))))))), ?_⟩
      refine ⟨_, rfl, by show 2 ≤ sizeLine; decide, fun tp htp => ?_⟩
      have s1 := same_new (o := .tup [V.ty "tuple", V.ty "list"]) htp
      have hv1 := Rp.same s1 _ _ hv
      have hu1 := Rp.same s1 _ _ hu
      refine ⟨u, tp, _, _, _, isTL d, rfl, upd_same, cls_TL, rp_ty hu1, kit_TL d, isTL d, rfl, ?_⟩
      by_cases hT : isTL d = true
      · rw [hT]
        refine iteT ⟨_, rfl, by show 2 ≤ sizeLine; decide, fun tp2 htp2 => ?_⟩
        have s2 := same_new (o := .tup [V.ty "tuple", V.ty "list"]) htp2
        have s12 := s1.trans s2
        have hv2 := Rp.same s2 _ _ hv1
        have hu2 := Rp.same s2 _ _ hu1
        refine ⟨v, tp2, _, _, _, isTL d, rfl, upd_same, cls_TL, rp_ty hv2, kit_TL d, isTL d, rfl, ?_⟩
        rw [hT]
        refine iteF ⟨_, rfl, v, .ty "list", _, _, isLst d, rfl, .ty _, rp_ty hv2, kit_ty (kit_lst d), _, rfl, u, .ty "list", _, _, isLst d, rfl, .ty _, rp_ty hu2, kit_ty (kit_lst d), rfl, _, rfl, iteNS rfl ?_⟩
        obtain ⟨a, xs, ds, rfl, ha, hx, hd⟩ := hv2.seq hT
        obtain ⟨b, ys, ds2, rfl, hb, hy, hd2⟩ := hu2.seq hT
        have eds : ds2 = ds := by
          rcases hd with e | e <;> rcases hd2 with e2 | e2 <;> rw [e] at e2 <;> first | (injection e2 with z; exact z.symm) | cases e2
        subst eds
        have hxl := hx.len
        have hyl := hy.len
        have hpl : ∃ k', k = k' + 1 ∧ ds2.length ≤ 1000 ∧ ∀ e ∈ ds2, Pl k' e := by
          cases k with
          | zero => rcases hd with e | e <;> rw [e] at hp <;> exact hp.elim
          | succ k' => rcases hd with e | e <;> rw [e] at hp <;> exact ⟨k', rfl, hp⟩
        obtain ⟨k', ek, hl, hpe⟩ := hpl
        refine ⟨_, rfl, a, xs, rfl, sq_or ha, _, rfl, b, ys, rfl, sq_or hb, rfl, _, rfl, iteNS (by rw [hxl, hyl]) ?_⟩
        refine ⟨_, rfl, b, ys, rfl, sq_or hb, (ys.length : Int), rfl, by omega, by omega, fun D hD => ?_⟩
        refine lc_range (lo := 0) (n := (ys.length : Int).toNat) (fun i H' => Same (upd (upd H tp (.tup [V.ty "tuple", V.ty "list"])) tp2 (.tup [V.ty "tuple", V.ty "list"])) H' ∧ H' D = some (.lst [])) ⟨same_new hD, upd_same⟩ ?_ ?_
        · rintro i H' hi ⟨sm, hDl⟩
          refine ⟨rfl, ?_⟩
          have hid : i < ds2.length := by omega
          obtain ⟨x1, d1, e1, e2, r1⟩ := hx.getR hid
          obtain ⟨x2, d2, e3, e4, r2⟩ := hy.getR hid
          have ed : d1 = d2 := Option.some.inj (e2.symm.trans e4)
          subst ed
          refine ⟨_, rfl, _, rfl, Rp.ix (or_same sm ha) e1 ⟨_, rfl, _, rfl, Rp.ix (or_same sm hb) e3 ?_⟩⟩
          refine hsp x1 x2 d1 H' _ ⟨k', ek, hpe d1 (List.mem_of_getElem? e2)⟩ (Rp.same sm _ _ r1) (Rp.same sm _ _ r2) fun H4 s4 => ?_
          exact ⟨true, rfl, iteF ⟨sm.trans s4, s4 _ _ hDl⟩⟩
        · rintro H' ⟨sm, hDl⟩
          refine ⟨Nat.zero_le _, fun p2 hp2 => ?_⟩
          have s5 := same_new (o := .lst []) hp2
          refine ⟨.list [], .list [], .lst (SqL.of (s5 _ _ hDl)) .nil, .lst (SqL.of upd_same) .nil, rfl, rfl, ?_⟩
          exact q _ ((s12.trans sm).trans s5)
      · have hF : isTL d = false := by simpa using hT
        rw [hF]
        have hi : ∃ i, d = .int i := by
          cases d with
          | int i => exact ⟨i, rfl⟩
          | tuple ds => exact absurd rfl hT
          | list ds => exact absurd rfl hT
          | none => cases k <;> exact hp.elim
          | bool b => cases k <;> exact hp.elim
          | str b => cases k <;> exact hp.elim
          | dict b => cases k <;> exact hp.elim
        obtain ⟨i, rfl⟩ := hi
        cases hv
        cases hu
        refine iteF ⟨_, rfl, _, rfl, iteF ?_⟩
        refine ⟨_, rfl, .int i, .ty "str", _, _, false, rfl, .ty _, .base (.int i), kit_ty (kit_str (.int i)), false, rfl, iteF ?_⟩
        refine ⟨_, rfl, .int i, .ty "int", _, _, true, rfl, .ty _, .base (.int i), kit_ty (kit_int (.int i)), true, rfl, iteT ?_⟩
        refine ⟨_, rfl, .int i, .ty "bool", _, _, false, rfl, .ty _, .base (.int i), kit_ty (kit_bool (.int i)), _, rfl, .int i, .ty "bool", _, _, false, rfl, .ty _, .base (.int i), kit_ty (kit_bool (.int i)), rfl, true, rfl, iteT ?_⟩
        refine ⟨_, rfl, _, rfl, rfl, ?_⟩
        have e : decide (V.int i = V.int i) = true := decide_eq_true rfl
        rw [e]
        exact q _ s1
  intro k
  induction k with
  | zero =>
    obtain ⟨f, fd, hm, F, b⟩ := T
    exact step 0 (fun _ _ _ _ => False) (fun v u d H Q h _ _ _ => by obtain ⟨k', e, _⟩ := h; cases e) ⟨f, fd, hm, F.kp, b, ⟨fun _ _ _ _ h => h.elim, fun _ _ _ _ _ _ _ _ _ _ _ _ _ h => h.elim⟩⟩
  | succ k ih => exact step (k + 1) (spAlike k) (fun v u d H Q h hv hu q => by
      obtain ⟨k', e, hp⟩ := h
      cases e
      exact ⟨v, u, d, rfl, hv, hu, hp, q⟩) ih
end
end Lt

set_option Elab.async false
set_option linter.all false
set_option maxRecDepth 100000
set_option maxHeartbeats 1000000
namespace Lt
open PySem PySem.Spec PyProof.Rows L2
theorem Paired.perm {α β : Type} {R : α → β → Prop} {ys xs : List α} (p : ys.Perm xs) : ∀ {ts : List β}, Paired R xs ts → ∃ us, Paired R ys us ∧ us.Perm ts := by
  induction p with
  | nil => intro ts h; cases h; exact ⟨[], .nil, List.Perm.refl _⟩
  | cons x _ ih =>
    intro ts h
    cases h with
    | cons r t =>
      obtain ⟨us, h1, h2⟩ := ih t
      exact ⟨_ :: us, .cons r h1, h2.cons _⟩
  | swap x y l =>
    intro ts h
    cases h with
    | cons r t =>
      cases t with
      | cons r2 t => exact ⟨_, .cons r2 (.cons r t), List.Perm.swap _ _ _⟩
  | trans _ _ ih1 ih2 =>
    intro ts h
    obtain ⟨us, h1, h2⟩ := ih2 h
    obtain ⟨ws, h3, h4⟩ := ih1 h1
    exact ⟨ws, h3, h4.trans h2⟩
theorem Paired.pairwise {α β : Type} {R : α → β → Prop} {S : α → α → Prop} {S' : β → β → Prop} (h : ∀ x y s t, R x s → R y t → S x y → S' s t) : ∀ {xs : List α} {ts : List β}, Paired R xs ts → xs.Pairwise S → ts.Pairwise S'
  | _, _, .nil, _ => .nil
  | _, _, .cons r t, .cons a b => .cons (fun s hs => by
      obtain ⟨i, hi, e⟩ := List.getElem_of_mem hs
      obtain ⟨x, hx, rx⟩ := Paired.getR t (show _[i]? = some s by rw [List.getElem?_eq_getElem hi, e])
      exact h _ _ _ _ r rx (a x (List.mem_of_getElem? hx))) (Paired.pairwise h t b)
theorem Paired.memL {α β : Type} {R : α → β → Prop} {xs : List α} {ts : List β} (p : Paired R xs ts) {x : α} (h : x ∈ xs) : ∃ t ∈ ts, R x t := by
  obtain ⟨i, hi, e⟩ := List.getElem_of_mem h
  obtain ⟨t, ht, r⟩ := Paired.getL p (show xs[i]? = some x by rw [List.getElem?_eq_getElem hi, e])
  exact ⟨t, List.mem_of_getElem? ht, r⟩
theorem paired_imp {α β : Type} {R R' : α → β → Prop} (h : ∀ a b, R a b → R' a b) : ∀ {xs : List α} {ts : List β}, Paired R xs ts → Paired R' xs ts := paired_mono h
/-- a list of turns whose objects are known -/
def LF (H : Hp) (a : Addr) (ts : List (List Nat)) : Prop := ∃ xs, H a = some (.lst xs) ∧ Paired (TF H) xs ts
theorem TFs.tm {H H' : Hp} (e : Tm H H') {xs : List V} {ts : List (List Nat)} (p : Paired (TF H) xs ts) : Paired (TF H') xs ts := paired_mono (fun _ _ r => TF.tm e r) p
theorem LF.same {H H' : Hp} {a : Addr} {ts : List (List Nat)} (h : LF H a ts) (e : Same H H') : LF H' a ts := let ⟨xs, h1, h2⟩ := h; ⟨xs, e _ _ h1, TFs.tm (.of e) h2⟩
theorem LF.step {K : PySem.W.Frag} {r sc : Addr} {ns : List Int} {H H' : Hp} {a : Addr} {ts : List (List Nat)} (h : LF H a ts) (ra : RowAt K H r sc ns) (hr : a ≠ r) (e : StepR r H H') : LF H' a ts := let ⟨xs, h1, h2⟩ := h; ⟨xs, e _ _ hr h1, TFs.tm (e.tm ra) h2⟩
theorem LF.lt {H : Hp} {a : Addr} {ts : List (List Nat)} (h : LF H a ts) : LT H a ts := let ⟨xs, h1, h2⟩ := h; ⟨xs, h1, paired_mono (fun _ _ r => TF.tn r) h2⟩
/-- the addresses and numbers -/
theorem ks_of {H : Hp} : ∀ {xs : List V} {ts : List (List Nat)}, Paired (TF H) xs ts → ∃ ks : List (Addr × List Int), xs = ks.map (fun p => V.ref p.1) ∧ ks.map (·.2) = ts.map iN ∧ ∀ p ∈ ks, ∃ t ∈ ts, p.2 = iN t ∧ TF H (.ref p.1) t
  | _, _, .nil => ⟨[], rfl, rfl, fun p h => by cases h⟩
  | _, _, .cons (a := x) (b := t) r s => by
    obtain ⟨ks, h1, h2, h3⟩ := ks_of s
    obtain ⟨a, o, e, ho, hd⟩ := id r
    refine ⟨(a, iN t) :: ks, by rw [e, h1]; rfl, by rw [List.map_cons, h2]; rfl, fun p hp => ?_⟩
    rcases List.mem_cons.mp hp with z | hp
    · rw [z]
      exact ⟨t, List.mem_cons_self, rfl, a, o, rfl, ho, hd⟩
    · obtain ⟨t', ht, z⟩ := h3 p hp
      exact ⟨t', List.mem_cons_of_mem _ ht, z⟩
theorem cut_one (xs : List V) (j : Nat) : cutV xs (some (j : Int)) (some ((j : Int) + 1)) = (xs.drop j).take 1 := by
  unfold cutV
  have e : ((j : Int) + 1) = ((j + 1 : Nat) : Int) := by omega
  rw [e, HT.sIx_nat, HT.sIx_nat]
  by_cases h : j < xs.length
  · rw [Nat.min_eq_left (Nat.le_of_lt h), Nat.min_eq_left h]
    congr 1
    omega
  · rw [Nat.min_eq_right (by omega), Nat.min_eq_right (by omega), List.drop_of_length_le (Nat.le_refl _), List.drop_of_length_le (by omega), List.take_nil, List.take_nil]
/-! ### the mirror -/
structure SpI (gs : List (List Nat)) (n j : Nat) (F : List (List Nat)) : Prop where
  nd : F.Nodup
  made : ∀ t ∈ F, Mk gs n t
  st : List.range n ∈ F
  cl : ∀ (i : Nat) (t : List Nat), i < j → F[i]? = some t → ∀ g ∈ gs, prod t g ∈ F
theorem SpI.skip {gs : List (List Nat)} {n j : Nat} {F : List (List Nat)} (h : SpI gs n j F) (hj : F.length ≤ j) : SpI gs n (j + 1) F :=
  ⟨h.nd, h.made, h.st, fun i t hi e => by
    have := (List.getElem?_eq_some_iff.mp e).1
    exact h.cl i t (by omega) e⟩
theorem SpI.next {gs : List (List Nat)} {n j : Nat} {F M : List (List Nat)} {one : List Nat} (h : SpI gs n j F) (h1 : F[j]? = some one) (hM : M.Nodup) (hM1 : ∀ t ∈ M, ∃ g ∈ gs, t = prod one g) (hM2 : ∀ g ∈ gs, prod one g ∈ M) :
    SpI gs n (j + 1) (F ++ M.filter fun t => decide (t ∉ F)) := by
  have hjl := (List.getElem?_eq_some_iff.mp h1).1
  have hone := h.made one (List.mem_of_getElem? h1)
  refine ⟨List.nodup_append.mpr ⟨h.nd, hM.filter _, fun a ha b hb e => ?_⟩, fun t ht => ?_, List.mem_append.mpr (.inl h.st), fun i t hi e g hg => ?_⟩
  · subst e
    have := (List.mem_filter.mp hb).2
    exact (of_decide_eq_true this) ha
  · rcases List.mem_append.mp ht with z | z
    · exact h.made t z
    · obtain ⟨g, hg, e⟩ := hM1 t (List.mem_filter.mp z).1
      rw [e]
      exact .step hone hg
  · rw [List.getElem?_append_left (by omega)] at e
    by_cases hij : i < j
    · exact List.mem_append.mpr (.inl (h.cl i t hij e g hg))
    · have : i = j := by omega
      subst this
      rw [h1] at e
      have e := Option.some.inj e
      subst e
      by_cases hin : prod one g ∈ F
      · exact List.mem_append.mpr (.inl hin)
      · exact List.mem_append.mpr (.inr (List.mem_filter.mpr ⟨hM2 g hg, decide_eq_true hin⟩))
theorem SpI.all {gs : List (List Nat)} {n j : Nat} {F : List (List Nat)} (h : SpI gs n j F) (hj : F.length ≤ j) : ∀ t, t ∈ F ↔ Mk gs n t := fun t => by
  refine ⟨h.made t, fun m => ?_⟩
  induction m with
  | still => exact h.st
  | @step t g _ hg ih =>
    obtain ⟨i, hi, e⟩ := List.getElem_of_mem ih
    exact h.cl i t (by omega) (by rw [List.getElem?_eq_getElem hi, e]) g hg
section
variable {P : Program} {w : World} {K : PySem.W.Frag} {mg : Str → Option Value} {base : Heap}
def spSpan : Sp := fun vs H Q _ => ∃ (gv : V) (gs : List (List Nat)) (n : Nat), vs = [nI n, gv] ∧ TT H gv gs ∧ (∀ g ∈ gs, IsP n g) ∧ 1 ≤ n ∧ n ≤ 9 ∧ gs.length ≤ 60 ∧ Few gs n 63 ∧
  ∀ p H' ts, Same H H' → H p = none → LF H' p ts → ts.Nodup → (∀ t, t ∈ ts ↔ Mk gs n t) → Asc ts → Q (.ref p) H'
theorem sc_law_span : FnScope ["places", "given", "found", "turn", "one", "later", "other"] ["places", "given"] (defScope s_law_span) := ⟨rfl, rfl, rfl, by decide +kernel, rfl, by decide +kernel, by decide +kernel⟩
theorem has_law_span (T : Top K mg "_law_span" s_law_span ["places", "given"]) (B : Bi mg) (hP : Has P w K mg base CX0 1 "_law_behind" ["one", "other"] spProdF) : Has P w K mg base CX0 2 "_law_span" ["places", "given"] spSpan := by
  refine T.ok sc_law_span (fun vs H Q E h => ?_) (fun f cdv A outer s H vs Q E hr h => ?_)
  · obtain ⟨gv, gs, n, rfl, _⟩ := h
    rfl
  · obtain ⟨gv, gs, n, rfl, hgv, hg, hn1, hn9, hgl, hf, q⟩ := h
    have hu64 := hr.units
    have hu65 : A.units + 3 + 65 < cLine := by have := hr.un; show A.units + 3 + 65 < cLine; have e : (A.deeper (envOfC "_law_span" (defScope s_law_span) s.heap.objs.size f cdv)).units = A.units + 3 := rfl; omega
    refine ⟨_, pss_cons (ps_set (i := 2) sc_law_span.nd rfl (Or.inr rfl) (pe_lst (pa_cons (pe_tupRgF (by rfl) (by rfl) B.tuple (prg_1 (by rfl) B.range (pv 0))) pa_nil)))
      (pss_cons (ps_for PassesOwn.never rfl (pi_range1 (by rfl) B.range (pa_cons pe_int pa_nil)) (pg_name (i := 3) sc_law_span.nd rfl (Or.inl rfl))
        (pss_one (ps_for PassesOwn.never rfl (pi_list (pe_slice sl_list (pv 2) (po_some (pv 3)) (po_some (pe_op op_add (pv 3) pe_int)))) (pg_name (i := 4) sc_law_span.nd rfl (Or.inr rfl))
          (pss_cons (ps_setLc (i := 5) (own := [("other", 6)]) (g := gName 6) (te := tCall spProdF [] E0 (tCons (tVar 4) (tCons (tVar 6) tNil))) (by rfl) sc_law_span.nd rfl rfl (sw_true rfl rfl rfl (by decide +kernel)) (pi_tup (pv 1)) (blkOk_by (own := [("other", 6)]) (N := ["places", "given", "found", "turn", "one", "later", "other"]) (sc := defScope s_law_span) (by decide +kernel))
            (fun _ _ _ _ _ => pg_name (i := 6) sc_law_span.nd rfl (Or.inl rfl)) (fun _ _ _ _ _ => pts_nil) (fun _ _ _ _ _ => pe_has hP hr (by rfl) (pa_cons (pv 4) (pa_cons (pv 6) pa_nil))))
          (pss_one (ps_set (i := 2) sc_law_span.nd rfl (Or.inr rfl) (pe_op op_cat (pv 2) (pe_lc (own := [("other", 6)]) (g := gName 6) (tt := tTest (tOp (rNotInD K) (tVar 6) (tVar 2))) (te := tVar 6) (by rfl) sc_law_span.nd
            (pi_list (pe_callB (cr_sortedT (by rfl)) (by rfl) B.sorted PyProof.Rows.boot_sorted (pa_cons (pe_callTy (cr_setOfT (by rfl) hu64) (by rfl) B.set PyProof.Rows.boot_set (pa_cons (pv 5) pa_nil)) pa_nil)))
            (blkOk_by (own := [("other", 6)]) (N := ["places", "given", "found", "turn", "one", "later", "other"]) (sc := defScope s_law_span) (by decide +kernel))
            (fun _ _ _ _ _ => pg_name (i := 6) sc_law_span.nd rfl (Or.inl rfl)) (fun _ _ _ _ _ => pts_one (pt_cmpR (op_notInD hu65) (pv 6) (pv 2) (by rfl))) (fun _ _ _ _ _ => pv 6)))))))))
      (pss_one (ps_ret (pe_callB (cr_sortT (d := n) (B := 9) hn1) (by rfl) B.sorted PyProof.Rows.boot_sorted (pa_cons (pv 2) pa_nil))))), ?_⟩
    obtain ⟨pg, gxs, rfl, hpg, hgx⟩ := hgv
    refine ⟨_, rfl, n, rfl, .of_le (by omega) (by omega) (by omega) (by omega), fun q0 o ho hq0 => ⟨by show 1 ≤ sizeLine; decide, fun fl hfl => ?_⟩⟩
    have s1 := same_new (o := .frz o (.tup (rgV 0 n))) hq0
    have s2 := s1.trans (same_new (o := .lst [.ref q0]) hfl)
    have hq0l : q0 ≠ fl := fun z => by rw [← z, upd_same] at hfl; cases hfl
    refine ⟨300, rfl, by decide, by decide, for_range (lo := 0) (n := 300) (fun j σ H' => ∃ fl F x3 x4 x5 x6, σ = [some (nI n), some (.ref pg), some (.ref fl), x3, x4, x5, x6] ∧ Same H H' ∧ LF H' fl F ∧ SpI gs n j F)
      ⟨fl, [List.range n], none, none, none, none, rfl, s2, ⟨[.ref q0], upd_same, .cons ⟨q0, o, rfl, by rw [upd_ne hq0l, upd_same, rgV_nat], ho⟩ .nil⟩, ⟨List.pairwise_singleton _ _, fun t ht => by rw [List.mem_singleton.mp ht]; exact .still, List.mem_singleton.mpr rfl, fun i t hi => absurd hi (Nat.not_lt_zero i)⟩⟩ ?_ ?_⟩
    · rintro j σ H' hj ⟨fl, F, x3, x4, x5, x6, rfl, sm, ⟨xs, hxs, hp⟩, sp⟩
      simp only [Int.zero_add]
      have hFl : F.length ≤ 63 := hf.le sp.nd sp.made
      have hxl : xs.length = F.length := Paired.length hp
      refine ⟨_, rfl, _, rfl, (j : Int), rfl, _, rfl, (j : Int), 1, rfl, rfl, (j : Int) + 1, rfl, fl, xs, rfl, SqL.of hxs, fun sl hsl => ?_⟩
      have ssl := same_new (o := .lst (cutV xs (some (j : Int)) (some ((j : Int) + 1)))) hsl
      refine ⟨sl, rfl, ⟨_, SqL.of upd_same⟩, for_list (K := K) (a := sl) (xs := cutV xs (some (j : Int)) (some ((j : Int) + 1)))
        (fun i σ H2 => ∃ fl' F' x4 x5 x6, σ = [some (nI n), some (.ref pg), some (.ref fl'), some (nI j), x4, x5, x6] ∧ Same H' H2 ∧ LF H2 fl' F' ∧ (i = 0 → F' = F) ∧ (1 ≤ i → SpI gs n (j + 1) F') ∧ H2 sl = some (.lst (cutV xs (some (j : Int)) (some ((j : Int) + 1)))))
        ⟨fl, F, x4, x5, x6, rfl, ssl, LF.same ⟨xs, hxs, hp⟩ ssl, fun _ => rfl, fun h => absurd h (by omega), upd_same⟩ (fun i σ H2 _ ⟨_, _, _, _, _, _, _, _, _, _, h⟩ => SqL.of h) ?_ ?_⟩
      · rintro i x σ H2 hi ⟨fl', F', x4, x5, x6, rfl, sm1, ⟨xs2, hxs2, hp2⟩, h0, _, hsl2⟩
        have sm2 := sm.trans sm1
        rw [cut_one] at hi
        have hi0 : i = 0 := by
          have := (List.getElem?_eq_some_iff.mp hi).1
          rw [List.length_take] at this
          omega
        subst hi0
        have eF := h0 rfl
        subst eF
        rw [List.getElem?_take_of_lt (by omega), List.getElem?_drop, Nat.add_zero] at hi
        obtain ⟨one, hone, htf0⟩ := Paired.getL hp hi
        have hi := hone
        have htf : TF H2 x one := htf0.tm (.of sm1)
        have honeP := (sp.made one (List.mem_of_getElem? hone)).isP hg
        -- later
        refine ⟨_, rfl, pg, rfl, ⟨_, SqT.of (sm2 _ _ hpg)⟩, fun D hD => lc_tupM TF (gs.map (prod one)) (fun _ _ _ _ e r => TF.tm e r) (SqT.of (sm2 _ _ hpg)) (fun H3 s3 => SqT.of (s3 _ _ (sm2 _ _ hpg))) (by rw [Paired.length hgx]; omega) (by rw [List.length_map, Paired.length hgx]) hD (fun _ => rfl) (fun k y b hy hb H3 s3 Q' q' => ?_) (fun H3 zs s3 hz pz => ?_)⟩
        · obtain ⟨g, hgk, hyg⟩ := Paired.getL hgx hy
          rw [List.getElem?_map, hgk] at hb
          have hb := Option.some.inj hb
          subst hb
          have hgP := hg g (List.mem_of_getElem? hgk)
          exact ⟨_, rfl, _, rfl, x, y, one, g, rfl, htf.tn.tm (.of s3), hyg.tm (.of (sm2.trans s3)), fun i hi => by rw [hgP.len]; exact honeP.lt i hi, by rw [honeP.len]; omega, q'⟩
        · -- found = found + [..]
          obtain ⟨ks, ek1, ek2, ek3⟩ := ks_of pz
          have hksl : ks.length < 64 := by
            have e := congrArg List.length ek2
            rw [List.length_map, List.length_map, List.length_map] at e
            omega
          have hks : ∀ p ∈ ks, SqT K H3 p.1 (p.2.map V.int) := fun p hp => by
            obtain ⟨t, _, e, a, o, ea, hao, _⟩ := ek3 p hp
            cases ea
            rw [e, show (iN t).map V.int = nIs t from (nIs_int t).symm]
            exact RT.sq (.inr ⟨o, hao⟩)
          have hz' : H3 D = some (.lst (ks.map fun p => V.ref p.1)) := by rw [hz, ek1]
          refine ⟨_, rfl, _, rfl, D, ks, rfl, SqL.of hz', hks, hksl, fun aS L haS hL1 hL2 => ?_⟩
          have s4 := same_new (o := SetTO P w aS L) haS
          have hLP : ∀ p ∈ L, ∃ t ∈ gs.map (prod one), p.2 = iN t ∧ TF H3 (.ref p.1) t := fun p hp => ek3 p (hL1 p hp)
          have hmulP : ∀ t ∈ gs.map (prod one), IsP n t := fun t ht => by
            obtain ⟨g, hgm, e⟩ := List.mem_map.mp ht
            rw [← e]
            exact honeP.prod (hg g hgm)
          refine ⟨aS, L, n, 9, rfl, upd_same, fun p hp => ?_, hn1, fun p hp => ?_, fun L' sp' pm nd h64 pw hsp' => ?_⟩
          · rcases hks p (hL1 p hp) with (z | ⟨o, z⟩) | z
            · exact .inl (.inl (s4 _ _ z))
            · exact .inl (.inr ⟨o, s4 _ _ z⟩)
            · exact .inr z
          · obtain ⟨t, ht, e, _⟩ := hLP p hp
            rw [e]
            exact ⟨by rw [iN_len, (hmulP t ht).len], bd_iN (hmulP t ht) hn9⟩
          have s5 := same_new (o := .lst (L'.map fun q : Addr × List Int => V.ref q.1)) hsp'
          have s45 := s4.trans s5
          refine ⟨sp', rfl, ⟨_, SqL.of upd_same⟩, fun D2 hD2 => ?_⟩
          have hL' : ∀ q ∈ L', q.2 = iN (q.2.map Int.toNat) ∧ q.2.map Int.toNat ∈ gs.map (prod one) ∧ TF H3 (.ref q.1) (q.2.map Int.toNat) := fun q hq => by
            obtain ⟨t, ht, e, tf⟩ := hLP q (pm.mem_iff.mp hq)
            have et : q.2.map Int.toNat = t := by
              rw [e]
              show (t.map Int.ofNat).map Int.toNat = t
              rw [List.map_map]
              exact (List.map_congr_left (g := id) fun _ _ => rfl).trans (List.map_id t)
            rw [et]
            exact ⟨e, ht, tf⟩
          have hM : (L'.map fun q : Addr × List Int => q.2.map Int.toNat).Nodup := by
            have e : (L'.map fun q : Addr × List Int => q.2.map Int.toNat).map iN = L'.map (·.2) := by
              rw [List.map_map]
              exact List.map_congr_left fun q hq => (hL' q hq).1.symm
            rw [← e] at nd
            exact nodup_of_map nd
          have hM1 : ∀ t ∈ (L'.map fun q : Addr × List Int => q.2.map Int.toNat), ∃ g ∈ gs, t = prod one g := fun t ht => by
            obtain ⟨q, hq, e⟩ := List.mem_map.mp ht
            obtain ⟨g, hgm, e2⟩ := List.mem_map.mp (hL' q hq).2.1
            exact ⟨g, hgm, by rw [← e, ← e2]⟩
          have hM2 : ∀ g ∈ gs, prod one g ∈ (L'.map fun q : Addr × List Int => q.2.map Int.toNat) := fun g hgm => by
            have h1 : iN (prod one g) ∈ ks.map (·.2) := by
              rw [ek2]
              exact List.mem_map.mpr ⟨_, List.mem_map.mpr ⟨g, hgm, rfl⟩, rfl⟩
            obtain ⟨p, hp, e⟩ := List.mem_map.mp h1
            obtain ⟨q, hq, e2⟩ := List.mem_map.mp (hL2 p hp)
            have hq' := pm.mem_iff.mpr hq
            refine List.mem_map.mpr ⟨q, hq', iN_inj ?_⟩
            rw [← (hL' q hq').1]
            exact e2.trans e
          have hlfl : L'.length ≤ 64 := Nat.le_of_lt h64
          have sB := s3.trans s45
          have hp2B := TFs.tm (.of sB) hp2
          have hxs2B := sB _ _ hxs2
          refine lc_list (xs := L'.map fun q : Addr × List Int => V.ref q.1) (fun i H4 => Same (upd (upd H3 aS (SetTO P w aS L)) sp' (.lst (L'.map fun q : Addr × List Int => V.ref q.1))) H4 ∧ ∃ zs, H4 D2 = some (.lst zs) ∧ Paired (TF H4) zs (((L'.map fun q : Addr × List Int => q.2.map Int.toNat).take i).filter fun t => decide (t ∉ F')) ∧ zs.length ≤ i)
            ⟨same_new hD2, [], upd_same, .nil, Nat.le_refl 0⟩ (fun i H4 _ h => SqL.of (h.1 _ _ upd_same)) ?_ ?_
          · rintro i x' H4 hi' ⟨sD, zs, hz4, pz4, hzl⟩
            rw [List.getElem?_map] at hi'
            obtain ⟨qe, hqe, rfl⟩ := Option.map_eq_some_iff.mp hi'
            have hqm := List.mem_of_getElem? hqe
            obtain ⟨_, ht1, ht2⟩ := hL' qe hqm
            have hil : i < 64 := by have := (List.getElem?_eq_some_iff.mp hqe).1; omega
            have tf4 : TF H4 (.ref qe.1) (qe.2.map Int.toNat) := ht2.tm (.of (s45.trans sD))
            have etake : (L'.map fun q : Addr × List Int => q.2.map Int.toNat).take (i + 1) = (L'.map fun q : Addr × List Int => q.2.map Int.toNat).take i ++ [qe.2.map Int.toNat] := by
              rw [List.take_add_one, List.getElem?_map, hqe]
              rfl
            refine ⟨rfl, _, rfl, _, rfl, dT (qe.2.map Int.toNat), F'.map dT, tf4.tn.dp, .lst (SqL.of (sD _ _ hxs2B)) (TNs.dp (paired_mono (fun _ _ r => TF.tn r) (TFs.tm (.of sD) hp2B))), sh_T _, sh_LT _, _, rfl, ?_⟩
            rw [any_dT]
            by_cases hin : qe.2.map Int.toNat ∈ F'
            · rw [decide_eq_true hin]
              refine iteF ⟨sD, zs, hz4, ?_, by omega⟩
              rw [etake, List.filter_append, List.filter_cons, if_neg (by simpa using hin), List.filter_nil, List.append_nil]
              exact pz4
            · rw [decide_eq_false hin]
              have t4 := Tm.lst (o := .lst (zs ++ [V.ref qe.1])) hz4
              refine iteT ⟨_, rfl, zs, hz4, by rw [sizeLine_eq]; omega, same_mut sD hD2, zs ++ [V.ref qe.1], upd_same, ?_, by rw [List.length_append]; show zs.length + 1 ≤ i + 1; omega⟩
              rw [etake, List.filter_append, List.filter_cons, if_pos (by simpa using hin), List.filter_nil]
              exact Paired.app (TFs.tm t4 pz4) (Paired.one (tf4.tm t4))
          · rintro H4 ⟨sD, zs, hz4, pz4, hzl⟩
            rw [List.length_map, show L'.length = (L'.map fun q : Addr × List Int => q.2.map Int.toNat).length from (List.length_map ..).symm, List.take_length] at pz4
            rw [List.length_map] at hzl
            have hxs4 := sD _ _ hxs2B
            have hx2l : xs2.length ≤ 63 := by rw [Paired.length hp2]; exact hFl
            refine ⟨fl', D2, xs2, zs, rfl, rfl, hxs4, hz4, by rw [sizeLine_eq]; omega, fun np hnp => ?_⟩
            have s6 := same_new (o := .lst (xs2 ++ zs)) hnp
            have sE := (sB.trans sD).trans s6
            refine ⟨np, _, _, _, _, rfl, sm1.trans sE, ⟨xs2 ++ zs, upd_same, Paired.app (TFs.tm (.of (sD.trans s6)) hp2B) (TFs.tm (.of s6) pz4)⟩, fun h => absurd h (by omega), fun _ => sp.next hi hM hM1 hM2, sE _ _ hsl2⟩
      · rintro σ H2 ⟨fl', F', x4, x5, x6, rfl, sm1, lf2, h0, h1, _⟩
        refine ⟨fl', F', _, _, _, _, rfl, sm.trans sm1, lf2, ?_⟩
        rw [cut_one, List.length_take, List.length_drop] at h0 h1
        by_cases hlt : j < xs.length
        · exact h1 (by omega)
        · rw [h0 (by omega)]
          exact sp.skip (by omega)
    · rintro σ H' ⟨fl, F, x3, x4, x5, x6, rfl, sm, ⟨xs, hxs, hp⟩, sp⟩
      have hFl : F.length ≤ 63 := hf.le sp.nd sp.made
      have hxl : xs.length = F.length := Paired.length hp
      refine ⟨_, rfl, fl, xs, rfl, SqL.of hxs, by omega, fun x hx => ?_, fun ys p pm pw hp2 => ?_⟩
      · obtain ⟨t, ht, a, o, rfl, hao, _⟩ := Paired.memL hp hx
        have htP := (sp.made t ht).isP hg
        exact ⟨iN t, ⟨a, rfl, by rw [show (iN t).map V.int = nIs t from (nIs_int t).symm]; exact RT.sq (.inr ⟨o, hao⟩)⟩, by rw [iN_len, htP.len], bd_iN htP hn9⟩
      · obtain ⟨ts, h1, h2⟩ := Paired.perm pm hp
        have s2 := same_new (o := .lst ys) hp2
        refine q p _ ts (sm.trans s2) (sm.free hp2) ⟨ys, upd_same, TFs.tm (.of s2) h1⟩ (h2.nodup_iff.mpr sp.nd) (fun t => h2.mem_iff.trans (sp.all (by omega) t)) ?_
        refine Paired.pairwise (R := TF H') (fun x y s t rx ry hxy => ?_) h1 pw
        obtain ⟨a, o, rfl, hao, _⟩ := rx
        obtain ⟨a', o', rfl, hao', _⟩ := ry
        exact hxy (iN s) (iN t) ⟨a, rfl, by rw [show (iN s).map V.int = nIs s from (nIs_int s).symm]; exact RT.sq (.inr ⟨o, hao⟩)⟩ ⟨a', rfl, by rw [show (iN t).map V.int = nIs t from (nIs_int t).symm]; exact RT.sq (.inr ⟨o', hao'⟩)⟩
end
end Lt

set_option Elab.async false
set_option linter.all false
set_option maxRecDepth 100000
set_option maxHeartbeats 1000000
namespace Lt
open PySem PySem.Spec PyProof.Rows L2
theorem qq_go {gs : List (List Nat)} {n j : Nat} {t w : List Nat} (h : (qq gs n j)[j]? = some (t, w)) : qq gs n (j + 1) = grow t w gs 0 (qq gs n j) := by
  show (match (qq gs n j)[j]? with
    | none => qq gs n j
    | some (t, w) => grow t w gs 0 (qq gs n j)) = _
  rw [h]
theorem qq_stay {gs : List (List Nat)} {n j : Nat} (h : (qq gs n j).length ≤ j) : qq gs n (j + 1) = qq gs n j := by
  show (match (qq gs n j)[j]? with
    | none => qq gs n j
    | some (t, w) => grow t w gs 0 (qq gs n j)) = _
  rw [List.getElem?_eq_none h]
section
variable {P : Program} {w : World} {K : PySem.W.Frag} {mg : Str → Option Value} {base : Heap}
def spLawWords : Sp := fun vs H Q _ => ∃ (v : V) (ls : List (List Nat)) (n : Nat), vs = [v] ∧ Good H v ls n ∧ ∀ d H', Same H H' → H d = none → DW H' d (LL ls n) → Q (.ref d) H'
theorem sc_law_words : FnScope ["lock", "nought", "found", "order", "turn", "one", "place", "other", "two"] ["lock"] (defScope s_law_words) := ⟨rfl, rfl, rfl, by decide +kernel, rfl, by decide +kernel, by decide +kernel⟩
theorem has_law_words (T : Top K mg "_law_words" s_law_words ["lock"]) (B : Bi mg) (hP : Has P w K mg base CX0 1 "_law_behind" ["one", "other"] spProd) : Has P w K mg base CX0 2 "_law_words" ["lock"] spLawWords := by
  refine T.ok sc_law_words (fun vs H Q E h => ?_) (fun f cdv A outer s H vs Q E hr h => ?_)
  · obtain ⟨v, ls, n, rfl, _⟩ := h
    rfl
  · obtain ⟨v, ls, n, rfl, g, q⟩ := h
    have hu := hu_of hr
    have hn9 := g.gl.2.2.2.1
    have hg := g.gl.2.2.2.2
    have hls := g.gl.2.1
    obtain ⟨pm, mxs, b, rfl, hpm, hmx, h0, t0, hbt, htl⟩ := g.tt.head g.gl
    refine ⟨_, pss_cons (ps_set (i := 1) sc_law_words.nd rfl (Or.inl rfl) (pe_tupRg (by rfl) (by rfl) B.tuple (prg_1 (by rfl) B.range (pe_callB call_len_seq (by rfl) B.len PySem.boot_len (pa_cons (pe_ix ix_tup (pv 0) pe_int (fun _ _ => rfl)) pa_nil)))))
      (pss_cons (ps_par (i := 2) (j := 3) (by rfl) sc_law_words.nd rfl rfl (by decide) rfl rfl (pa_cons (pe_dispT hu (pv 1) (pe_tup pa_nil)) (pa_cons (pe_lst (pa_cons (pv 1) pa_nil)) pa_nil)) (by rfl))
      (pss_cons (ps_for PassesOwn.never rfl (pi_range1 (by rfl) B.range (pa_cons pe_int pa_nil)) (pg_name (i := 4) sc_law_words.nd rfl (Or.inl rfl))
        (pss_one (ps_for PassesOwn.never rfl (pi_list (pe_slice sl_list (pv 3) (po_some (pv 4)) (po_some (pe_op op_add (pv 4) pe_int)))) (pg_name (i := 5) sc_law_words.nd rfl (Or.inl rfl))
          (pss_one (ps_for PassesOwn.never rfl (pi_enumT (by rfl) B.enumerate (pa_cons (pv 0) pa_nil)) (pg_tup rfl (pgs_cons (pg_name (i := 6) sc_law_words.nd rfl (Or.inl rfl)) (pgs_cons (pg_name (i := 7) sc_law_words.nd rfl (Or.inl rfl)) pgs_nil)))
            (pss_cons (ps_set (i := 8) sc_law_words.nd rfl (Or.inl rfl) (pe_has hP hr (by rfl) (pa_cons (pv 5) (pa_cons (pv 7) pa_nil))))
            (pss_one (ps_if (pt_cmp (pc_dnotin hu (pv 8) (pv 2)))
              (pss_cons (ps_dput hu (pv 2) (pv 8) (pe_op op_catA (pe_dgetR hu (pv 2) (pv 5) (fun _ _ => rfl)) (pe_tup (pa_cons (pv 6) pa_nil))) rfl)
              (pss_one (ps_expr (pe_bm PySem.F.plainAttrs_list PySem.F.slot_list_append PySem.F.type_list_append mt_append (pv 3) (pa_cons (pv 8) pa_nil)))))
              pss_nil))))))))
      (pss_one (ps_ret (pv 2))))), ?_⟩
    refine ⟨_, rfl, pm, mxs, 0, .ref b, rfl, rfl, SqT.of hpm, h0, b, _, rfl, .inr hbt.sq, n, by rw [nIs_len, htl], .of_le (by omega) (by omega) (by omega) (by omega), fun p0 hp0 => ?_⟩
    have s1 := same_new (o := .tup (rgV 0 n)) hp0
    have hk0 : (upd H p0 (.tup (rgV 0 n))) p0 = some (.tup ((keyN (List.range n)).map kV)) := by
      rw [upd_same, rgV_nat, nIs_key]
      rfl
    refine fun d hd => ⟨_, rfl, Nat.zero_le _, fun pe hpe => ?_⟩
    have hpd : pe ≠ d := fun z => by rw [z, upd_same] at hpe; cases hpe
    have s2 : Same (upd H p0 (.tup (rgV 0 n))) (upd (upd (upd H p0 (.tup (rgV 0 n))) d (.dT [])) pe (.tup [])) := (same_new hd).trans (same_new hpe)
    have hd0 : H d = none := s1.free hd
    refine ⟨p0, keyN (List.range n), rfl, by rw [upd_ne hpd.symm, upd_same], s2 _ _ hk0, ?_⟩
    have s3 : Same H (upd (upd (upd (upd H p0 (.tup (rgV 0 n))) d (.dT [])) pe (.tup [])) d (.dT [(keyN (List.range n), .ref pe)])) := same_mut (s1.trans s2) hd0
    have s3' : Same (upd H p0 (.tup (rgV 0 n))) (upd (upd (upd (upd H p0 (.tup (rgV 0 n))) d (.dT [])) pe (.tup [])) d (.dT [(keyN (List.range n), .ref pe)])) := same_mut s2 hd
    refine ⟨_, rfl, by show 1 ≤ sizeLine; decide, fun ol hol => ⟨_, _, rfl, ?_⟩⟩
    have s4 := same_new (o := .lst [V.ref p0]) hol
    have hol0 : H ol = none := s3.free hol
    have hdo : d ≠ ol := fun z => by rw [← z, upd_same] at hol; cases hol
    have hpo : pe ≠ ol := fun z => by rw [← z, upd_ne hpd, upd_same] at hol; cases hol
    refine ⟨300, rfl, by decide, by decide, for_range (lo := 0) (n := 300) (fun j σ H' => ∃ x4 x5 x6 x7 x8, σ = [some (.ref pm), some (.ref p0), some (.ref d), some (.ref ol), x4, x5, x6, x7, x8] ∧ Same H H' ∧ DW H' d (qq ls n j) ∧ LT H' ol ((qq ls n j).map (·.1)))
      ⟨none, none, none, none, none, rfl, s3.trans s4, ⟨[(keyN (List.range n), .ref pe)], by rw [upd_ne hdo, upd_same], .cons ⟨rfl, pe, rfl, .inl ?_⟩ .nil⟩, ⟨[.ref p0], upd_same, .cons ⟨p0, rfl, .inl ?_⟩ .nil⟩⟩ ?_ ?_⟩
    · rw [upd_ne hpo, upd_ne hpd, upd_same]
      rfl
    · refine s4 _ _ (s3' _ _ ?_)
      rw [upd_same, rgV_nat]
    · rintro j σ H' hj ⟨x4, x5, x6, x7, x8, rfl, sm, dw, ⟨ys, hys, pys⟩⟩
      simp only [Int.zero_add]
      have hLl := g.few.qq j
      have hyl : ys.length = (qq ls n j).length := by rw [Paired.length pys, List.length_map]
      refine ⟨_, rfl, _, rfl, (j : Int), rfl, _, rfl, (j : Int), 1, rfl, rfl, (j : Int) + 1, rfl, ol, ys, rfl, SqL.of hys, fun sl hsl => ?_⟩
      have ssl := same_new (o := .lst (cutV ys (some (j : Int)) (some ((j : Int) + 1)))) hsl
      have hslo : sl ≠ ol := (ne_of_none hys hsl).symm
      have hsld : sl ≠ d := by obtain ⟨kvs, hk, _⟩ := dw; exact (ne_of_none hk hsl).symm
      refine ⟨sl, rfl, ⟨_, SqL.of upd_same⟩, for_list (K := K) (a := sl) (xs := cutV ys (some (j : Int)) (some ((j : Int) + 1)))
        (fun i σ H2 => ∃ x5 x6 x7 x8 L, σ = [some (.ref pm), some (.ref p0), some (.ref d), some (.ref ol), some (nI j), x5, x6, x7, x8] ∧ Same H H2 ∧ Tm H' H2 ∧ DW H2 d L ∧ LT H2 ol (L.map (·.1)) ∧ (i = 0 → L = qq ls n j) ∧ (1 ≤ i → L = qq ls n (j + 1)) ∧ H2 sl = some (.lst (cutV ys (some (j : Int)) (some ((j : Int) + 1)))))
        ⟨x5, x6, x7, x8, _, rfl, sm.trans ssl, .of ssl, dw.same ssl, LT.same ssl ⟨ys, hys, pys⟩, fun _ => rfl, fun h => absurd h (by omega), upd_same⟩ (fun i σ H2 _ ⟨_, _, _, _, _, _, _, _, _, _, _, _, h⟩ => SqL.of h) ?_ ?_⟩
      · rintro i x σ H2 hi ⟨x5, x6, x7, x8, L, rfl, sm2, tm2, dw2, lt2, h0, _, hsl2⟩
        rw [cut_one] at hi
        have hi0 : i = 0 := by
          have := (List.getElem?_eq_some_iff.mp hi).1
          rw [List.length_take] at this
          omega
        subst hi0
        have eL := h0 rfl
        subst eL
        rw [List.getElem?_take_of_lt (by omega), List.getElem?_drop, Nat.add_zero] at hi
        obtain ⟨t, ht, htn0⟩ := Paired.getL pys hi
        rw [List.getElem?_map] at ht
        obtain ⟨⟨t', w'⟩, hq, et⟩ := Option.map_eq_some_iff.mp ht
        have et : t' = t := et
        subst et
        have hgo := qq_go hq
        have htP : IsP n t' := Mk.isP hg (qq_mk ls n j t' (List.mem_map.mpr ⟨_, List.mem_of_getElem? hq, rfl⟩))
        have hwl : w'.length ≤ 300 := Nat.le_trans (qq_w ls n j _ (List.mem_of_getElem? hq)) (Nat.le_of_lt hj)
        have htn2 : TN H2 x t' := htn0.tm tm2
        refine ⟨_, rfl, pm, _, rfl, SqT.of (sm2 _ _ hpm), for_enumT (K := K) (xs := mxs)
          (fun k σ3 H3 => ∃ z6 z7 z8, σ3 = [some (.ref pm), some (.ref p0), some (.ref d), some (.ref ol), some (nI j), some x, z6, z7, z8] ∧ Same H H3 ∧ Tm H2 H3 ∧ DW H3 d (grow t' w' (ls.take k) 0 (qq ls n j)) ∧ LT H3 ol ((grow t' w' (ls.take k) 0 (qq ls n j)).map (·.1)) ∧ H3 sl = some (.lst (cutV ys (some (j : Int)) (some ((j : Int) + 1)))))
          ⟨x6, x7, x8, rfl, sm2, Tm.refl _, dw2, lt2, hsl2⟩ (fun k σ3 H3 _ ⟨_, _, _, _, s, _⟩ => SqT.of (s _ _ hpm)) ?_ ?_⟩
        · rintro k y σ3 H3 T hk ⟨z6, z7, z8, rfl, sm3, tm3, dw3, ⟨gz, hgz, pgz⟩, hsl3⟩ hT
          obtain ⟨gk, hgk, hyg0⟩ := Paired.getL hmx hk
          have hgP := hg gk (List.mem_of_getElem? hgk)
          have sT := same_new (o := .tup [nI k, y]) hT
          refine ⟨T, _, rfl, SqT.of upd_same, rfl, nI k, _, rfl, y, _, rfl, rfl, ?_⟩
          refine ⟨_, rfl, _, rfl, pr_call (htn2.tm (tm3.trans (.of sT))) (hyg0.tm (.of (sm3.trans sT))) htP hgP (by omega) fun v H4 s4 hv => ?_⟩
          have s34 : Same H3 H4 := sT.trans s4
          obtain ⟨b1, rfl, hb1⟩ := hv.key
          obtain ⟨kv4, hk4, pk4⟩ := dw3.same s34
          have hgz4 := s34 _ _ hgz
          have pgz4 := TNs.tm (.of s34) pgz
          have sm4 : Same H H4 := sm3.trans s34
          have hsl4 := s34 _ _ hsl3
          have hnd : ((grow t' w' (ls.take k) 0 (qq ls n j)).map (·.1)).Nodup := grow_nd _ _ _ _ _ (qq_nd ls n j)
          have hnx := grow_next (t := t') (w := w') hgk (qq ls n j)
          obtain ⟨Mg, eMg⟩ := grow_pre t' w' (ls.take k) 0 (qq ls n j)
          refine ⟨_, rfl, _, rfl, d, _, rfl, DGet.t hk4 hb1, _, rfl, ?_⟩
          rw [dw_isSome pk4 hnd]
          by_cases hin : prod t' gk ∈ (grow t' w' (ls.take k) 0 (qq ls n j)).map (·.1)
          · rw [if_pos hin] at hnx
            rw [decide_eq_true hin]
            refine iteF ⟨_, _, _, rfl, sm4, tm3.trans (.of s34), ?_, ?_, hsl4⟩
            · rw [hnx]
              exact ⟨kv4, hk4, pk4⟩
            · rw [hnx]
              exact ⟨gz, hgz4, pgz4⟩
          · rw [if_neg hin] at hnx
            rw [decide_eq_false hin]
            refine iteT ?_
            have hmem : (t', w') ∈ grow t' w' (ls.take k) 0 (qq ls n j) := by
              rw [eMg]
              exact List.mem_append.mpr (.inl (List.mem_of_getElem? hq))
            obtain ⟨wv, hwv, hwn⟩ := dw_some pk4 hnd hmem
            obtain ⟨b2, rfl, hb2⟩ := (htn2.tm (tm3.trans (.of s34))).key
            obtain ⟨pw', rfl, hpw⟩ := hwn
            refine ⟨_, rfl, _, rfl, d, .ref pw', kv4, _, _, rfl, rfl, .inl hk4, hb2, hwv, _, rfl, by show 1 ≤ sizeLine; decide, fun p hp => ?_⟩
            have s5 := same_new (o := .tup [nI k]) hp
            refine catA_tn (hpw.sm s5) upd_same (by omega) fun v5 H5 s6 hv5 => ?_
            have s45 := s5.trans s6
            have hk5 := s45 _ _ hk4
            have hsz : kv4.length ≤ 1000 := by
              have h1 := grow_len t' w' (ls.take k) 0 (qq ls n j)
              rw [List.length_take] at h1
              have h2 := Paired.length pk4
              omega
            refine ⟨_, rfl, _, rfl, d, _, rfl, DPut.t hk5 (s45 _ _ hb1) (by rw [sizeLine_eq]; omega), ?_⟩
            rw [putK_new v5 (dw_none pk4 hin)]
            have t6 : Tm H5 (upd H5 d (.dT (kv4 ++ [(keyN (prod t' gk), v5)]))) := Tm.dT hk5
            have hg6 : (upd H5 d (.dT (kv4 ++ [(keyN (prod t' gk), v5)]))) ol = some (.lst gz) := by
              rw [upd_ne (ne_of hgz4 hk4 (fun z => nomatch z))]
              exact s45 _ _ hgz4
            have hgzl : gz.length ≤ 1000 := by
              rw [Paired.length pgz, List.length_map, ← Paired.length pk4]
              omega
            refine ⟨_, rfl, .inl ⟨rfl, _, SqL.of hg6⟩, _, rfl, ol, _, _, rfl, rfl, hg6, by rw [sizeLine_eq]; omega, ?_⟩
            have t7 := Tm.lst (o := .lst (gz ++ [.ref b1])) hg6
            have tt := (Tm.of s45).trans (t6.trans t7)
            have hdo2 : d ≠ ol := (ne_of hgz4 hk4 (fun z => nomatch z)).symm
            refine ⟨_, _, _, rfl, same_mut (same_mut (sm4.trans s45) hd0) hol0, (tm3.trans (.of s34)).trans tt, ?_, ?_, ?_⟩
            · rw [hnx]
              exact ⟨kv4 ++ [(keyN (prod t' gk), v5)], by rw [upd_ne hdo2, upd_same], Paired.app (DEs.tm tt pk4) (Paired.one ⟨rfl, hv5.tm (t6.trans t7)⟩)⟩
            · rw [hnx, List.map_append]
              exact ⟨gz ++ [.ref b1], upd_same, Paired.app (TNs.tm tt pgz4) (Paired.one (hv.tn.tm tt))⟩
            · rw [upd_ne hslo, upd_ne hsld]
              exact s45 _ _ hsl4
        · rintro σ3 H3 ⟨z6, z7, z8, rfl, sm3, tm3, dw3, lt3, hsl3⟩
          have e : ls.take mxs.length = ls := by rw [Paired.length hmx, List.take_length]
          rw [e, ← hgo] at dw3 lt3
          exact ⟨_, _, _, _, _, rfl, sm3, tm2.trans tm3, dw3, lt3, fun h => absurd h (by omega), fun _ => rfl, hsl3⟩
      · rintro σ H2 ⟨x5, x6, x7, x8, L, rfl, sm2, tm2, dw2, lt2, h0, h1, _⟩
        rw [cut_one, List.length_take, List.length_drop] at h0 h1
        by_cases hlt : j < ys.length
        · have eL := h1 (by omega)
          subst eL
          exact ⟨_, _, _, _, _, rfl, sm2, dw2, lt2⟩
        · have eL := h0 (by omega)
          subst eL
          refine ⟨_, _, _, _, _, rfl, sm2, ?_⟩
          rw [qq_stay (by omega)]
          exact ⟨dw2, lt2⟩
    · rintro σ H' ⟨x4, x5, x6, x7, x8, rfl, sm, dw, lt⟩
      exact ⟨_, rfl, q d H' sm hd0 (by rw [LL_eq]; exact dw)⟩
end
end Lt

set_option Elab.async false
set_option linter.all false
set_option maxRecDepth 100000
set_option maxHeartbeats 1000000
namespace Lt
open PySem PySem.Spec PyProof.Rows L2
/-! ### a written table of locks -/
def isInts : List Expr → List Nat → Bool
  | [], [] => true
  | .Constant (.int i) _ _ :: es, n :: t => decide (i = Int.ofNat n) && isInts es t
  | _, _ => false
def isTurns : List Expr → List (List Nat) → Bool
  | [], [] => true
  | .Tuple es _ _ :: r, t :: ts => isInts es t && isTurns r ts
  | _, _ => false
def isTab : List (Option Expr) → List Expr → List (Str × List (List Nat)) → Bool
  | [], [], [] => true
  | some (.Constant (.str x) _ _) :: ks, .Tuple es _ _ :: vs, (y, ts) :: tab => decide (x = y) && isTurns es ts && isTab ks vs tab
  | _, _, _ => false
theorem PA.imp {X : Cx} {es : List Expr} {t t' : TA} (h : PA X es t) (i : ∀ σ H Q, t' σ H Q → t σ H Q) : PA X es t' := ⟨fun pos pins s σ H Q I q => h.run pos pins s σ H Q I (i σ H Q q)⟩
theorem PE.imp {X : Cx} {e : Expr} {t t' : TE} (h : PE X e t) (i : ∀ σ H Q, t' σ H Q → t σ H Q) : PE X e t' := ⟨fun pins s σ H Q I q => h.run pins s σ H Q I (i σ H Q q)⟩
section
variable {X : Cx}
theorem pa_ints : ∀ {es : List Expr} {t : List Nat}, isInts es t = true → PA X es (fun _ H Q => Q (nIs t) H)
  | [], [], _ => pa_nil
  | [], _ :: _, h => by cases h
  | e :: es, [], h => by
    cases e with
    | Constant c j p => cases c <;> cases h
    | _ => cases h
  | e :: es, n :: t, h => by
    cases e with
    | Constant c j p =>
      cases c with
      | int i =>
        have h : (decide (i = Int.ofNat n) && isInts es t) = true := h
        rw [Bool.and_eq_true, decide_eq_true_eq] at h
        obtain ⟨rfl, h2⟩ := h
        exact PA.imp (pa_cons pe_int (pa_ints h2)) fun σ H Q q => q
      | _ => cases h
    | _ => cases h
theorem pe_turn {es : List Expr} {k : Nat} {pos : Pos} {t : List Nat} (h : isInts es t = true) (hl : t.length ≤ 1000) : PE X (.Tuple es k pos) (fun _ H Q => ∀ v H', Same H H' → TK H' v t → Q v H') :=
  PE.imp (pe_tup (pa_ints h)) fun σ H Q q => ⟨by rw [nIs_len, sizeLine_eq]; omega, fun p hp => q _ _ (same_new hp) ⟨p, rfl, upd_same⟩⟩
theorem pa_turns : ∀ {es : List Expr} {ts : List (List Nat)}, isTurns es ts = true → (∀ t ∈ ts, t.length ≤ 1000) → PA X es (fun _ H Q => ∀ vs H', Same H H' → Paired (TN H') vs ts → Q vs H')
  | [], [], _, _ => PA.imp pa_nil fun σ H Q q => q _ _ (Same.refl _) .nil
  | [], _ :: _, h, _ => by cases h
  | e :: es, [], h, _ => by cases e <;> cases h
  | e :: es, t :: ts, h, hl => by
    cases e with
    | Tuple es2 k pos =>
      have h : (isInts es2 t && isTurns es ts) = true := h
      rw [Bool.and_eq_true] at h
      refine PA.imp (pa_cons (pe_turn h.1 (hl t List.mem_cons_self)) (pa_turns h.2 fun x hx => hl x (List.mem_cons_of_mem _ hx))) fun σ H Q q => ?_
      exact fun v H1 s1 hv vs H2 s2 hvs => q _ _ (s1.trans s2) (.cons (hv.tn.tm (.of s2)) hvs)
    | _ => cases h
def Tb (H : Hp) (p : V × V) (x : Str × List (List Nat)) : Prop := p.1 = .str x.1 ∧ TT H p.2 x.2
theorem pps_tab {pos : Pos} : ∀ {ks : List (Option Expr)} {vs : List Expr} {tab : List (Str × List (List Nat))}, isTab ks vs tab = true → (∀ x ∈ tab, x.2.length ≤ 1000 ∧ ∀ t ∈ x.2, t.length ≤ 1000) →
    ∃ trs, PPs X pos ks vs trs ∧ ∀ σ H Q, (∀ ps H', Same H H' → Paired (Tb H') ps tab → Q ps H') → tPairs trs σ H Q
  | [], [], [], _, _ => ⟨[], pps_nil, fun σ H Q q => q _ _ (Same.refl _) .nil⟩
  | [], [], _ :: _, h, _ => by cases h
  | [], _ :: _, _, h, _ => by cases h
  | k :: ks, [], tab, h, _ => by
    cases k with
    | none => cases h
    | some e => cases e with
      | Constant c j p => cases c <;> cases h
      | _ => cases h
  | k :: ks, v :: vs, [], h, _ => by
    cases k with
    | none => cases h
    | some e => cases e with
      | Constant c j p => cases c <;> cases v <;> cases h
      | _ => cases h
  | k :: ks, v :: vs, (y, ts) :: tab, h, hl => by
    cases k with
    | none => cases h
    | some e => cases e with
      | Constant c j p => cases c with
        | str x => cases v with
          | Tuple es k2 pos2 =>
            have h : (decide (x = y) && isTurns es ts && isTab ks vs tab) = true := h
            rw [Bool.and_eq_true, Bool.and_eq_true, decide_eq_true_eq] at h
            obtain ⟨⟨rfl, h1⟩, h2⟩ := h
            obtain ⟨hl1, hl2⟩ := hl (x, ts) List.mem_cons_self
            obtain ⟨trs, p, r⟩ := pps_tab h2 fun z hz => hl z (List.mem_cons_of_mem _ hz)
            refine ⟨_, pps_cons pe_str (pe_tup (pa_turns h1 hl2)) p, fun σ H Q q => ?_⟩
            refine fun us H1 s1 hus => ⟨by rw [Paired.length hus, sizeLine_eq]; exact Nat.le_trans hl1 (by decide), fun pt hpt => ?_⟩
            have s2 := same_new (o := .tup us) hpt
            refine r σ _ _ fun ps H3 s3 hps => q _ _ ((s1.trans s2).trans s3) (.cons ⟨rfl, TT.tm (.of s3) ⟨pt, us, rfl, upd_same, TNs.tm (.of s2) hus⟩⟩ hps)
          | _ => cases h
        | _ => cases h
      | _ => cases h
/-- what a dict of names and locks holds -/
def DB (H : Hp) (kv : Key × V) (x : Str × List (List Nat)) : Prop := kv.1 = Sum.inr x.1 ∧ TT H kv.2 x.2
theorem tb_kvs {H : Hp} : ∀ {ps : List (V × V)} {tab : List (Str × List (List Nat))}, Paired (Tb H) ps tab → ∃ kvs : List (Key × V), ps = kvs.map (fun kv => (kV kv.1, kv.2)) ∧ Paired (DB H) kvs tab
  | _, _, .nil => ⟨[], rfl, .nil⟩
  | p :: _, x :: _, .cons r t => by
    obtain ⟨kvs, h1, h2⟩ := tb_kvs t
    refine ⟨(Sum.inr x.1, p.2) :: kvs, ?_, .cons ⟨rfl, r.2⟩ h2⟩
    rw [h1]
    have e : p = (V.str x.1, p.2) := Prod.ext r.1 rfl
    rw [e]
    rfl
theorem db_val {H : Hp} {x : Str} {ts : List (List Nat)} : ∀ {kvs : List (Key × V)} {tab : List (Str × List (List Nat))}, Paired (DB H) kvs tab → (tab.map (·.1)).Nodup → (x, ts) ∈ tab → ∃ v, valV kvs (Sum.inr x) = some v ∧ TT H v ts
  | _, _, .nil, _, h => by cases h
  | p :: ps, q :: qs, .cons r s, hn, h => by
    rw [List.map_cons] at hn
    obtain ⟨h1, h2⟩ := List.nodup_cons.mp hn
    rcases List.mem_cons.mp h with e | h
    · subst e
      exact ⟨p.2, valV_pos r.1, r.2⟩
    · have hne : ¬ p.1 = Sum.inr x := fun e => h1 (by
        rw [r.1] at e
        injection e with e
        rw [e]
        exact List.mem_map.mpr ⟨_, h, rfl⟩)
      rw [valV_neg hne]
      exact db_val s h2 h
theorem mergeK_nil {H : Hp} : ∀ {kvs : List (Key × V)} {tab : List (Str × List (List Nat))} {acc : List (Key × V)} {at_ : List (Str × List (List Nat))}, Paired (DB H) kvs tab → Paired (DB H) acc at_ → ((at_ ++ tab).map (·.1)).Nodup → mergeK acc kvs = acc ++ kvs
  | _, _, acc, _, .nil, _, _ => by
    show acc = acc ++ []
    rw [List.append_nil]
  | p :: ps, q :: qs, acc, at_, .cons r s, ha, hn => by
    have hnone : valV acc p.1 = none := by
      cases e : valV acc p.1 with
      | none => rfl
      | some v =>
        exfalso
        have m := valV_in e
        obtain ⟨kv, hkv, ekv⟩ := List.mem_map.mp m
        obtain ⟨y, hy, ry⟩ := Paired.memL ha hkv
        have e1 : y.1 = q.1 := by
          have z : (Sum.inr y.1 : Key) = Sum.inr q.1 := ry.1.symm.trans (ekv.trans r.1)
          injection z
        rw [List.map_append, List.map_cons] at hn
        exact (List.nodup_append.mp hn).2.2 y.1 (List.mem_map.mpr ⟨y, hy, rfl⟩) q.1 List.mem_cons_self e1
    show mergeK (putK acc p.1 p.2) ps = acc ++ p :: ps
    rw [putK_new p.2 hnone, mergeK_nil (acc := acc ++ [(p.1, p.2)]) (at_ := at_ ++ [q]) s (Paired.app ha (Paired.one r)) (by rw [List.append_assoc]; exact hn), List.append_assoc]
    rfl
/-- {'a': ((..), ..), ..} -/
def tTab (tab : List (Str × List (List Nat))) : TE := fun _ H Q => ∀ p H' kvs, Same H H' → H p = none → H' p = some (.dK kvs) → Paired (DB H') kvs tab → Q (.ref p) H'
theorem pe_tab {ks : List (Option Expr)} {vs : List Expr} {pos : Pos} {tab : List (Str × List (List Nat))} (h : isTab ks vs tab = true) (hl : ∀ x ∈ tab, x.2.length ≤ 1000 ∧ ∀ t ∈ x.2, t.length ≤ 1000) (hn : (tab.map (·.1)).Nodup) (h15 : tab.length ≤ 15)
    (hall : ks.all (·.isSome) = true) (hlen : ks.length = vs.length) (h0 : ks ≠ []) (hk15 : ks.length ≤ 15) : PE X (.Dict ks vs pos) (tTab tab) := by
  obtain ⟨trs, p, r⟩ := pps_tab (X := X) (pos := pos) h hl
  refine PE.imp (pe_disp p hall hlen h0 hk15) fun σ H Q q => ?_
  refine fun d hd => r σ _ _ fun ps H2 s2 hps => ⟨s2 _ _ upd_same, ?_⟩
  obtain ⟨kvs, e, hb⟩ := tb_kvs hps
  refine ⟨kvs, e, by rw [Paired.length hb]; exact h15, ?_⟩
  have em : mergeK [] kvs = kvs := mergeK_nil (acc := []) (at_ := []) hb .nil hn
  rw [em]
  have hd2 : H2 d = some (.dK []) := s2 _ _ upd_same
  have tm : Tm H2 (upd H2 d (.dK kvs)) := .mut hd2 (fun _ z => nomatch z) fun _ _ z => nomatch z
  have sH : Same H (upd H2 d (.dK kvs)) := same_mut ((same_new hd).trans s2) hd
  exact q d _ kvs sH hd upd_same (paired_mono (fun a b z => ⟨z.1, z.2.tm tm⟩) hb)
end
def names : List Str := ["four", "klein", "square", "cube", "eight", "nine", "quaternions", "threes", "three", "tetra", "six", "heis", "five", "whole", "ten"]
def table : List (Str × List (List Nat)) := names.zip known
theorem table_nd : (table.map (·.1)).Nodup := by decide +kernel
theorem table_len : ∀ x ∈ table, x.2.length ≤ 1000 ∧ ∀ t ∈ x.2, t.length ≤ 1000 := by decide +kernel
theorem table_known {x : Str × List (List Nat)} (h : x ∈ table) : x.2 ∈ known := by
  unfold table at h
  exact (List.of_mem_zip (a := x.1) (b := x.2) h).2
end Lt

set_option Elab.async false
set_option linter.all false
set_option maxRecDepth 100000
set_option maxHeartbeats 1000000
namespace Lt
open PySem PySem.Spec PyProof.Rows L2
theorem names_in : ∀ nm ∈ names, ∃ ts, (nm, ts) ∈ table := fun nm h => by
  have z : (names.all fun nm => table.any fun x => decide (x.1 = nm)) = true := by decide +kernel
  obtain ⟨x, hx, e⟩ := List.any_eq_true.mp (List.all_eq_true.mp z nm h)
  have e := of_decide_eq_true e
  exact ⟨x.2, by rw [← e]; exact hx⟩
theorem three_of {nm : Str} {ts : List (List Nat)} (h : (nm, ts) ∈ table) : ts.length ≤ 3 := by
  have z : (table.all fun x => decide (x.2.length ≤ 3)) = true := by decide +kernel
  exact of_decide_eq_true (List.all_eq_true.mp z _ h)
section
variable {P : Program} {w : World} {K : PySem.W.Frag} {mg : Str → Option Value} {base : Heap}
def spKnown (K : PySem.W.Frag) : Sp := fun vs H Q _ => ∃ (r kl sc : Addr) (ns : List Int) (kn : List Str), vs = [.ref r, .ref kl] ∧ RowAt K H r sc ns ∧ H kl = some (.lst (kn.map V.str)) ∧ kl ≠ r ∧ 1 ≤ kn.length ∧ kn.length ≤ 100 ∧ (∀ x ∈ kn, x ∈ names) ∧
  ∀ v H' ls n, ls.length ≤ 3 → GL ls n → Few ls n 63 → StepR r H H' → RowAt K H' r sc ns → TT H' v ls → Q v H'
theorem sc_law_known : FnScope ["row", "kinds", "locks", "lock", "order", "found", "turn", "named", "place", "comes"] ["row", "kinds"] (defScope s_law_known) := ⟨rfl, rfl, rfl, by decide +kernel, rfl, by decide +kernel, by decide +kernel⟩
theorem has_law_known (T : Top K mg "_law_known" s_law_known ["row", "kinds"]) (B : Bi mg) (hK : Has P w K mg base CX0 2 "_law_pick" ["row", "things"] (spPick K)) (hM : Has P w K mg base CX0 2 "_law_permutation" ["row", "places"] (spLawPerm K)) : Has P w K mg base CX0 3 "_law_known" ["row", "kinds"] (spKnown K) := by
  refine T.ok sc_law_known (fun vs H Q E h => ?_) (fun f cdv A outer s H vs Q E hr h => ?_)
  · obtain ⟨r, kl, sc, ns, kn, rfl, _⟩ := h
    rfl
  · obtain ⟨r, kl, sc, ns, kn, rfl, ra, hkl, hne, hk1, hk2, hkn, q⟩ := h
    have hu := hu_of hr
    refine ⟨_, pss_cons (ps_set (i := 2) sc_law_known.nd rfl (Or.inl rfl) (pe_tab (tab := table) (by decide +kernel) table_len table_nd (by decide) (by rfl) (by rfl) (fun z => by cases z) (by decide)))
      (pss_cons (ps_set (i := 3) sc_law_known.nd rfl (Or.inl rfl) (pe_dget hu (pv 2) (pe_has hK hr (by rfl) (pa_cons (pv 0) (pa_cons (pv 1) pa_nil))) (fun _ _ => rfl)))
      (pss_cons (ps_set (i := 4) sc_law_known.nd rfl (Or.inl rfl) (pe_has hM hr (by rfl) (pa_cons (pv 0) (pa_cons (pe_callB call_len_seq (by rfl) B.len PySem.boot_len (pa_cons (pe_ix ix_tup (pv 3) pe_int (fun _ _ => rfl)) pa_nil)) pa_nil))))
      (pss_cons (ps_set (i := 5) sc_law_known.nd rfl (Or.inl rfl) (pe_lst pa_nil))
      (pss_cons (ps_for PassesOwn.never rfl (pi_tup (pv 3)) (pg_name (i := 6) sc_law_known.nd rfl (Or.inl rfl))
        (pss_cons (ps_set (i := 7) sc_law_known.nd rfl (Or.inl rfl) (pe_op op_rep (pe_lst (pa_cons pe_int pa_nil)) (pe_callB call_len_seq (by rfl) B.len PySem.boot_len (pa_cons (pv 6) pa_nil))))
        (pss_cons (ps_for PassesOwn.never rfl (pi_enumT (by rfl) B.enumerate (pa_cons (pv 6) pa_nil)) (pg_tup rfl (pgs_cons (pg_name (i := 8) sc_law_known.nd rfl (Or.inl rfl)) (pgs_cons (pg_name (i := 9) sc_law_known.nd rfl (Or.inl rfl)) pgs_nil)))
          (pss_one (ps_asg (pe_ix ix_tup (pv 4) (pv 9) (fun _ _ => rfl)) (pg_sub (pv 7) (pe_ix ix_tup (pv 4) (pv 8) (fun _ _ => rfl)) set_list))))
        (pss_one (ps_expr (pe_bm PySem.F.plainAttrs_list PySem.F.slot_list_append PySem.F.type_list_append mt_append (pv 5) (pa_cons (pe_tupleOf (by rfl) B.tuple (pv 7)) pa_nil)))))))
      (pss_one (ps_ret (pe_tupleOf (by rfl) B.tuple (pv 5)))))))), ?_⟩
    refine fun d H1 kvs s1 hd hd1 hDB => ?_
    refine ⟨_, rfl, _, rfl, _, rfl, r, kl, sc, ns, kn.map V.str, rfl, ra.step s1, s1 _ _ hkl, hne, by rw [List.length_map]; exact hk1, by rw [List.length_map]; omega, fun x H2 hx st2 ra2 => ?_⟩
    obtain ⟨nm, hnm, rfl⟩ := List.mem_map.mp hx
    obtain ⟨ts, hts⟩ := names_in nm (hkn nm hnm)
    obtain ⟨n, hf1, hf2, hf3, hf4, hf5, hf6⟩ := fine_of (table_known hts)
    obtain ⟨lv, hlv, htt1⟩ := db_val hDB table_nd hts
    have hdr : d ≠ r := (ra.ne hd).symm
    have hd2 := st2 _ _ hdr hd1
    have htt2 := htt1.tm (st2.tm (ra.step s1))
    refine ⟨d, lv, rfl, by rw [← hlv]; exact DGet.k (k := Sum.inr nm) hd2, ?_⟩
    have gl : GL ts n := ⟨hf1, hf2, hf3, hf4, hf5⟩
    obtain ⟨a, xs, b, rfl, ha, hp, h0, t0, hbt, htl⟩ := htt2.head gl
    refine ⟨_, rfl, _, rfl, a, xs, 0, .ref b, rfl, rfl, SqT.of ha, h0, b, _, rfl, .inr hbt.sq, r, sc, ns, n, by rw [nIs_len, htl]; rfl, ra2, by omega, fun o H3 s hs st3 ra3 ho => ?_⟩
    have ha3 : H3 a = some (.tup xs) := (st3.tm ra2).1 _ _ ha
    have hp3 : Paired (TN H3) xs ts := TNs.tm (st3.tm ra2) hp
    obtain ⟨po, rfl, hpo⟩ := ho
    have st13 : StepR r H H3 := ((StepR.of s1).trans st2).trans st3
    refine ⟨Nat.zero_le _, fun fl hfl => ?_⟩
    have sl := same_new (o := .lst []) hfl
    refine ⟨_, rfl, a, rfl, ⟨_, SqT.of (sl _ _ ha3)⟩, for_tup (K := K) (a := a) (xs := xs) (fun i σ H' => ∃ x6 x7 x8 x9 us, σ = [some (.ref r), some (.ref kl), some (.ref d), some (.ref a), some (.ref po), some (.ref fl), x6, x7, x8, x9] ∧ Same H3 H' ∧ H' fl = some (.lst us) ∧ Paired (TN H') us ((ts.take i).map (cj s)))
      ⟨none, none, none, none, [], rfl, sl, upd_same, .nil⟩ (fun i σ H' _ ⟨_, _, _, _, _, _, s, _⟩ => SqT.of (s _ _ ha3)) ?_ ?_⟩
    · rintro i x σ H' hi ⟨x6, x7, x8, x9, us, rfl, sm, hus, pus⟩
      obtain ⟨t, ht, htn0⟩ := Paired.getL hp3 hi
      have htP := hf5 t (List.mem_of_getElem? ht)
      obtain ⟨pt, rfl, hpt⟩ := htn0.tm (.of sm)
      have hil : i < 4 := Nat.lt_of_lt_of_le (List.getElem?_eq_some_iff.mp ht).1 hf2
      refine ⟨by show 1 ≤ sizeLine; decide, fun l hl => ?_⟩
      have s5 := same_new (o := .lst [V.int 0]) hl
      refine ⟨_, rfl, pt, _, rfl, .inr (hpt.sm s5).sq, l, (t.length : Int), [V.int 0], rfl, by rw [nIs_len], upd_same, by omega, by rw [htP.len]; omega, ?_, fun nm hnm => ?_⟩
      · show 1 * (t.length : Int).toNat ≤ sizeLine
        rw [htP.len, sizeLine_eq]
        omega
      have s6 := s5.trans (same_new (o := .lst (List.replicate (t.length : Int).toNat [V.int 0]).flatten) hnm)
      have hnm0 : H' nm = none := s5.free hnm
      refine ⟨_, rfl, pt, _, rfl, (hpt.sm s6).sq, for_enumT (K := K) (xs := nIs t) (fun k σ2 H2' => ∃ (acc : List Nat) (y z : Option V), σ2 = [some (.ref r), some (.ref kl), some (.ref d), some (.ref a), some (.ref po), some (.ref fl), some (.ref pt), some (.ref nm), y, z] ∧ Same H' H2' ∧ H2' nm = some (.lst (nIs acc)) ∧ acc.length = n ∧ ∀ (i si ti : Nat), i < k → s[i]? = some si → t[i]? = some ti → acc[si]? = s[ti]?)
        ⟨List.replicate n 0, x8, x9, rfl, s6, by rw [upd_same, ← rep_zero, htP.len]; rfl, List.length_replicate .., fun i si ti h => absurd h (Nat.not_lt_zero i)⟩ (fun k σ2 H2' _ ⟨_, _, _, _, s, _⟩ => (hpt.sm s).sq) ?_ ?_⟩
      · rintro k y σ2 H2' T' hk ⟨acc, y8, y9, rfl, sm2, hnm2, hacc, hj⟩ hT'
        rw [nIs_get] at hk
        obtain ⟨m, hm, rfl⟩ := Option.map_eq_some_iff.mp hk
        have hmn : m < n := htP.lt m (List.mem_of_getElem? hm)
        have hkn' : k < n := by have := (List.getElem?_eq_some_iff.mp hm).1; rw [htP.len] at this; exact this
        have sT := same_new (o := .tup [nI k, nI m]) hT'
        have hnT : nm ≠ T' := ne_of_none hnm2 hT'
        have hsk : s[k]? = some (s[k]'(by rw [hs.len]; exact hkn')) := List.getElem?_eq_getElem _
        have hsm : s[m]? = some (s[m]'(by rw [hs.len]; exact hmn)) := List.getElem?_eq_getElem _
        generalize (s[k]'(by rw [hs.len]; exact hkn')) = sk at hsk
        generalize (s[m]'(by rw [hs.len]; exact hmn)) = smv at hsm
        have hskn : sk < n := hs.lt sk (List.mem_of_getElem? hsk)
        have hpo2 : (upd H2' T' (.tup [nI k, nI m])) po = some (.tup (nIs s)) := sT _ _ (sm2 _ _ (sm _ _ hpo))
        refine ⟨T', _, rfl, SqT.of upd_same, rfl, nI k, _, rfl, nI m, _, rfl, rfl, ?_⟩
        refine ⟨_, rfl, _, rfl, po, _, (m : Int), nI smv, rfl, rfl, SqT.of hpo2, atI_nat (by rw [nIs_get, hsm]; rfl), _, rfl, _, rfl, _, rfl, po, _, (k : Int), nI sk, rfl, rfl, SqT.of hpo2, atI_nat (by rw [nIs_get, hsk]; rfl), nm, nIs acc, (sk : Int), sk, rfl, rfl, sT _ _ hnm2, Evl.ixN_nat (by rw [nIs_len, hacc]; exact hskn), ?_⟩
        refine ⟨acc.set sk smv, _, _, rfl, same_mut (sm2.trans sT) hnm0, by rw [upd_same, nIs_set], by rw [List.length_set]; exact hacc, fun i si ti hik hsi hti => ?_⟩
        by_cases e : i = k
        · subst e
          rw [hsk] at hsi
          have hsi := Option.some.inj hsi
          subst hsi
          rw [hm] at hti
          have hti := Option.some.inj hti
          subst hti
          rw [List.getElem?_set_self (by omega), hsm]
        · have hne2 : sk ≠ si := fun z => e (nd_ix hs.nd hsi (z ▸ hsk))
          rw [List.getElem?_set_ne hne2]
          exact hj i si ti (by omega) hsi hti
      · rintro σ2 H2' ⟨acc, y8, y9, rfl, sm2, hnm2, hacc, hj⟩
        have ecj : acc = cj s t := cj_at hs htP hacc fun i si ti hsi hti => hj i si ti (by rw [nIs_len]; exact (List.getElem?_eq_some_iff.mp hti).1) hsi hti
        have hus2 := sm2 _ _ hus
        refine ⟨_, rfl, .inl ⟨rfl, _, SqL.of hus2⟩, _, rfl, .inl ⟨nm, nIs acc, rfl, SqL.of hnm2, fun p hp' => ?_⟩⟩
        have s7 := same_new (o := .tup (nIs acc)) hp'
        have hus3 := s7 _ _ hus2
        have husl : us.length ≤ 4 := by rw [Paired.length pus, List.length_map, List.length_take]; omega
        refine ⟨fl, us, _, rfl, rfl, hus3, by rw [sizeLine_eq]; omega, ?_⟩
        have t8 := Tm.lst (o := .lst (us ++ [V.ref p])) hus3
        refine ⟨_, _, _, _, us ++ [.ref p], rfl, same_mut ((sm.trans sm2).trans s7) hfl, upd_same, ?_⟩
        rw [List.take_add_one, ht, List.map_append]
        exact Paired.app (TNs.tm ((Tm.of (sm2.trans s7)).trans t8) pus) (Paired.one (TK.tn (TK.tm t8 ⟨p, rfl, by rw [upd_same, ecj]⟩)))
    · rintro σ H' ⟨x6, x7, x8, x9, us, rfl, sm, hus, pus⟩
      rw [Paired.length hp3, List.take_length] at pus
      refine ⟨_, rfl, .inl ⟨fl, us, rfl, SqL.of hus, fun p hp' => ?_⟩⟩
      have s7 := same_new (o := .tup us) hp'
      refine q _ _ (ts.map (cj s)) n (by rw [List.length_map]; exact three_of hts) ⟨by rw [List.length_map]; exact hf1, by rw [List.length_map]; exact hf2, hf3, hf4, fun g hg => ?_⟩ ((Few.cj hf5 hs hf6).mono (by omega)) (st13.trans (.of (sm.trans s7))) (ra3.step (sm.trans s7)) ⟨p, us, rfl, upd_same, TNs.tm (.of s7) pus⟩
      obtain ⟨t, ht, e⟩ := List.mem_map.mp hg
      rw [← e]
      exact cj_isP hs (hf5 t ht)
/-! ### _law_lock -/
def spLock (K : PySem.W.Frag) : Sp := fun vs H Q _ => ∃ (r kl sc : Addr) (ns : List Int) (kn : List Str), vs = [.ref r, .ref kl] ∧ RowAt K H r sc ns ∧ H kl = some (.lst (kn.map V.str)) ∧ kl ≠ r ∧ 1 ≤ kn.length ∧ kn.length ≤ 100 ∧ (∀ x ∈ kn, x ∈ names) ∧
  ∀ v H' ls n, ls.length ≤ 3 → GL ls n → Few ls n 63 → StepR r H H' → RowAt K H' r sc ns → TT H' v ls → Q v H'
theorem sc_law_lock : FnScope ["row", "kinds", "places", "turn"] ["row", "kinds"] (defScope s_law_lock) := ⟨rfl, rfl, rfl, by decide +kernel, rfl, by decide +kernel, by decide +kernel⟩
theorem few4 {ls : List (List Nat)} {n : Nat} (h1 : 2 ≤ n) (h2 : n ≤ 4) (hg : ∀ g ∈ ls, IsP n g) : Few ls n 63 := by
  have : n = 2 ∨ n = 3 ∨ n = 4 := by omega
  rcases this with e | e | e
  · subst e; exact (few_all hg all2).mono (by omega)
  · subst e; exact (few_all hg all3).mono (by omega)
  · subst e; exact (few_all hg all4).mono (by omega)
theorem has_law_lock (T : Top K mg "_law_lock" s_law_lock ["row", "kinds"]) (B : Bi mg) (hT : Has P w K mg base CX0 1 "_law_taken" ["row", "many"] (spTaken K)) (hK : Has P w K mg base CX0 3 "_law_known" ["row", "kinds"] (spKnown K)) (hM : Has P w K mg base CX0 2 "_law_permutation" ["row", "places"] (spLawPerm K)) :
    Has P w K mg base CX0 4 "_law_lock" ["row", "kinds"] (spLock K) := by
  refine T.ok sc_law_lock (fun vs H Q E h => ?_) (fun f cdv A outer s H vs Q E hr h => ?_)
  · obtain ⟨r, kl, sc, ns, kn, rfl, _⟩ := h
    rfl
  · obtain ⟨r, kl, sc, ns, kn, rfl, ra, hkl, hne, hk1, hk2, hkn, q⟩ := h
    have hr1 : Room 1 _ := hr.mono (by decide)
    have hr2 : Room 2 _ := hr.mono (by decide)
    refine ⟨_, pss_cons (ps_if (pt_cmpR op_gt (pe_has hT hr1 (by rfl) (pa_cons (pv 0) (pa_cons pe_int pa_nil))) pe_int (nomark _))
        (pss_one (ps_ret (pe_has hK hr (by rfl) (pa_cons (pv 0) (pa_cons (pv 1) pa_nil))))) pss_nil)
      (pss_cons (ps_set (i := 2) sc_law_lock.nd rfl (Or.inr rfl) (pe_op op_add pe_int (pe_has hT hr1 (by rfl) (pa_cons (pv 0) (pa_cons pe_int pa_nil)))))
      (pss_one (ps_ret (pe_tupleOf (by rfl) B.tuple (pe_lc (own := [("turn", 3)]) (g := gName 3) (te := tCall (spLawPerm K) [] E0 (tCons (tVar 0) (tCons (tVar 2) tNil))) (by rfl) sc_law_lock.nd
        (pi_range1 (by rfl) B.range (pa_cons (pe_op op_add pe_int (pe_has hT hr1 (by rfl) (pa_cons (pv 0) (pa_cons pe_int pa_nil)))) pa_nil)) (blkOk_by (own := [("turn", 3)]) (N := ["row", "kinds", "places", "turn"]) (sc := defScope s_law_lock) (by decide +kernel))
        (fun _ _ _ _ _ => pg_name (i := 3) sc_law_lock.nd rfl (Or.inl rfl)) (fun _ _ _ _ _ => pts_nil) (fun _ _ _ _ _ => pe_has hM hr2 (by rfl) (pa_cons (pv 0) (pa_cons (pv 2) pa_nil)))))))), ?_⟩
    refine ⟨_, rfl, r, sc, ns, 3, rfl, ra, by omega, by omega, fun x H1 hx st1 ra1 => ?_⟩
    refine ⟨(x : Int), 0, rfl, rfl, _, rfl, ite2 (fun h => ?_) (fun h => ?_)⟩
    · exact ⟨_, rfl, _, rfl, r, kl, sc, ns, kn, rfl, ra1, st1 _ _ hne hkl, hne, hk1, hk2, hkn, fun v H2 ls n l3 gl fw st2 ra2 tt => q v H2 ls n l3 gl fw (st1.trans st2) ra2 tt⟩
    · refine ⟨_, rfl, r, sc, ns, 3, rfl, ra1, by omega, by omega, fun y H2 hy st2 ra2 => ?_⟩
      refine ⟨2, (y : Int), rfl, rfl, ?_⟩
      refine ⟨_, rfl, r, sc, ns, 2, rfl, ra2, by omega, by omega, fun z H3 hz st3 ra3 => ?_⟩
      have st03 := (st1.trans st2).trans st3
      refine ⟨1, (z : Int), rfl, rfl, (1 : Int) + (z : Int), rfl, by omega, by omega, fun D hD => ?_⟩
      have hDr : D ≠ r := (ra3.ne hD).symm
      refine lc_range (lo := 0) (n := ((1 : Int) + (z : Int)).toNat) (fun i H' => StepR r H3 H' ∧ RowAt K H' r sc ns ∧ ∃ us ls, H' D = some (.lst us) ∧ Paired (TN H') us ls ∧ ls.length = i ∧ ∀ g ∈ ls, IsP (2 + y) g)
        ⟨.of (same_new hD), ra3.step (same_new hD), [], [], upd_same, .nil, rfl, fun g h => by cases h⟩ ?_ ?_
      · rintro i H' hi ⟨st4, ra4, us, ls, hus, pus, hll, hP⟩
        refine ⟨rfl, iteT (B := StepR r H3 H' ∧ RowAt K H' r sc ns ∧ ∃ us ls, H' D = some (.lst us) ∧ Paired (TN H') us ls ∧ ls.length = i ∧ ∀ g ∈ ls, IsP (2 + y) g) ⟨_, rfl, _, rfl, r, sc, ns, 2 + y, ?_, ra4, by omega, fun v H5 t ht st5 ra5 hv => ?_⟩⟩
        · show [V.ref r, V.int ((2 : Int) + (y : Int))] = [V.ref r, V.int ((2 + y : Nat) : Int)]
          rw [show ((2 + y : Nat) : Int) = (2 : Int) + (y : Int) by omega]
        · have hus5 := st5 _ _ hDr hus
          have t6 := Tm.lst (o := .lst (us ++ [v])) hus5
          refine ⟨us, hus5, by rw [Paired.length pus, hll, sizeLine_eq]; omega, (st4.trans st5).mut hD, RowAt.mut ra3 hD ra5, us ++ [v], ls ++ [t], upd_same, Paired.app (TNs.tm ((st5.tm ra4).trans t6) pus) (Paired.one (TK.tn (TK.tm t6 hv))), by rw [List.length_append, hll]; rfl, fun g hg => ?_⟩
          rcases List.mem_append.mp hg with z | z
          · exact hP g z
          · rw [List.mem_singleton.mp z]
            exact ht
      · rintro H' ⟨st4, ra4, us, ls, hus, pus, hll, hP⟩
        refine .inl ⟨D, us, rfl, SqL.of hus, fun p hp => ?_⟩
        have s7 := same_new (o := .tup us) hp
        exact q _ _ ls (2 + y) (by omega) ⟨by omega, by omega, by omega, by omega, hP⟩ (few4 (by omega) (by omega) hP) ((st03.trans st4).trans (.of s7)) (ra4.step s7) ⟨p, us, rfl, upd_same, TNs.tm (.of s7) pus⟩
end
end Lt

set_option Elab.async false
set_option linter.all false
set_option maxRecDepth 100000
set_option maxHeartbeats 2000000
/-! lambdas in a body: made (with defaults or without), held by a name, called -/
namespace LmX
open PySem PySem.Spec PyProof.Rows L2 LamX NdefX
/-- the words of a lambda; the body stands beside -/
abbrev lmFd (F : NF) (e : Expr) (dV doc pm ctv : Value) : FuncData := PySem.W.kdv_fn F.name F.qual F.params (.expr e) F.scope F.cl dV doc pm (.ref F.c) ctv
def LmO (f : Addr) (F : NF) (e : Expr) (dV : Value) : HO :=
  .ext fun h => ∃ (od : Option Addr) (sl : Array (Option Value)) (doc pm ctv : Value), h.get? f = some (⟨.type "function", od, .func (lmFd F e dV doc pm ctv), sl⟩ : Obj)
theorem lmO_at {P : Program} {w : World} {H : Hp} {h : Heap} {f : Addr} {F : NF} {e : Expr} {dV : Value} (ok : HOk P w H h) (x : H f = some (LmO f F e dV)) :
    ∃ (od : Option Addr) (sl : Array (Option Value)) (doc pm ctv : Value), h.get? f = some (⟨.type "function", od, .func (lmFd F e dV doc pm ctv), sl⟩ : Obj) := (ok f _ x).1
abbrev lmF (q : Str) (params : Arguments) (scope : Scope) (cells : List (Str × Addr)) (c : Addr) : NF := ⟨"<lambda>", q, params, [], scope, cloFrom cells scope.names [], c⟩
section
variable {X : Cx} {pins : List (Addr × Obj)} {σ : L2.St} {H : Hp} {s : Shared}
theorem lm_laid {F : NF} {e : Expr} {dV doc pm ctv : Value} {t' : Nat} (I : Inv X pins σ H s) :
    Inv X pins σ (upd H s.heap.objs.size (LmO s.heap.objs.size F e dV)) { s with heap := s.heap.push { cls := .type "function", data := .func (lmFd F e dV doc pm ctv) }, toks := t' } := by
  have g : (s.heap.push ({ cls := .type "function", data := .func (lmFd F e dV doc pm ctv) } : Obj)).get? s.heap.objs.size = some { cls := .type "function", data := .func (lmFd F e dV doc pm ctv) } := Heap.get?_push_size _ rfl
  exact I.laid (fun _ _ q => Heap.get?_push_of_some _ q) (Nat.le_refl _) ⟨⟨none, #[], doc, pm, ctv, g⟩, ⟨_, g⟩, fun _ _ ⟨od, sl, d, p, t, z⟩ k => ⟨od, sl, d, p, t, k _ z⟩⟩
theorem lm_tail {T : List (Addr × Str)} {c P : Addr} {params : Arguments} {body : Expr} {scope : Scope} {pos : Pos} {dV : Value} {E Q : Value → Shared → Prop} (I : Inv X pins σ H s) (B : TabB X.base X.mg c P) (hc : X.env.code = .ref c)
    (hm : (P, X.env.qual ++ "<lambda>") ∈ T) (hu : ∀ p ∈ T, p.1 = P → p.2 = X.env.qual ++ "<lambda>") (hT : Tabs T H) (hf : ∀ y ∈ scope.names, y.2 = .free → ∃ c, X.env.cells.lookup y.1 = some c)
    (h : ∀ (f c' : Addr) (H1 : Hp) (s' : Shared), Inv X pins σ H1 s' → ExtN H H1 → Tabs T H1 → H f = none → H1 f = some (LmO f (lmF (X.env.qual ++ "<lambda>") params scope X.env.cells c') body dV) → H1 c' = some (CodeO c' (X.env.qual ++ "<lambda>")) → Q (.ref f) s') :
    wpAny (model X.prog X.w) X.A (makeTail "<lambda>" (X.env.qual ++ "<lambda>") params (.expr body) scope X.env dV .none none pos pos.line) Q E s := by
  obtain ⟨ps, tP, tr, am⟩ := hT _ hm
  have bmP := B.bm.keeps I.bk
  have gP : s.heap.get? P = some { cls := .none, data := .fields ps } := I.hok P _ tP
  rcases hk : codeAmong pos ps.toList with _ | cv
  · refine PySem.W.kdv_makeTail (closure_ok hf) I.ok.glob (I.mod.glob.keeps I.bk) hc (B.code.keeps I.bk) gP tr hk B.gP bmP fun c' ctv doc h' tk kx kge klt ⟨c2, oc, vs, t, e2, o2, d2, v2⟩ kt => ?_
    cases e2
    have frC : H c' = none := I.hok.fresh kge
    have J := inv_table (t' := tk) (more := #[rawInt pos.line, rawInt pos.col, .ref c']) I tP (fun b o nb q => kx b o nb q) kt kge ⟨oc, vs, t, o2, d2, v2⟩
    have ext : ExtN H (upd (upd H P (.tbl (ps ++ #[rawInt pos.line, rawInt pos.col, .ref c']))) c' (CodeO c' (X.env.qual ++ "<lambda>"))) := fun b o q nt => by
      have nP : b ≠ P := fun z => nt ps (Option.some.inj ((q.symm.trans (z ▸ rfl)).trans tP))
      exact (upd_ne (ne_of_none q frC)).trans ((upd_ne nP).trans q)
    have tabs : Tabs T (upd (upd H P (.tbl (ps ++ #[rawInt pos.line, rawInt pos.col, .ref c']))) c' (CodeO c' (X.env.qual ++ "<lambda>"))) := fun p hp => by
      have lst : (ps ++ #[rawInt pos.line, rawInt pos.col, .ref c']).toList = ps.toList ++ [rawInt pos.line, rawInt pos.col, .ref c'] := Array.toList_append ..
      rcases Classical.em (p.1 = P) with hb | hb
      · rw [hu p hp hb, hb]
        refine ⟨_, (upd_ne (ne_of_none tP frC)).trans upd_same, lst ▸ PySem.TriplesOk_snoc _ _ _ _ tr, fun p' cw hw => ?_⟩
        rcases among_app _ tr (lst ▸ hw) with z | z
        · exact (am p' cw z).imp fun c0 q => ⟨q.1, ext _ _ q.2 codeO_ne⟩
        · exact ⟨c', z, upd_same⟩
      · obtain ⟨qs, a1, a2, a3⟩ := hT p hp
        exact ⟨qs, (upd_ne (ne_of_none a1 frC)).trans ((upd_ne hb).trans a1), a2, fun p' cw hw => (a3 p' cw hw).imp fun c0 q => ⟨q.1, ext _ _ q.2 codeO_ne⟩⟩
    have new := J.hok.fresh (Nat.le_refl _)
    refine h h'.objs.size c' _ _ (lm_laid (F := lmF (X.env.qual ++ "<lambda>") params scope X.env.cells c') (t' := tk) J) (fun b o q nt => ?_) (tabs.ext fun b o q => ?_) (I.hok.fresh (Nat.le_trans kge (Nat.le_of_lt klt))) upd_same ?_
    · exact (upd_ne (ne_of_none (ext b o q nt) new)).trans (ext b o q nt)
    · exact (upd_ne (ne_of_none q new)).trans q
    · exact (upd_ne (Nat.ne_of_lt klt)).trans upd_same
  · obtain ⟨c', e, hco⟩ := am pos cv hk
    subst e
    refine PySem.W.kdv_makeTailHit (closure_ok hf) I.ok.glob (I.mod.glob.keeps I.bk) hc (B.code.keeps I.bk) gP tr hk bmP fun ctv doc h' tk kx ksz => ?_
    have J : Inv X pins σ H { s with heap := h', toks := tk } := I.kept kx
    have new : H h'.objs.size = none := J.hok.fresh (Nat.le_refl _)
    have st : ∀ b o, H b = some o → upd H h'.objs.size (LmO h'.objs.size (lmF (X.env.qual ++ "<lambda>") params scope X.env.cells c') body dV) b = some o := fun b o q => (upd_ne (ne_of_none q new)).trans q
    exact h h'.objs.size c' _ _ (lm_laid (F := lmF (X.env.qual ++ "<lambda>") params scope X.env.cells c') (t' := tk) J) (fun b o q _ => st b o q) (hT.ext st) new upd_same (st _ _ hco)
end
/-- lambda: body -/
def tLm0 (T : List (Addr × Str)) (mk : Addr → NF) (e : Expr) : TE := fun _ H Q => Tabs T H ∧ ∀ (f c' : Addr) (H1 : Hp), ExtN H H1 → Tabs T H1 → H f = none → H1 f = some (LmO f (mk c') e .none) → H1 c' = some (CodeO c' (mk c').qual) → Q (.ref f) H1
/-- lambda x=d: body -/
def tLm1 (T : List (Addr × Str)) (mk : Addr → NF) (e : Expr) (td : TE) : TE := fun σ H Q => td σ H fun v H0 => Tabs T H0 ∧ ∀ (p f c' : Addr) (H1 : Hp), ExtN H0 H1 → Tabs T H1 → H0 f = none → H1 f = some (LmO f (mk c') e (.ref p)) → H1 p = some (.tup [v]) → H1 c' = some (CodeO c' (mk c').qual) → Q (.ref f) H1
section
variable {X : Cx} {T : List (Addr × Str)} {c P : Addr} {params : Arguments} {body : Expr} {scope : Scope} {pos : Pos}
theorem lm_has (ok : X.Ok) (hf : ∀ y ∈ scope.names, y.2 = .free → X.env.scope.names.lookup y.1 = some .cell ∨ X.env.scope.names.lookup y.1 = some .free) : ∀ y ∈ scope.names, y.2 = .free → ∃ c, X.env.cells.lookup y.1 = some c :=
  fun y hy e => (hf y hy e).elim (fun z => ok.has _ (.inl z)) fun z => ok.has _ (.inr z)
theorem pe_lm0 (B : TabB X.base X.mg c P) (hc : X.env.code = .ref c) (hm : (P, X.env.qual ++ "<lambda>") ∈ T) (hu : ∀ p ∈ T, p.1 = P → p.2 = X.env.qual ++ "<lambda>")
    (hf : ∀ y ∈ scope.names, y.2 = .free → X.env.scope.names.lookup y.1 = some .cell ∨ X.env.scope.names.lookup y.1 = some .free) (hd : defaultsOf params X.env = ([], [])) :
    PE X (.Lambda params body scope pos) (tLm0 T (lmF (X.env.qual ++ "<lambda>") params scope X.env.cells) body) := by
  refine ⟨fun pins s σ H Q I h => PySem.W.kla_eval hd ?_⟩
  rw [makeFunction_eq]
  simp only [List.zip_nil_right, List.filterMap_nil, List.isEmpty_nil, if_true, pure_bind]
  exact lm_tail I B hc hm hu h.1 (lm_has I.ok hf) fun f c' H1 s' J k1 k2 k3 k4 k5 => ⟨V.ref f, H1, J, rfl, h.2 f c' H1 k1 k2 k3 k4 k5⟩
theorem pe_lm1 {d : Expr} {td : TE} (B : TabB X.base X.mg c P) (hc : X.env.code = .ref c) (hm : (P, X.env.qual ++ "<lambda>") ∈ T) (hu : ∀ p ∈ T, p.1 = P → p.2 = X.env.qual ++ "<lambda>")
    (hf : ∀ y ∈ scope.names, y.2 = .free → X.env.scope.names.lookup y.1 = some .cell ∨ X.env.scope.names.lookup y.1 = some .free) (hd : params.defaults = [d]) (hk : params.kw_defaults = []) (pd : PE X d td) :
    PE X (.Lambda params body scope pos) (tLm1 T (lmF (X.env.qual ++ "<lambda>") params scope X.env.cells) body td) := by
  refine ⟨fun pins s σ H Q I h => PySem.W.kdv_lam (by rw [hd]; rfl) hk ?_⟩
  rw [hd]
  refine PySem.W.kdv_all1 (thn (pd.run pins s σ H _ I h) fun u s1 ⟨v, H0, J, r, hT, q⟩ => PySem.W.kdv_all0 ?_)
  rw [makeFunction_eq]
  simp only [List.zip_nil_right, List.filterMap_nil, List.isEmpty_nil, List.isEmpty_cons, if_true, Bool.false_eq_true, if_false, pure_bind]
  refine wpAny_bind (wpAny_newTextTuple ?_)
  have fr : H0 s1.heap.objs.size = none := J.hok.fresh (Nat.le_refl _)
  have J2 := J.laid (t' := s1.toks) (h' := s1.heap.push { cls := .type "tuple", data := .seq [u].toArray }) (fun _ _ q => Heap.get?_push_of_some _ q) (Nat.le_refl _) (show ObjOk X.prog X.w _ _ _ (.tup [v]) from ⟨by rw [sizeLine_eq]; exact Nat.le_of_ble_eq_true rfl, [u], .cons r .nil, IsTup.new _ _⟩)
  have st : ∀ b o, H0 b = some o → upd H0 s1.heap.objs.size (.tup [v]) b = some o := fun b o e => (upd_ne (ne_of_none e fr)).trans e
  refine lm_tail J2 B hc hm hu (hT.ext st) (lm_has J2.ok hf) fun f c' H1 s' J3 k1 k2 k3 k4 k5 => ⟨V.ref f, H1, J3, rfl, q _ f c' H1 (fun b o e nt => k1 b o (st b o e) nt) k2 ?_ k4 (k1 _ _ upd_same fun _ z => by cases z) k5⟩
  unfold upd at k3
  split at k3
  · cases k3
  · exact k3
/-- x(), x a name that holds a function -/
theorem pe_ap0 {R : Addr → TE} {i : Nat} {x : Str} {p : Pos} (hrun : ∀ (f : Addr) (pins : List (Addr × Obj)) (s : Shared) (σ : L2.St) (H : Hp) (Q : VK), Inv X pins σ H s → R f σ H Q → PySem.W.FnAt f s.heap ∧ wpAny (model X.prog X.w) X.A (call (.ref f) []) (EP X pins σ Q) X.xe s)
    (hN : X.N[i]? = some x) (hv : Vis X.env.scope x) (hd : (x == ("__debug__" : Str)) = false := by decide) (hcd : (x == ("__classdict__" : Str)) = false := by decide) :
    PE X (.Call (.Name x p) [] [] pos) (fun σ H Q => ∃ f, σ[i]? = some (some (.ref f)) ∧ R f σ H Q) := by
  refine ⟨fun pins s σ H Q I ⟨f, hs, hR⟩ => wpAny_Call_Name_kw (thn ((pe_var (pos := p) hN hv hd hcd).run pins s σ H (fun v H1 => v = .ref f ∧ H1 = H) I ⟨.ref f, hs, rfl, rfl⟩) fun u s1 ⟨v, H1, J, r, e1, e2⟩ => ?_)⟩
  subst e1 e2
  obtain rfl : u = Value.ref f := r
  obtain ⟨fa, rn⟩ := hrun f pins s1 σ _ Q J hR
  exact PySem.W.callWith_F0 fa rn
/-- a lambda's run -/
theorem lm_run {CX : CXT} {pins : List (Addr × Obj)} {s : Shared} {σ : L2.St} {H : Hp} {Q : VK} {E : XK} {k : Nat} {f : Addr} {F : NF} {e : Expr} {dV : Value} {N ps fr : List Str} {us : List Value} {vs : List V} {js : List Nat} {tb : TE} (I : Inv X pins σ H s)
    (S : NScope N ps fr F.scope) (hf : H f = some (LmO f F e dV)) (hc : H F.c = some (CodeO F.c F.qual)) (hb : ∀ doc pm ctv, BindsTo s (lmFd F e dV doc pm ctv) ⟨[], []⟩ (ps.zip us)) (r : Vals vs us) (hl : vs.length = ps.length) (cp : Caps X F.cl fr js)
    (hr : Room (k + 1) X.A) (hx : PassesAt CX X σ E) (hbody : Room k (X.A.deeper (envF F f s.heap.objs.size)) → PE (ncx CX X.prog X.w X.K X.mg X.base N F f X.A X.stack s H E) e tb) (ht : tb (startF N vs (js.map (slotAt σ))) H Q) :
    PySem.W.FnAt f s.heap ∧ wpAny (model X.prog X.w) X.A (call (.ref f) []) (EP X pins σ Q) X.xe s := by
  obtain ⟨od, sl, doc, pm, ctv, ho⟩ := lmO_at I.hok hf
  refine ⟨⟨_, od, _, sl, ho⟩, ?_⟩
  have C := cells_of I cp
  have rc : codeAny (model X.prog X.w) X.A (.call (.ref f) ⟨[], []⟩) (CR CX X.stack X.prog X.w H s Q E) s := by
    refine PySem.W.kla_callFunE hr.depth ho rfl S.co S.gen rfl (codeO_at I.hok hc) (hb doc pm ctv _ _ _ _ ?_)
    refine wpAny_newFunctionEnv S.nocell (fun ⟨n, _⟩ hy => S.par n (List.of_mem_zip hy).1) (fun h₁ hns hsb => ⟨I.nolimit.fresh _ hsb, ?_⟩) S.kind
    show codeAny _ _ (.expr e (envF F f s.heap.objs.size)) _ _
    have kp : ∀ b o, s.heap.get? b = some o → h₁.get? b = some o := fun b o q => hsb.extBut b o (Nat.ne_of_lt (Heap.lt_size q)) (Heap.get?_push_of_some _ q)
    have J := inv_startN (CX := CX) (E := E) (f := f) (tk := s.toks + (ps.zip us).length) S hr.hd I.env0 hl r C hns kp
    refine PySem.W.kla_codeExpr (wpAny_mono ((hbody (hr.deeper _)).run [] _ _ H Q J ht) (fun v s' ⟨w', H', J', rv, q⟩ => ?_) fun e s' q => q)
    exact ⟨w', H', J'.os, J'.bare, J'.base, J'.hok, rv, q⟩
  refine wpAny_call (codeAny_mono rc fun o s' q => ?_)
  rcases o with e | fl
  · exact hx pins H s e s' I q
  · cases fl with
    | ret u => exact I.after q
    | next => exact q.elim
    | brk => exact q.elim
    | cont => exact q.elim
end
end LmX

set_option Elab.async false
set_option linter.all false
set_option maxRecDepth 100000
set_option maxHeartbeats 1000000
namespace Lt
open PySem PySem.Spec PyProof.Rows L2 NdefX LamX LmX
abbrev lawN : List Str := ["script", "row", "whole", "other", "drawn", "turn", "some", "due", "told", "now", "many", "odds", "odd", "e", "words", "work", "lock", "one", "places"]
theorem sc_law : FnScope lawN ["script"] (defScope s_law) := ⟨rfl, rfl, rfl, by decide +kernel, rfl, by decide +kernel, by decide +kernel⟩
abbrev LX (P : Program) (w : World) (K : PySem.W.Frag) (mg : Str → Option Value) (base : Heap) (f : Addr) (cd : Value) (A : Around) (outer : List Env) (s : Shared) (H : Hp) (E : XK) : Cx := cxOf CX0 P w K mg base lawN "law" (defScope s_law) f cd A outer s H E
/-- the three lambdas -/
def lmX (i : Nat) : Expr := match (defBody s_law).getD 19 (.Pass ⟨0, 0, 0, 0⟩) with
  | .For _ (.List es _) _ _ _ => es.getD i (.Constant .none 0 ⟨0, 0, 0, 0⟩)
  | _ => .Constant .none 0 ⟨0, 0, 0, 0⟩
def lmP : Expr → Arguments
  | .Lambda a _ _ _ => a
  | _ => ⟨[], [], none, [], [], none, []⟩
def lmS : Expr → Scope
  | .Lambda _ _ s _ => s
  | _ => { kind := .function, names := [], isGenerator := false, isCoroutine := false, more := [] }
def lmB : Expr → Expr
  | .Lambda _ b _ _ => b
  | e => e
theorem nsc0 : NScope ["lock", "places"] [] ["lock", "places"] (lmS (lmX 0)) := nscope_by (by decide +kernel)
theorem nsc1 : NScope ["a", "lock"] ["a"] ["lock"] (lmS (lmX 1)) := nscope_by (by decide +kernel)
theorem nsc2 : NScope ["b", "lock", "one"] ["b"] ["lock", "one"] (lmS (lmX 2)) := nscope_by (by decide +kernel)
theorem lb0 : ndefB (defScope s_law) (lmS (lmX 0)) ["lock", "places"] = true := by decide +kernel
theorem lb1 : ndefB (defScope s_law) (lmS (lmX 1)) ["lock"] = true := by decide +kernel
theorem lb2 : ndefB (defScope s_law) (lmS (lmX 2)) ["lock", "one"] = true := by decide +kernel
end Lt

set_option Elab.async false
set_option linter.all false
set_option maxRecDepth 100000
set_option maxHeartbeats 2000000
namespace Lt
open PySem PySem.Spec PyProof.Rows L2 NdefX LamX LmX
/-! ### the end of the law: three wrong turns, a lock of too many turns -/
def g6 : List (List Nat) := [[1, 2, 3, 4, 5, 0], [1, 0, 2, 3, 4, 5]]
theorem g6_many : 240 < (qq g6 6 170).length := by decide +kernel
theorem g6_wd {L : List (List Nat × List Nat)} (h : Wd g6 6 L) : 240 < L.length := by
  obtain ⟨a, rfl, h1, h2⟩ := h
  rcases h2 with e | e
  · apply Classical.byContradiction
    intro hn
    by_cases ha : a ≤ 170
    · have z := qq_end' g6 6 (k := a) (m := 170) (Nat.le_of_eq e) ha
      have y := g6_many
      rw [z] at y
      omega
    · obtain ⟨M, z⟩ := qq_mono g6 6 (k := 170) (m := a) (by omega)
      have y := g6_many
      rw [z, List.length_append] at hn
      omega
  · exact e
theorem g6_gl : GL g6 6 := ⟨by decide, by decide, by decide, by decide, by decide +kernel⟩
section
variable {P : Program} {w : World} {K : PySem.W.Frag} {mg : Str → Option Value} {base : Heap} {CL CM CT c Pt : Addr}
abbrev q_law : Str := "law.<locals>." ++ "<lambda>"
/-- what work() asks: the name holds one of the three -/
def RW3 (CT : Addr) (cells : List (Str × Addr)) (W : WX) (f : Addr) : TE := fun σ H Q =>
  (∃ c', H f = some (LmO f (lmF q_law (lmP (lmX 0)) (lmS (lmX 0)) cells c') (lmB (lmX 0)) .none) ∧ H c' = some (CodeO c' q_law) ∧
    (tCall (spUndo CT) [] (WE W σ) (tCons (tVar 0) (tCons (tOp (rRepT K) (tTup (tCons (tC (.int 0)) tNil)) (tVar 1)) tNil))) (startF ["lock", "places"] [] ([16, 18].map (slotAt σ))) H Q) ∨
  (∃ c' p, H f = some (LmO f (lmF q_law (lmP (lmX 1)) (lmS (lmX 1)) cells c') (lmB (lmX 1)) (.ref p)) ∧ H p = some (.tup [V.int 0]) ∧ H c' = some (CodeO c' q_law) ∧
    (tCall (spIsMade CT) [] (WE W σ) (tCons (tVar 1) (tCons (tC .non) tNil))) (startF ["a", "lock"] [V.int 0] ([16].map (slotAt σ))) H Q) ∨
  (∃ c' p, H f = some (LmO f (lmF q_law (lmP (lmX 2)) (lmS (lmX 2)) cells c') (lmB (lmX 2)) (.ref p)) ∧ H p = some (.tup [V.int 0]) ∧ H c' = some (CodeO c' q_law) ∧
    (tCall (spJoin CT) [] (WE W σ) (tCons (tVar 1) (tCons (tLst (tCons (tVar 2) tNil)) tNil))) (startF ["b", "lock", "one"] [V.int 0] ([16, 17].map (slotAt σ))) H Q)
theorem dflt_at {X : Cx} {pins : List (Addr × Obj)} {σ : L2.St} {H : Hp} {s : Shared} {p : Addr} {v : V} (I : Inv X pins σ H s) (h : H p = some (.tup [v])) : ∃ u o n, RelV v u ∧ s.heap.get? p = some o ∧ o.data = .seq #[u] n := by
  obtain ⟨_, its, r, o, ho, _, n, hd⟩ := I.hok p _ h
  cases r with
  | cons r t =>
    cases t
    exact ⟨_, o, n, r, ho, hd⟩
theorem r_run {f0 : Addr} {cd : Value} {A : Around} {outer : List Env} {s0 : Shared} {H0 : Hp} {E0' : XK} {W : WX} {pn : List (Addr × Obj)} {xe : Value → Shared → Prop}
    (hr : Room 7 (LX P w K mg base f0 cd A outer s0 H0 E0').A) (hU : Has P w K mg base (L2.CX P w) 6 "undo" ["lock", "turn"] (spUndo CT)) (hI : Has P w K mg base (L2.CX P w) 6 "is_made" ["lock", "turn"] (spIsMade CT)) (hJ : Has P w K mg base (L2.CX P w) 6 "join" ["lock", "turns"] (spJoin CT))
    (tk : Takes ((LX P w K mg base f0 cd A outer s0 H0 E0').tr pn xe) W) (f : Addr) (pins : List (Addr × Obj)) (s : Shared) (σ : L2.St) (H : Hp) (Q : VK) (I : Inv ((LX P w K mg base f0 cd A outer s0 H0 E0').tr pn xe) pins σ H s)
    (h : RW3 (K := K) CT (LX P w K mg base f0 cd A outer s0 H0 E0').env.cells W f σ H Q) : PySem.W.FnAt f s.heap ∧ wpAny (model P w) (LX P w K mg base f0 cd A outer s0 H0 E0').A (call (.ref f) []) (EP ((LX P w K mg base f0 cd A outer s0 H0 E0').tr pn xe) pins σ Q) xe s := by
  rcases h with ⟨c', h1, h2, h3⟩ | ⟨c', p, h1, h2, h3, h4⟩ | ⟨c', p, h1, h2, h3, h4⟩
  · exact lm_run (k := 6) (us := []) (js := [16, 18]) I nsc0 h1 h2 (fun _ _ _ => .of_eq rfl) .nil rfl (Caps.made I.ok (ndef_free lb0) (ndef_fr lb0) rfl) hr (passAt tk σ)
      (fun hr2 => pe_hasX (E := WE W σ) hU hr2 (by rfl) (passes_call (takes_of rfl rfl rfl rfl) (fun _ _ _ _ h => h)) (pa_cons (pv 0) (pa_cons (pe_op op_repT (pe_tup (pa_cons pe_int pa_nil)) (pv 1)) pa_nil))) h3
  · obtain ⟨u, o, n, r, ho, hd⟩ := dflt_at I h2
    exact lm_run (k := 6) (us := [u]) (js := [16]) I nsc1 h1 h3 (fun _ _ _ => .of_defaults rfl ho hd rfl rfl) (.cons r .nil) rfl (Caps.made I.ok (ndef_free lb1) (ndef_fr lb1) rfl) hr (passAt tk σ)
      (fun hr2 => pe_hasX (E := WE W σ) hI hr2 (by rfl) (passes_call (takes_of rfl rfl rfl rfl) (fun _ _ _ _ h => h)) (pa_cons (pv 1) (pa_cons pe_non pa_nil))) h4
  · obtain ⟨u, o, n, r, ho, hd⟩ := dflt_at I h2
    exact lm_run (k := 6) (us := [u]) (js := [16, 17]) I nsc2 h1 h3 (fun _ _ _ => .of_defaults rfl ho hd rfl rfl) (.cons r .nil) rfl (Caps.made I.ok (ndef_free lb2) (ndef_fr lb2) rfl) hr (passAt tk σ)
      (fun hr2 => pe_hasX (E := WE W σ) hJ hr2 (by rfl) (passes_call (takes_of rfl rfl rfl rfl) (fun _ _ _ _ h => h)) (pa_cons (pv 1) (pa_cons (pe_lst (pa_cons (pv 2) pa_nil)) pa_nil))) h4
end
end Lt

set_option Elab.async false
set_option linter.all false
set_option maxRecDepth 100000
set_option maxHeartbeats 2000000
namespace Lt
open PySem PySem.Spec PyProof.Rows L2 NdefX LamX LmX
theorem lmO_ne {f : Addr} {F : NF} {e : Expr} {dV : Value} (ps : Array Value) : LmO f F e dV ≠ .tbl ps := fun z => by
  unfold LmO at z
  cases z
theorem lmO_nl {f : Addr} {F : NF} {e : Expr} {dV : Value} : LmO f F e dV ≠ .lst [] := fun z => by
  unfold LmO at z
  cases z
theorem codeO_nl {c : Addr} {q : Str} : CodeO c q ≠ .lst [] := fun z => by
  unfold CodeO at z
  cases z
theorem ExtN.tm {H H' : Hp} (e : ExtN H H') : Tm H H' := ⟨fun _ _ h => e _ _ h (fun _ z => nomatch z), fun _ _ _ h => e _ _ h (fun _ z => nomatch z)⟩
theorem StepR.tml {l : Addr} {H H' : Hp} {xs : List V} (s : StepR l H H') (h : H l = some (.lst xs)) : Tm H H' :=
  ⟨fun a ys e => s a _ (ne_of e h (fun z => nomatch z)) e, fun a o ys e => s a _ (ne_of e h (fun z => nomatch z)) e⟩
def tInts : List Int → TA
  | [] => tNil
  | i :: r => tCons (tC (.int i)) (tInts r)
def wTurn : V := .str "turn"
section
variable {P : Program} {w : World} {K : PySem.W.Frag} {mg : Str → Option Value} {base : Heap} {CL CM CT c Pt : Addr}
theorem not_still {ls : List (List Nat)} {n : Nat} (g : GL ls n) : ¬ Mk ls n (List.replicate n 0) := fun h => by
  have p := h.isP g.2.2.2.2
  have nd := p.nd
  obtain ⟨m, rfl⟩ : ∃ m, n = m + 2 := ⟨n - 2, by have := g.2.2.1; omega⟩
  rw [List.replicate_succ, List.replicate_succ] at nd
  exact (List.nodup_cons.mp nd).1 List.mem_cons_self
def tTry0 (K : PySem.W.Frag) (CT : Addr) (cells : List (Str × Addr)) : TS := fun D σ H => tDrop (fun σ H Q => ∃ f, σ[15]? = some (some (.ref f)) ∧ RW3 (K := K) CT cells (wAs K (.ref CT) 13 (fun _ _ _ => tDrop (tBM K "list" rAppend (tVar 14) (tCons (tC wTurn) tNil))) (fun _ _ _ _ => False) D) f σ H Q) D σ H
theorem law_tail {f0 : Addr} {A : Around} {outer : List Env} {s0 : Shared} {H0 : Hp} {E0' : XK} (hr : Room 7 (LX P w K mg base f0 (.ref c) A outer s0 H0 E0').A) (B : Bi mg) (TB : TabB base mg c Pt)
    (hU : Has P w K mg base (L2.CX P w) 6 "undo" ["lock", "turn"] (spUndo CT)) (hI : Has P w K mg base (L2.CX P w) 6 "is_made" ["lock", "turn"] (spIsMade CT)) (hJ : Has P w K mg base (L2.CX P w) 6 "join" ["lock", "turns"] (spJoin CT))
    (hA : Has P w K mg base (L2.CX P w) 6 "all_turns" ["lock"] (spAll CL CM)) (eT : Err0 K mg "BadTurn" CT) (eM : ErrI P w K mg base "TooMany" "most" CM) :
    ∃ t, PSs (LX P w K mg base f0 (.ref c) A outer s0 H0 E0') ((defBody s_law).drop 18) t ∧ ∀ (D : Ends) (H : Hp) (x0 x1 x2 x3 x4 x5 x6 x7 x8 x9 x10 x11 x12 x13 x14 x15 : Option V) (v u : V) (ls : List (List Nat)) (n : Nat) (g : List Nat),
      Good H v ls n → TN H u g → Tabs [(Pt, q_law)] H → (∀ H', D.rt (.bl true) H') → t D [x0, x1, x2, x3, x4, x5, x6, x7, x8, x9, x10, x11, x12, x13, x14, x15, some v, some u, some (nI n)] H := by
  have hu := hr.units
  have hm : (Pt, q_law) ∈ [(Pt, q_law)] := List.mem_cons_self
  have hone : ∀ p ∈ [(Pt, q_law)], p.1 = Pt → p.2 = q_law := fun p hp _ => by rw [List.mem_singleton.mp hp]
  refine ⟨_, pss_cons (ps_set (i := 14) sc_law.nd rfl (Or.inl rfl) (pe_lst pa_nil))
    (pss_cons (ps_for (passes_of rfl) rfl (pi_list (pe_lst (pa_cons (pe_lm0 (T := [(Pt, q_law)]) TB rfl hm hone (ndef_free lb0) rfl) (pa_cons (pe_lm1 (T := [(Pt, q_law)]) TB rfl hm hone (ndef_free lb1) rfl rfl pe_int) (pa_cons (pe_lm1 (T := [(Pt, q_law)]) TB rfl hm hone (ndef_free lb2) rfl rfl pe_int) pa_nil))))) (pg_name (i := 15) sc_law.nd rfl (Or.inl rfl))
      (pss_one (ps_try_as (i := 13) (tb := fun W => tDrop (fun σ H Q => ∃ f, σ[15]? = some (some (.ref f)) ∧ RW3 (K := K) CT (LX P w K mg base f0 (.ref c) A outer s0 H0 E0').env.cells W f σ H Q)) (ts := fun _ _ _ => tDrop (tBM K "list" rAppend (tVar 14) (tCons (tC wTurn) tNil))) (Wout := fun _ _ _ _ => False) rfl rfl sc_law.nd rfl rfl ⟨rfl, by decide, Or.inl eT.g⟩ L2.takes0
        (fun W pn xe tk _ => pss_one (ps_expr (pe_ap0 (fun f pins s σ H Q I h => r_run hr hU hI hJ tk f pins s σ H Q I h) rfl (Or.inl rfl))))
        (fun a oe cls d pn hz hf => pss_one (ps_expr (by exact (pe_bm PySem.F.plainAttrs_list PySem.F.slot_list_append PySem.F.type_list_append mt_append (pv 14) (pa_cons pe_str pa_nil))))))))
    (pss_cons (ps_try_as (i := 13) (tb := fun W => tDrop (tCallS (spAll CL CM) (WE W) (tCons (tTup (tCons (tTup (tInts [1, 2, 3, 4, 5, 0])) (tCons (tTup (tInts [1, 0, 2, 3, 4, 5])) tNil))) tNil))) (ts := fun a cls d => tRet (tAndV (tOp (rEqD K) (tVar 14) (tOp rRep (tLst (tCons (tC wTurn) tNil)) (tC (.int 3)))) (tOp rEq (tXf a cls d CM "most" (tVar 13)) (tC (.int 240))))) (Wout := fun _ _ _ _ => False) rfl rfl sc_law.nd rfl rfl ⟨rfl, by decide, Or.inl eM.g⟩ L2.takes0
        (fun W pn xe tk _ => pss_one (ps_expr (pe_hasS hA (hr.mono (by decide)) (by rfl) (fun σ => passAt tk σ) (pa_cons (pe_tup (pa_cons (pe_tup (pa_cons pe_int (pa_cons pe_int (pa_cons pe_int (pa_cons pe_int (pa_cons pe_int (pa_cons pe_int pa_nil))))))) (pa_cons (pe_tup (pa_cons pe_int (pa_cons pe_int (pa_cons pe_int (pa_cons pe_int (pa_cons pe_int (pa_cons pe_int pa_nil))))))) pa_nil))) pa_nil))))
        (fun a oe cls d pn hz hf => pss_one (ps_ret (pe_and (pe_cmpR (by refine op_eqD ?_; exact hu) (pv 14) (pe_op op_rep (pe_lst (pa_cons pe_str pa_nil)) pe_int) (nomark _)) (pe_one (pe_cmpR op_eq (pe_xf eM.xf eM.no hz hf (pv 13)) pe_int (nomark _)))))))
    (pss_one (ps_ret pe_bl)))), ?_⟩
  intro D H x0 x1 x2 x3 x4 x5 x6 x7 x8 x9 x10 x11 x12 x13 x14 x15 v u ls n g hg hug hT q
  refine ⟨Nat.zero_le _, fun wl hwl => ?_⟩
  have s1 := same_new (o := .lst []) hwl
  refine ⟨hT.ext s1, fun fa ca H1 e1 T1 _ fa1 ca1 => ⟨T1, fun pb fb cb H2 e2 T2 _ fb2 pb2 cb2 => ⟨T2, fun pc fc cc H3 e3 T3 _ fc3 pc3 cc3 => ?_⟩⟩⟩
  refine ⟨by show 3 ≤ sizeLine; decide, fun fl hfl => ?_⟩
  have s4 := same_new (o := .lst [V.ref fa, V.ref fb, V.ref fc]) hfl
  have t14 := (((Tm.of s1).trans (ExtN.tm e1)).trans ((ExtN.tm e2).trans (ExtN.tm e3))).trans (.of s4)
  have hg4 := hg.tm t14
  have hu4 := hug.tm t14
  have wl3 : H3 wl = some (.lst []) := e3 _ _ (e2 _ _ (e1 _ _ upd_same (fun _ z => nomatch z)) (fun _ z => nomatch z)) (fun _ z => nomatch z)
  have fa4 := s4 _ _ (e3 _ _ (e2 _ _ fa1 lmO_ne) lmO_ne)
  have ca4 := s4 _ _ (e3 _ _ (e2 _ _ ca1 codeO_ne) codeO_ne)
  have fb4 := s4 _ _ (e3 _ _ fb2 lmO_ne)
  have cb4 := s4 _ _ (e3 _ _ cb2 codeO_ne)
  have pb4 := s4 _ _ (e3 _ _ pb2 (fun _ z => nomatch z))
  have fc4 := s4 _ _ fc3
  have cc4 := s4 _ _ cc3
  have pc4 := s4 _ _ pc3
  have wl4 := s4 _ _ wl3
  have fl4 : (upd H3 fl (.lst [V.ref fa, V.ref fb, V.ref fc])) fl = some (.lst [V.ref fa, V.ref fb, V.ref fc]) := upd_same
  have hflw : fl ≠ wl := (ne_of_none wl3 hfl).symm
  refine ⟨fl, rfl, ⟨_, SqL.of fl4⟩, for_list (K := K) (g := gName 15) (tb := tTry0 K CT (LX P w K mg base f0 (.ref c) A outer s0 H0 E0').env.cells) (a := fl) (xs := [V.ref fa, V.ref fb, V.ref fc])
    (fun i σ H' => ∃ xe xw, σ = [x0, x1, x2, x3, x4, x5, x6, x7, x8, x9, x10, x11, x12, xe, some (.ref wl), xw, some v, some u, some (nI n)] ∧ StepR wl (upd H3 fl (.lst [V.ref fa, V.ref fb, V.ref fc])) H' ∧ H' wl = some (.lst (List.replicate i wTurn)))
    ⟨x13, x15, rfl, .refl _ _, wl4⟩ (fun i σ H' _ ⟨_, _, _, s, _⟩ => SqL.of (s _ _ hflw fl4)) ?_ ?_⟩
  · rintro i x σ H' hi ⟨xe, xw, rfl, st, hw⟩
    have tm := st.tml wl4
    have hg5 := hg4.tm tm
    have hu5 := hu4.tm tm
    have K5 : ∀ b o, (upd H3 fl (.lst [V.ref fa, V.ref fb, V.ref fc])) b = some o → o ≠ .lst [] → H' b = some o := fun b o q nl => st b o (fun z => nl (by rw [z, wl4] at q; exact (Option.some.inj q).symm)) q
    have hi3 : i < 3 := (List.getElem?_eq_some_iff.mp hi).1
    have bad : ∀ (D' : Ends) (nx : ∀ xe' H5, StepR wl (upd H3 fl (.lst [V.ref fa, V.ref fb, V.ref fc])) H5 → H5 wl = some (.lst (List.replicate (i + 1) wTurn)) → D'.nx [x0, x1, x2, x3, x4, x5, x6, x7, x8, x9, x10, x11, x12, xe', some (.ref wl), some x, some v, some u, some (nI n)] H5),
        ∀ H5, Same H' H5 → WE (wAs K (.ref CT) 13 (fun _ _ _ => tDrop (tBM K "list" rAppend (tVar 14) (tCons (tC wTurn) tNil))) (fun _ _ _ _ => False) D') [x0, x1, x2, x3, x4, x5, x6, x7, x8, x9, x10, x11, x12, xe, some (.ref wl), some x, some v, some u, some (nI n)] (.ref CT) none H5 := by
      intro D' nx H5 s5
      refine ⟨true, eT.exm, fun _ a ha => ?_, fun q => by cases q⟩
      have hw5 := s5 _ _ hw
      refine ⟨_, rfl, .inl ⟨rfl, _, SqL.of hw5⟩, wl, _, wTurn, rfl, rfl, hw5, by rw [List.length_replicate, sizeLine_eq]; omega, ?_⟩
      refine nx none _ (((st.trans (.of s5)).trans (StepR.put _ _ _))) ?_
      rw [upd_same, List.replicate_succ']
    have hx : i = 0 ∨ i = 1 ∨ i = 2 := by omega
    rcases hx with rfl | rfl | rfl
    · obtain rfl : V.ref fa = x := Option.some.inj hi
      refine ⟨fa, rfl, .inl ⟨ca, K5 _ _ fa4 lmO_nl, K5 _ _ ca4 codeO_nl, ?_⟩⟩
      refine ⟨_, rfl, by show 1 ≤ sizeLine; decide, fun p hp => ⟨_, rfl, p, n, [V.int 0], rfl, rfl, SqT.of upd_same, by simp, by have := hg.gl.2.2.1; omega, by have := hg.gl.2.2.2.1; omega, by decide, fun z hz => ?_⟩⟩
      have s5 := (same_new (o := .tup [V.int 0]) hp).trans (same_new (o := .tup (List.replicate (n : Int).toNat [V.int 0]).flatten) hz)
      refine ⟨v, .ref z, ls, n, List.replicate n 0, rfl, hg5.same s5, ⟨z, rfl, .inl (by rw [upd_same, Int.toNat_natCast, rep_zero])⟩, by rw [List.length_replicate]; have := hg.gl.2.2.2.1; omega, fun mk => absurd mk (not_still hg.gl), fun _ H5 s6 => ?_⟩
      refine bad _ ?_ H5 (s5.trans s6)
      exact fun xe' H6 a b => ⟨xe', _, rfl, a, b⟩
    · obtain rfl : V.ref fb = x := Option.some.inj hi
      refine ⟨fb, rfl, .inr (.inl ⟨cb, pb, K5 _ _ fb4 lmO_nl, K5 _ _ pb4 (by intro z; cases z), K5 _ _ cb4 codeO_nl, ?_⟩)⟩
      refine ⟨_, rfl, v, .non, ls, n, .none, rfl, hg5, .non, (fun ds z => by cases z), fun z => ?_, fun _ H5 s6 => ?_⟩
      · cases z
      · refine bad _ ?_ H5 s6
        exact fun xe' H6 a b => ⟨xe', _, rfl, a, b⟩
    · obtain rfl : V.ref fc = x := Option.some.inj hi
      refine ⟨fc, rfl, .inr (.inr ⟨cc, pc, K5 _ _ fc4 lmO_nl, K5 _ _ pc4 (by intro z; cases z), K5 _ _ cc4 codeO_nl, ?_⟩)⟩
      refine ⟨_, rfl, _, rfl, by show 1 ≤ sizeLine; decide, fun l hl => ?_⟩
      have s5 := same_new (o := .lst [u]) hl
      refine ⟨v, .ref l, ls, n, .list [dT g], rfl, hg5.same s5, .lst upd_same (.cons (TN.rp (hu5.tm (.of s5))) .nil), (fun ds z => by cases z), fun _ H5 s6 => ?_, fun z => ?_⟩
      · refine bad _ ?_ H5 (s5.trans s6)
        exact fun xe' H6 a b => ⟨xe', _, rfl, a, b⟩
      · cases z
  · rintro σ H' ⟨xe, xw, rfl, st, hw⟩
    refine ⟨by show 6 ≤ sizeLine; decide, fun p1 hp1 => ⟨by show 6 ≤ sizeLine; decide, fun p2 hp2 => ⟨by show 2 ≤ sizeLine; decide, fun p3 hp3 => ?_⟩⟩⟩
    have sa := same_new (o := .tup (nIs [1, 2, 3, 4, 5, 0])) hp1
    have sb := same_new (o := .tup (nIs [1, 0, 2, 3, 4, 5])) hp2
    have sc := same_new (o := .tup [V.ref p1, V.ref p2]) hp3
    have tt : TT (upd (upd (upd H' p1 (.tup (nIs [1, 2, 3, 4, 5, 0]))) p2 (.tup (nIs [1, 0, 2, 3, 4, 5]))) p3 (.tup [V.ref p1, V.ref p2])) (.ref p3) g6 :=
      ⟨p3, _, rfl, upd_same, .cons ⟨p1, rfl, .inl (sc _ _ (sb _ _ upd_same))⟩ (.cons ⟨p2, rfl, .inl (sc _ _ upd_same)⟩ .nil)⟩
    refine ⟨.ref p3, rfl, .tuple (g6.map dT), TT.rp tt, sml_good g6_gl, fun pl z => ?_, fun _ => ⟨g6, 6, tt, g6_gl, fun L hL h240 d H5 s5 hd => ?_, fun L hL h => absurd (g6_wd hL) (by omega)⟩⟩
    · rw [lockBad_good g6_gl] at z
      cases z
    · have hw5 := s5 _ _ (sc _ _ (sb _ _ (sa _ _ hw)))
      refine ⟨true, eM.exm, fun _ a ha => ?_, fun q => by cases q⟩
      refine ⟨_, rfl, by show 1 ≤ sizeLine; decide, fun l hl => ⟨l, 3, [wTurn], rfl, rfl, upd_same, by decide, by decide, by decide, fun p hp => ?_⟩⟩
      have s6 := (same_new (o := .lst [wTurn]) hl).trans (same_new (o := .lst (List.replicate (3 : Int).toNat [wTurn]).flatten) hp)
      refine ⟨.list [.str "turn", .str "turn", .str "turn"], .list [.str "turn", .str "turn", .str "turn"], .lst (SqL.of (s6 _ _ hw5)) (.cons (.str _) (.cons (.str _) (.cons (.str _) .nil))), .lst (SqL.of upd_same) (.cons (.str _) (.cons (.str _) (.cons (.str _) .nil))), by decide +kernel, by decide +kernel, true, by decide +kernel, ?_⟩
      refine iteT ⟨.ref a, rfl, rfl, rfl, d, _, _, rfl, s6 _ _ hd, rfl, rfl, ?_⟩
      rw [show decide (V.int 240 = V.int 240) = true from decide_eq_true rfl]
      exact q _
end
end Lt

set_option Elab.async false
set_option linter.all false
set_option maxRecDepth 100000
set_option maxHeartbeats 2000000
namespace Lt
open PySem PySem.Spec PyProof.Rows L2 NdefX LamX LmX
/-! ### locks that are none -/
def OddAt (H : Hp) (v : V) : Prop := ∃ a o d pl, v = .ref a ∧ H a = some (.tup [o, plV pl]) ∧ Rp H o d ∧ Sml d ∧ lockBad d = some pl
theorem OddAt.same {H H' : Hp} {v : V} (e : Same H H') (h : OddAt H v) : OddAt H' v := let ⟨a, o, d, pl, h1, h2, h3, h4, h5⟩ := h; ⟨a, o, d, pl, h1, e _ _ h2, h3.same e, h4, h5⟩
theorem Rp.len {H : Hp} : ∀ {xs : List V} {ds : List PyData}, RpAll H xs ds → xs.length = ds.length
  | _, _, .nil => rfl
  | _, _, .cons _ t => congrArg Nat.succ (Rp.len t)
theorem RpAll.app {H : Hp} : ∀ {xs ys : List V} {ds es : List PyData}, RpAll H xs ds → RpAll H ys es → RpAll H (xs ++ ys) (ds ++ es)
  | _, _, _, _, .nil, h => h
  | _, _, _, _, .cons r t, h => .cons r (RpAll.app t h)
theorem RpAll.rep {H : Hp} {xs : List V} {ds : List PyData} (h : RpAll H xs ds) : ∀ k : Nat, RpAll H (List.replicate k xs).flatten (List.replicate k ds).flatten
  | 0 => .nil
  | k + 1 => by
    rw [List.replicate_succ, List.replicate_succ, List.flatten_cons, List.flatten_cons]
    exact RpAll.app h (RpAll.rep h k)
theorem sml_of {ds : List PyData} (h1 : ds.length ≤ 1000) (h2 : ∀ e ∈ ds, ∀ es, e = .tuple es → es.length < 64) : Sml (.tuple ds) := fun es z => by
  injection z with z
  subst z
  exact ⟨h1, h2⟩
theorem lb_many {ds : List PyData} (h : 4 < ds.length) : lockBad (.tuple ds) = some none := by
  show (if 1 ≤ ds.length ∧ ds.length ≤ 4 then _ else some none) = some none
  rw [if_neg (by omega)]
theorem firstBad_end {n : Nat} {b : PyData} (hb : isPermD b n = false) : ∀ (ls : List (List Nat)) (i : Nat), (∀ g ∈ ls, IsP n g) → firstBad (ls.map dT ++ [b]) n i = some (i + ls.length)
  | [], i, _ => by
    show (if isPermD b n = true then _ else some i) = _
    rw [hb]
    rfl
  | g :: ls, i, h => by
    show (if isPermD (dT g) n = true then firstBad (ls.map dT ++ [b]) n (i + 1) else some i) = _
    rw [isPermD_dT, if_pos (decide_eq_true (h g List.mem_cons_self)), firstBad_end hb ls (i + 1) fun x hx => h x (List.mem_cons_of_mem _ hx)]
    rw [List.length_cons]
    congr 1
    omega
theorem lb_end {ls : List (List Nat)} {n : Nat} (g : GL ls n) (h3 : ls.length ≤ 3) : lockBad (.tuple (ls.map dT ++ [.tuple [.int 0]])) = some (some ls.length) := by
  obtain ⟨g1, g2, g3, g4, g5⟩ := g
  have hb : isPermD (.tuple [.int 0]) n = false := by
    unfold isPermD
    have : ¬ (numsOf (.tuple [.int 0])).Perm (rangeI n) := fun p => by
      have l := p.length_eq
      have l1 : (numsOf (.tuple [.int 0])).length = 1 := rfl
      have l2 : (rangeI n).length = n := by unfold rangeI; rw [List.length_map, List.length_range]
      omega
    rw [decide_eq_false this, Bool.and_false]
  cases ls with
  | nil => simp at g1
  | cons t ls =>
    have hl : lenOf (dT t) = n := by
      show (t.map dN).length = n
      rw [List.length_map]
      exact (g5 t List.mem_cons_self).len
    show (if 1 ≤ ((t :: ls).map dT ++ [PyData.tuple [.int 0]]).length ∧ ((t :: ls).map dT ++ [PyData.tuple [.int 0]]).length ≤ 4 then (if isTup (dT t) = true ∧ 2 ≤ lenOf (dT t) ∧ lenOf (dT t) ≤ 9 then (firstBad ((t :: ls).map dT ++ [.tuple [.int 0]]) (lenOf (dT t)) 0).map some else some (some 0)) else some none) = _
    have hlen : ((t :: ls).map dT ++ [PyData.tuple [.int 0]]).length = (t :: ls).length + 1 := by rw [List.length_append, List.length_map]; rfl
    rw [if_pos ⟨by omega, by omega⟩, hl, if_pos ⟨rfl, g3, g4⟩, firstBad_end hb (t :: ls) 0 g5, Nat.zero_add]
    rfl
theorem flen {α : Type} (l : List α) : ∀ k : Nat, (List.replicate k l).flatten.length = k * l.length
  | 0 => by simp
  | k + 1 => by rw [List.replicate_succ, List.flatten_cons, List.length_append, flen l k, Nat.succ_mul, Nat.add_comm]
theorem mem_rep {α : Type} {l : List α} {x : α} {k : Nat} (h : x ∈ (List.replicate k l).flatten) : x ∈ l := by
  obtain ⟨m, hm, hx⟩ := List.mem_flatten.mp h
  rw [(List.mem_replicate.mp hm).2] at hx
  exact hx
section
variable {P : Program} {w : World} {K : PySem.W.Frag} {mg : Str → Option Value} {base : Heap} {CL CM CT c Pt : Addr}
def tOdd (K : PySem.W.Frag) (CL CM : Addr) : TS := fun D σ H => (fun W => tSeq (tDrop (tCallS (spAll CL CM) (WE W) (tCons (tVar 12) tNil))) (tRet (tC (.bl false)))) (wAs K (.ref CL) 13 (fun a cls d => tIfS (tTest (tOp rNe (tXf a cls d CL "place" (tVar 13)) (tVar 7))) (tRet (tC (.bl false))) tNext) (fun _ _ _ _ => False) D) D σ H
theorem law_odds {f0 : Addr} {A : Around} {outer : List Env} {s0 : Shared} {H0 : Hp} {E0' : XK} (hr : Room 7 (LX P w K mg base f0 (.ref c) A outer s0 H0 E0').A) (B : Bi mg) (TB : TabB base mg c Pt)
    (hU : Has P w K mg base (L2.CX P w) 6 "undo" ["lock", "turn"] (spUndo CT)) (hI : Has P w K mg base (L2.CX P w) 6 "is_made" ["lock", "turn"] (spIsMade CT)) (hJ : Has P w K mg base (L2.CX P w) 6 "join" ["lock", "turns"] (spJoin CT))
    (hA : Has P w K mg base (L2.CX P w) 6 "all_turns" ["lock"] (spAll CL CM)) (eL : ErrI P w K mg base "BadLock" "place" CL) (eT : Err0 K mg "BadTurn" CT) (eM : ErrI P w K mg base "TooMany" "most" CM) :
    ∃ t, PSs (LX P w K mg base f0 (.ref c) A outer s0 H0 E0') ((defBody s_law).drop 15) t ∧ ∀ (D : Ends) (H : Hp) (x0 x1 x2 x3 x4 x5 x6 x7 x8 x9 x10 x11 x12 x13 x14 x15 : Option V) (v u : V) (ls : List (List Nat)) (n : Nat) (g : List Nat),
      ls.length ≤ 3 → Good H v ls n → TN H u g → Tabs [(Pt, q_law)] H → (∀ H', D.rt (.bl true) H') → t D [x0, x1, x2, x3, x4, x5, x6, x7, x8, x9, x10, x11, x12, x13, x14, x15, some v, some u, some (nI n)] H := by
  have hu := hr.units
  obtain ⟨tt, ht, qt⟩ := law_tail (outer := outer) (s0 := s0) (H0 := H0) (E0' := E0') hr B TB hU hI hJ hA eT eM
  refine ⟨_, pss_cons (ps_set (i := 11) sc_law.nd rfl (Or.inl rfl) (pe_lst (pa_cons (pe_tup (pa_cons pe_non (pa_cons pe_non pa_nil))) (pa_cons (pe_tup (pa_cons (pe_tup pa_nil) (pa_cons pe_non pa_nil))) (pa_cons (pe_tup (pa_cons (pe_op op_repT (pv 16) pe_int) (pa_cons pe_non pa_nil)))
      (pa_cons (pe_tup (pa_cons (pe_op op_catA (pv 16) (pe_tup (pa_cons (pe_tup (pa_cons pe_int pa_nil)) pa_nil))) (pa_cons (pe_callB call_len_seq (by rfl) B.len PySem.boot_len (pa_cons (pv 16) pa_nil)) pa_nil))) (pa_cons (pe_tup (pa_cons (pe_tup (pa_cons (pe_tup (pa_cons pe_int pa_nil)) pa_nil)) (pa_cons pe_int pa_nil))) pa_nil)))))))
    (pss_cons (ps_set (i := 11) sc_law.nd rfl (Or.inl rfl) (pe_op op_cat (pv 11) (pe_lst (pa_cons (pe_tup (pa_cons (pe_tup (pa_cons (pe_callTy call_list_of (by rfl) B.list PyProof.Rows.boot_list (pa_cons (pe_ix ix_tup (pv 16) pe_int (fun _ _ => rfl)) pa_nil)) pa_nil)) (pa_cons pe_int pa_nil)))
      (pa_cons (pe_tup (pa_cons (pe_tup (pa_cons (pe_tup (pa_cons pe_int (pa_cons pe_int pa_nil))) pa_nil)) (pa_cons pe_int pa_nil))) (pa_cons (pe_tup (pa_cons (pe_tup (pa_cons (pe_tup (pa_cons pe_bl (pa_cons pe_int pa_nil))) pa_nil)) (pa_cons pe_int pa_nil))) pa_nil))))))
    (pss_cons (ps_for (passes_of rfl) rfl (pi_list (pv 11)) (pg_tup (by rfl) (pgs_cons (pg_name (i := 12) sc_law.nd rfl (Or.inl rfl)) (pgs_cons (pg_name (i := 7) sc_law.nd rfl (Or.inl rfl)) pgs_nil)))
      (pss_one (ps_try_as (i := 13) (tb := fun W => tSeq (tDrop (tCallS (spAll CL CM) (WE W) (tCons (tVar 12) tNil))) (tRet (tC (.bl false)))) (ts := fun a cls d => tIfS (tTest (tOp rNe (tXf a cls d CL "place" (tVar 13)) (tVar 7))) (tRet (tC (.bl false))) tNext) (Wout := fun _ _ _ _ => False) rfl rfl sc_law.nd rfl rfl ⟨rfl, by decide, Or.inl eL.g⟩ L2.takes0
        (fun W pn xe tk _ => pss_cons (ps_expr (by exact (pe_hasS hA (hr.mono (by decide)) (by rfl) (fun σ => passAt tk σ) (pa_cons (pv 12) pa_nil)))) (pss_one (ps_ret pe_bl)))
        (fun a oe cls d pn hz hf => pss_one (ps_if (by exact (pt_cmpR op_ne (pe_xf eL.xf eL.no hz hf (pv 13)) (pv 7) (nomark _))) (pss_one (ps_ret pe_bl)) pss_nil)))))
    ht)), ?_⟩
  intro D H x0 x1 x2 x3 x4 x5 x6 x7 x8 x9 x10 x11 x12 x13 x14 x15 v u ls n g h3 hg hug hT q
  obtain ⟨a, xs, b, rfl, ha, hp0, h0, t0, hbt, htl⟩ := hg.tt.head hg.gl
  obtain ⟨g1, g2, g3, g4, g5⟩ := hg.gl
  have hxl : xs.length = ls.length := Paired.length hp0
  refine ⟨Nat.le_of_ble_eq_true rfl, fun p1 hp1 => ?_⟩
  have s1 := same_new (o := .tup [.non, .non]) hp1
  have k1 : (upd H p1 (.tup [.non, .non])) p1 = some (.tup [.non, .non]) := upd_same
  generalize upd H p1 (.tup [.non, .non]) = H1 at s1 k1 ⊢
  have o1 : OddAt H1 (.ref p1) := ⟨p1, .non, .none, none, rfl, k1, .non, (fun ds z => by cases z), rfl⟩
  refine ⟨Nat.le_of_ble_eq_true rfl, fun z2 hz2 => ?_⟩
  have s2 := same_new (o := .tup []) hz2
  have k2 : (upd H1 z2 (.tup [])) z2 = some (.tup []) := upd_same
  generalize upd H1 z2 (.tup []) = H2 at s2 k2 ⊢
  refine ⟨Nat.le_of_ble_eq_true rfl, fun p2 hp2 => ?_⟩
  have s3 := same_new (o := .tup [V.ref z2, .non]) hp2
  have k3 : (upd H2 p2 (.tup [V.ref z2, .non])) p2 = some (.tup [V.ref z2, .non]) := upd_same
  generalize upd H2 p2 (.tup [V.ref z2, .non]) = H3 at s3 k3 ⊢
  have o2 : OddAt H3 (.ref p2) := ⟨p2, .ref z2, .tuple [], none, rfl, k3, .tup (.inl (s3 _ _ k2)) .nil, sml_of (by decide) (fun e he => by cases he), rfl⟩
  have s13 := (s1.trans s2).trans s3
  refine ⟨_, rfl, a, 5, xs, rfl, rfl, SqT.of (s13 _ _ ha), (fun z => by rw [z] at hxl; simp at hxl; omega), by decide, by decide, by omega, fun z4 hz4 => ?_⟩
  have s4 := same_new (o := .tup (List.replicate (5 : Int).toNat xs).flatten) hz4
  have k4 : (upd H3 z4 (.tup (List.replicate (5 : Int).toNat xs).flatten)) z4 = some (.tup (List.replicate (5 : Int).toNat xs).flatten) := upd_same
  generalize upd H3 z4 (.tup (List.replicate (5 : Int).toNat xs).flatten) = H4 at s4 k4 ⊢
  refine ⟨Nat.le_of_ble_eq_true rfl, fun p5 hp5 => ?_⟩
  have s5 := same_new (o := .tup [V.ref z4, .non]) hp5
  have k5 : (upd H4 p5 (.tup [V.ref z4, .non])) p5 = some (.tup [V.ref z4, .non]) := upd_same
  generalize upd H4 p5 (.tup [V.ref z4, .non]) = H5 at s5 k5 ⊢
  have s14 := s13.trans s4
  have sg := fun e he es => (sml_good hg.gl (ls.map dT) rfl).2 e he es
  have o3 : OddAt H5 (.ref p5) := ⟨p5, .ref z4, .tuple (List.replicate 5 (ls.map dT)).flatten, none, rfl, k5, .tup (.inl (s5 _ _ k4)) (RpAll.rep (TNs.rp (TNs.tm (.of (s14.trans s5)) hp0)) 5),
    sml_of (by rw [flen, List.length_map]; omega) (fun e he es z => sg e (mem_rep he) es z), lb_many (by rw [flen, List.length_map]; omega)⟩
  have s15 := s14.trans s5
  refine ⟨_, rfl, ?_⟩
  refine ⟨Nat.le_of_ble_eq_true rfl, fun w6 hw6 => ?_⟩
  have s6 := same_new (o := .tup [V.int 0]) hw6
  have k6 : (upd H5 w6 (.tup [V.int 0])) w6 = some (.tup [V.int 0]) := upd_same
  generalize upd H5 w6 (.tup [V.int 0]) = H6 at s6 k6 ⊢
  refine ⟨Nat.le_of_ble_eq_true rfl, fun y7 hy7 => ?_⟩
  have s7 := same_new (o := .tup [V.ref w6]) hy7
  have k7 : (upd H6 y7 (.tup [V.ref w6])) y7 = some (.tup [V.ref w6]) := upd_same
  generalize upd H6 y7 (.tup [V.ref w6]) = H7 at s7 k7 ⊢
  have s17 := (s15.trans s6).trans s7
  refine ⟨a, y7, xs, [.ref w6], rfl, rfl, SqT.of (s17 _ _ ha), SqT.of k7, by rw [sizeLine_eq]; show xs.length + 1 ≤ _; omega, (fun z => by rw [z] at hxl; simp at hxl; omega), (fun _ z => by cases z), fun _ _ z8 hz8 => ?_⟩
  have s8 := same_new (o := .tup (xs ++ [V.ref w6])) hz8
  have k8 : (upd H7 z8 (.tup (xs ++ [V.ref w6]))) z8 = some (.tup (xs ++ [V.ref w6])) := upd_same
  generalize upd H7 z8 (.tup (xs ++ [V.ref w6])) = H8 at s8 k8 ⊢
  have s18 := s17.trans s8
  refine ⟨_, rfl, a, xs, rfl, .inr (SqT.of (s18 _ _ ha)), ?_⟩
  refine ⟨Nat.le_of_ble_eq_true rfl, fun p9 hp9 => ?_⟩
  have s9 := same_new (o := .tup [V.ref z8, V.int xs.length]) hp9
  have k9 : (upd H8 p9 (.tup [V.ref z8, V.int xs.length])) p9 = some (.tup [V.ref z8, V.int xs.length]) := upd_same
  generalize upd H8 p9 (.tup [V.ref z8, V.int xs.length]) = H9 at s9 k9 ⊢
  have o4 : OddAt H9 (.ref p9) := ⟨p9, .ref z8, .tuple (ls.map dT ++ [.tuple [.int 0]]), some ls.length, rfl, by rw [k9, hxl]; rfl, .tup (.inl (s9 _ _ k8)) (RpAll.app (TNs.rp (TNs.tm (.of (s18.trans s9)) hp0)) (.cons (.tup (.inl (s9 _ _ (s8 _ _ (s7 _ _ k6)))) (.cons (.int 0) .nil)) .nil)),
    sml_of (by rw [List.length_append, List.length_map]; show ls.length + 1 ≤ 1000; omega) (fun e he es z => by
      rcases List.mem_append.mp he with h | h
      · exact sg e h es z
      · rw [List.mem_singleton.mp h] at z
        injection z with z
        rw [← z]
        decide), lb_end hg.gl h3⟩
  have s19 := s18.trans s9
  refine ⟨Nat.le_of_ble_eq_true rfl, fun w10 hw10 => ?_⟩
  have s10 := same_new (o := .tup [V.int 0]) hw10
  have k10 : (upd H9 w10 (.tup [V.int 0])) w10 = some (.tup [V.int 0]) := upd_same
  generalize upd H9 w10 (.tup [V.int 0]) = H10 at s10 k10 ⊢
  refine ⟨Nat.le_of_ble_eq_true rfl, fun z11 hz11 => ?_⟩
  have s11 := same_new (o := .tup [V.ref w10]) hz11
  have k11 : (upd H10 z11 (.tup [V.ref w10])) z11 = some (.tup [V.ref w10]) := upd_same
  generalize upd H10 z11 (.tup [V.ref w10]) = H11 at s11 k11 ⊢
  refine ⟨Nat.le_of_ble_eq_true rfl, fun p12 hp12 => ?_⟩
  have s12 := same_new (o := .tup [V.ref z11, V.int 0]) hp12
  have k12 : (upd H11 p12 (.tup [V.ref z11, V.int 0])) p12 = some (.tup [V.ref z11, V.int 0]) := upd_same
  generalize upd H11 p12 (.tup [V.ref z11, V.int 0]) = H12 at s12 k12 ⊢
  have o5 : OddAt H12 (.ref p12) := ⟨p12, .ref z11, .tuple [.tuple [.int 0]], some 0, rfl, k12, .tup (.inl (s12 _ _ k11)) (.cons (.tup (.inl (s12 _ _ (s11 _ _ k10))) (.cons (.int 0) .nil)) .nil),
    sml_of (by decide) (fun e he es z => by
      rw [List.mem_singleton.mp he] at z
      injection z with z
      rw [← z]
      decide), by decide +kernel⟩
  refine ⟨Nat.le_of_ble_eq_true rfl, fun l13 hl13 => ?_⟩
  have s13' := same_new (o := .lst [V.ref p1, V.ref p2, V.ref p5, V.ref p9, V.ref p12]) hl13
  have k13 : (upd H12 l13 (.lst [V.ref p1, V.ref p2, V.ref p5, V.ref p9, V.ref p12])) l13 = some (.lst [V.ref p1, V.ref p2, V.ref p5, V.ref p9, V.ref p12]) := upd_same
  generalize upd H12 l13 (.lst [V.ref p1, V.ref p2, V.ref p5, V.ref p9, V.ref p12]) = H13 at s13' k13 ⊢
  have s1d := (((s19.trans s10).trans s11).trans s12).trans s13'
  refine ⟨_, rfl, ?_⟩
  refine ⟨_, rfl, a, xs, 0, .ref b, rfl, rfl, SqT.of (s1d _ _ ha), h0, b, nIs t0, rfl, .inr (hbt.sm s1d).sq, fun l14 hl14 => ?_⟩
  have s14' := same_new (o := .lst (nIs t0)) hl14
  have k14 : (upd H13 l14 (.lst (nIs t0))) l14 = some (.lst (nIs t0)) := upd_same
  generalize upd H13 l14 (.lst (nIs t0)) = H14 at s14' k14 ⊢
  refine ⟨Nat.le_of_ble_eq_true rfl, fun z15 hz15 => ?_⟩
  have s15' := same_new (o := .tup [V.ref l14]) hz15
  have k15 : (upd H14 z15 (.tup [V.ref l14])) z15 = some (.tup [V.ref l14]) := upd_same
  generalize upd H14 z15 (.tup [V.ref l14]) = H15 at s15' k15 ⊢
  refine ⟨Nat.le_of_ble_eq_true rfl, fun p16 hp16 => ?_⟩
  have s16 := same_new (o := .tup [V.ref z15, V.int 0]) hp16
  have k16 : (upd H15 p16 (.tup [V.ref z15, V.int 0])) p16 = some (.tup [V.ref z15, V.int 0]) := upd_same
  generalize upd H15 p16 (.tup [V.ref z15, V.int 0]) = H16 at s16 k16 ⊢
  have o6 : OddAt H16 (.ref p16) := ⟨p16, .ref z15, .tuple [.list (t0.map dN)], some 0, rfl, k16, .tup (.inl (s16 _ _ k15)) (.cons (.lst (s16 _ _ (s15' _ _ k14)) (rp_nats t0)) .nil),
    sml_of (by show 1 ≤ 1000; decide) (fun e he es z => by
      rw [List.mem_singleton.mp he] at z
      cases z), rfl⟩
  refine ⟨Nat.le_of_ble_eq_true rfl, fun w17 hw17 => ?_⟩
  have s17' := same_new (o := .tup [V.int 0, V.int 0]) hw17
  have k17 : (upd H16 w17 (.tup [V.int 0, V.int 0])) w17 = some (.tup [V.int 0, V.int 0]) := upd_same
  generalize upd H16 w17 (.tup [V.int 0, V.int 0]) = H17 at s17' k17 ⊢
  refine ⟨Nat.le_of_ble_eq_true rfl, fun z18 hz18 => ?_⟩
  have s18' := same_new (o := .tup [V.ref w17]) hz18
  have k18 : (upd H17 z18 (.tup [V.ref w17])) z18 = some (.tup [V.ref w17]) := upd_same
  generalize upd H17 z18 (.tup [V.ref w17]) = H18 at s18' k18 ⊢
  refine ⟨Nat.le_of_ble_eq_true rfl, fun p19 hp19 => ?_⟩
  have s19' := same_new (o := .tup [V.ref z18, V.int 0]) hp19
  have k19 : (upd H18 p19 (.tup [V.ref z18, V.int 0])) p19 = some (.tup [V.ref z18, V.int 0]) := upd_same
  generalize upd H18 p19 (.tup [V.ref z18, V.int 0]) = H19 at s19' k19 ⊢
  have o7 : OddAt H19 (.ref p19) := ⟨p19, .ref z18, .tuple [.tuple [.int 0, .int 0]], some 0, rfl, k19, .tup (.inl (s19' _ _ k18)) (.cons (.tup (.inl (s19' _ _ (s18' _ _ k17))) (.cons (.int 0) (.cons (.int 0) .nil))) .nil),
    sml_of (by decide) (fun e he es z => by
      rw [List.mem_singleton.mp he] at z
      injection z with z
      rw [← z]
      decide), by decide +kernel⟩
  refine ⟨Nat.le_of_ble_eq_true rfl, fun w20 hw20 => ?_⟩
  have s20 := same_new (o := .tup [V.bl true, V.int 0]) hw20
  have k20 : (upd H19 w20 (.tup [V.bl true, V.int 0])) w20 = some (.tup [V.bl true, V.int 0]) := upd_same
  generalize upd H19 w20 (.tup [V.bl true, V.int 0]) = H20 at s20 k20 ⊢
  refine ⟨Nat.le_of_ble_eq_true rfl, fun z21 hz21 => ?_⟩
  have s21 := same_new (o := .tup [V.ref w20]) hz21
  have k21 : (upd H20 z21 (.tup [V.ref w20])) z21 = some (.tup [V.ref w20]) := upd_same
  generalize upd H20 z21 (.tup [V.ref w20]) = H21 at s21 k21 ⊢
  refine ⟨Nat.le_of_ble_eq_true rfl, fun p22 hp22 => ?_⟩
  have s22 := same_new (o := .tup [V.ref z21, V.int 0]) hp22
  have k22 : (upd H21 p22 (.tup [V.ref z21, V.int 0])) p22 = some (.tup [V.ref z21, V.int 0]) := upd_same
  generalize upd H21 p22 (.tup [V.ref z21, V.int 0]) = H22 at s22 k22 ⊢
  have o8 : OddAt H22 (.ref p22) := ⟨p22, .ref z21, .tuple [.tuple [.bool true, .int 0]], some 0, rfl, k22, .tup (.inl (s22 _ _ k21)) (.cons (.tup (.inl (s22 _ _ (s21 _ _ k20))) (.cons (.bl true) (.cons (.int 0) .nil))) .nil),
    sml_of (by decide) (fun e he es z => by
      rw [List.mem_singleton.mp he] at z
      injection z with z
      rw [← z]
      decide), by decide +kernel⟩
  refine ⟨Nat.le_of_ble_eq_true rfl, fun l23 hl23 => ?_⟩
  have s23 := same_new (o := .lst [V.ref p16, V.ref p19, V.ref p22]) hl23
  have k23 : (upd H22 l23 (.lst [V.ref p16, V.ref p19, V.ref p22])) l23 = some (.lst [V.ref p16, V.ref p19, V.ref p22]) := upd_same
  generalize upd H22 l23 (.lst [V.ref p16, V.ref p19, V.ref p22]) = H23 at s23 k23 ⊢
  have e7 := ((s20.trans s21).trans s22).trans s23
  have e6 := ((s17'.trans s18').trans s19').trans e7
  have e5 := (((s13'.trans s14').trans s15').trans s16).trans e6
  have e4 := ((s10.trans s11).trans s12).trans e5
  have e3 := (((s6.trans s7).trans s8).trans s9).trans e4
  have e2 := (s4.trans s5).trans e3
  have e1 := (s2.trans s3).trans e2
  have all1 : ∀ x ∈ [V.ref p1, V.ref p2, V.ref p5, V.ref p9, V.ref p12] ++ [V.ref p16, V.ref p19, V.ref p22], OddAt H23 x := by
    intro x hx
    simp only [List.cons_append, List.nil_append, List.mem_cons, List.not_mem_nil, or_false] at hx
    rcases hx with rfl | rfl | rfl | rfl | rfl | rfl | rfl | rfl
    · exact o1.same e1
    · exact o2.same e2
    · exact o3.same e3
    · exact o4.same e4
    · exact o5.same e5
    · exact o6.same e6
    · exact o7.same e7
    · exact o8.same s23
  refine ⟨l13, l23, _, _, rfl, rfl, ((s14'.trans s15').trans s16).trans e6 _ _ k13, k23, Nat.le_of_ble_eq_true rfl, fun ol hol => ?_⟩
  have sE := (s1.trans e1).trans (same_new (o := .lst ([V.ref p1, V.ref p2, V.ref p5, V.ref p9, V.ref p12] ++ [V.ref p16, V.ref p19, V.ref p22])) hol)
  have kE : (upd H23 ol (.lst ([V.ref p1, V.ref p2, V.ref p5, V.ref p9, V.ref p12] ++ [V.ref p16, V.ref p19, V.ref p22]))) ol = some (.lst ([V.ref p1, V.ref p2, V.ref p5, V.ref p9, V.ref p12] ++ [V.ref p16, V.ref p19, V.ref p22])) := upd_same
  have allE := fun x hx => (all1 x hx).same (same_new (o := .lst ([V.ref p1, V.ref p2, V.ref p5, V.ref p9, V.ref p12] ++ [V.ref p16, V.ref p19, V.ref p22])) hol)
  generalize upd H23 ol (.lst ([V.ref p1, V.ref p2, V.ref p5, V.ref p9, V.ref p12] ++ [V.ref p16, V.ref p19, V.ref p22])) = HE at sE kE allE ⊢
  generalize [V.ref p1, V.ref p2, V.ref p5, V.ref p9, V.ref p12] ++ [V.ref p16, V.ref p19, V.ref p22] = os at kE allE
  refine ⟨_, rfl, ol, rfl, ⟨_, SqL.of kE⟩, for_list (K := K) (tb := tOdd K CL CM) (a := ol) (xs := os)
    (fun i σ H' => ∃ y7 y12 y13, σ = [x0, x1, x2, x3, x4, x5, x6, y7, x8, x9, x10, some (.ref ol), y12, y13, x14, x15, some (.ref a), some u, some (nI n)] ∧ Same HE H')
    ⟨x7, x12, x13, rfl, .refl _⟩ (fun i σ H' _ ⟨_, _, _, _, st⟩ => SqL.of (st _ _ kE)) ?_ ?_⟩
  · rintro i x σ H' hi ⟨y7, y12, y13, rfl, st⟩
    obtain ⟨pa, o, d, pl, rfl, hk, ho, hs, hb⟩ := (allE x (List.mem_of_getElem? hi)).same st
    refine ⟨pa, _, rfl, SqT.of hk, rfl, o, _, rfl, plV pl, _, rfl, rfl, ?_⟩
    refine ⟨_, rfl, o, rfl, d, ho, hs, fun pl' e d' H5 s5 hd => ?_, fun z => by rw [hb] at z; cases z⟩
    rw [hb] at e
    have e := Option.some.inj e
    subst e
    refine ⟨true, eL.exm, fun _ ea hea => ?_, fun z => by cases z⟩
    refine ⟨.ref ea, rfl, rfl, rfl, d', _, plV pl, rfl, hd, rfl, plV pl, rfl, by cases pl <;> rfl, _, rfl, ite2 (fun z => ?_) (fun _ => ?_)⟩
    · rw [decide_eq_true rfl] at z
      cases z
    · exact ⟨_, _, _, rfl, st.trans s5⟩
  · rintro σ H' ⟨y7, y12, y13, rfl, st⟩
    exact qt _ _ x0 x1 x2 x3 x4 x5 x6 y7 x8 x9 x10 (some (.ref ol)) y12 y13 x14 x15 (.ref a) u ls n g (hg.same (sE.trans st)) (hug.tm (.of (sE.trans st))) (hT.ext (sE.trans st)) q
end
end Lt

set_option Elab.async false
set_option linter.all false
set_option maxRecDepth 100000
set_option maxHeartbeats 2000000
namespace Lt
open PySem PySem.Spec PyProof.Rows L2 NdefX LamX LmX
/-- what the law leans on -/
structure LawHas (P : Program) (w : World) (K : PySem.W.Frag) (mg : Str → Option Value) (base : Heap) (CL CM CT : Addr) : Prop where
  bi : Bi mg
  undo : Has P w K mg base (L2.CX P w) 6 "undo" ["lock", "turn"] (spUndo CT)
  made : Has P w K mg base (L2.CX P w) 6 "is_made" ["lock", "turn"] (spIsMade CT)
  join : Has P w K mg base (L2.CX P w) 6 "join" ["lock", "turns"] (spJoin CT)
  all : Has P w K mg base (L2.CX P w) 6 "all_turns" ["lock"] (spAll CL CM)
  eL : ErrI P w K mg base "BadLock" "place" CL
  eT : Err0 K mg "BadTurn" CT
  eM : ErrI P w K mg base "TooMany" "most" CM
  swapped : Has P w K mg base CX0 6 "swapped" ["lock", "one", "other"] spSwapped
  word : Has P w K mg base CX0 6 "word_for" ["lock", "turn"] spWordFor
  rounds : Has P w K mg base CX0 6 "rounds" ["lock", "turn"] spRounds
  taken : Has P w K mg base CX0 1 "_law_taken" ["row", "many"] (spTaken K)
  pick : Has P w K mg base CX0 2 "_law_pick" ["row", "things"] (spPick K)
  is_ : Has P w K mg base CX0 1 "_law_is" ["found", "due"] spIs
  perm : Has P w K mg base CX0 2 "_law_permutation" ["row", "places"] (spLawPerm K)
  behind : Has P w K mg base CX0 1 "_law_behind" ["one", "other"] spProd
  back : Has P w K mg base CX0 1 "_law_back" ["turn"] spLawBack
  swap : Has P w K mg base CX0 2 "_law_swap" ["one", "other"] spLawSwap
  alike : ∀ k, Has P w K mg base CX0 (k + 1) "_law_alike" ["found", "due"] (spAlike k)
  span : Has P w K mg base CX0 2 "_law_span" ["places", "given"] spSpan
  words : Has P w K mg base CX0 2 "_law_words" ["lock"] spLawWords
  lock : Has P w K mg base CX0 4 "_law_lock" ["row", "kinds"] (spLock K)
section
variable {P : Program} {w : World} {K : PySem.W.Frag} {mg : Str → Option Value} {base : Heap} {CL CM CT c Pt : Addr}
theorem law_rounds {f0 : Addr} {A : Around} {outer : List Env} {s0 : Shared} {H0 : Hp} {E0' : XK} (hr : Room 7 (LX P w K mg base f0 (.ref c) A outer s0 H0 E0').A) (L : LawHas P w K mg base CL CM CT) (TB : TabB base mg c Pt) :
    ∃ t, PSs (LX P w K mg base f0 (.ref c) A outer s0 H0 E0') ((defBody s_law).drop 12) t ∧ ∀ (D : Ends) (H : Hp) (x0 x1 x2 x3 x4 x5 x6 x7 x8 x9 x10 x11 x12 x13 x14 x15 : Option V) (v u : V) (ls : List (List Nat)) (n : Nat) (g : List Nat),
      ls.length ≤ 3 → Good H v ls n → TN H u g → Mk ls n g → Tabs [(Pt, q_law)] H → (∀ H', D.rt (.bl true) H') → t D [x0, x1, x2, x3, x4, x5, x6, x7, x8, x9, x10, x11, x12, x13, x14, x15, some v, some u, some (nI n)] H := by
  have hu := hr.units
  have B := L.bi
  have hr1 : Room 1 _ := hr.mono (by decide)
  obtain ⟨tt, ht, qt⟩ := law_odds (outer := outer) (s0 := s0) (H0 := H0) (E0' := E0') hr B TB L.undo L.made L.join L.all L.eL L.eT L.eM
  refine ⟨_, pss_cons (ps_par (i := 9) (j := 10) (by rfl) sc_law.nd rfl rfl (by decide) rfl rfl (pa_cons (pv 17) (pa_cons (pe_has L.rounds (hr.mono (by decide)) (by rfl) (pa_cons (pv 16) (pa_cons (pv 17) pa_nil))) pa_nil)) (by rfl))
    (pss_cons (ps_for (passes_of rfl) rfl (pi_range2 (by rfl) B.range (pa_cons pe_int (pa_cons (pv 10) pa_nil))) (pg_name (i := 5) sc_law.nd rfl (Or.inl rfl))
      (pss_cons (ps_if (pt_cmpR (op_eqD hu) (pv 9) (pe_tupRg (by rfl) (by rfl) B.tuple (prg_1 (by rfl) B.range (pv 18))) (nomark _)) (pss_one (ps_ret pe_bl)) pss_nil)
      (pss_one (ps_set (i := 9) sc_law.nd rfl (Or.inl rfl) (pe_has L.behind hr1 (by rfl) (pa_cons (pv 9) (pa_cons (pv 17) pa_nil)))))))
    (pss_cons (ps_if (pt_cmpR (op_neD hu) (pv 9) (pe_tupRg (by rfl) (by rfl) B.tuple (prg_1 (by rfl) B.range (pv 18))) (nomark _)) (pss_one (ps_ret pe_bl)) pss_nil)
    ht)), ?_⟩
  intro D H x0 x1 x2 x3 x4 x5 x6 x7 x8 x9 x10 x11 x12 x13 x14 x15 v u ls n g h3 hg hug mk hT q
  have hP := hg.isP mk
  have n9 := hg.gl.2.2.2.1
  refine ⟨_, rfl, v, rfl, u, rfl, v, u, ls, n, g, rfl, hg, hug, mk, fun N H1 s1 hN1 hN2 hN3 hN4 => ?_⟩
  refine ⟨_, _, rfl, _, rfl, 1, (N : Int), rfl, ⟨by omega, by omega, by omega, by omega⟩, for_range (lo := 1) (n := ((N : Int) - 1).toNat)
    (fun i σ H' => ∃ y5 a, σ = [x0, x1, x2, x3, x4, y5, x6, x7, x8, some a, some (nI N), x11, x12, x13, x14, x15, some v, some u, some (nI n)] ∧ Same H1 H' ∧ TN H' a (pw n g (i + 1)))
    ⟨x5, u, rfl, .refl _, by rw [Nat.zero_add, pw_one hP]; exact hug.tm (.of s1)⟩ ?_ ?_⟩
  · rintro i σ H' hi ⟨y5, a, rfl, st, ha⟩
    refine ⟨_, rfl, _, rfl, (n : Int), rfl, .of_le (by omega) (by omega) (by omega) (by omega), fun p hp => ?_⟩
    have s5 := same_new (o := .tup (rgV 0 n)) hp
    refine ⟨dT (pw n g (i + 1)), dT (List.range n), (ha.tm (.of s5)).dp, TN.dp ⟨p, rfl, .inl (by rw [upd_same, rgV_nat])⟩, sh_T _, sh_T _, _, rfl, ?_⟩
    rw [eqv_dT, decide_eq_false (hN4 (i + 1) (by omega) (by omega))]
    refine iteF ⟨_, rfl, _, rfl, pr_call (ha.tm (.of s5)) ((hug.tm (.of s1)).tm (.of (st.trans s5))) (pw_isP hP _) hP (by omega) fun z H5 s6 hz => ?_⟩
    exact ⟨_, z, rfl, (st.trans s5).trans s6, hz.tn⟩
  · rintro σ H' ⟨y5, a, rfl, st, ha⟩
    refine ⟨_, rfl, _, rfl, (n : Int), rfl, .of_le (by omega) (by omega) (by omega) (by omega), fun p hp => ?_⟩
    have s5 := same_new (o := .tup (rgV 0 n)) hp
    refine ⟨dT (pw n g (((N : Int) - 1).toNat + 1)), dT (List.range n), (ha.tm (.of s5)).dp, TN.dp ⟨p, rfl, .inl (by rw [upd_same, rgV_nat])⟩, sh_T _, sh_T _, _, rfl, ?_⟩
    rw [eqv_dT, show ((N : Int) - 1).toNat + 1 = N by omega, hN3, decide_eq_true rfl]
    have sA := (s1.trans st).trans s5
    exact iteF (qt _ _ x0 x1 x2 x3 x4 y5 x6 x7 x8 (some a) (some (nI N)) x11 x12 x13 x14 x15 v u ls n g h3 (hg.same sA) (hug.tm (.of sA)) (hT.ext sA) q)
end
end Lt

set_option Elab.async false
set_option linter.all false
set_option maxRecDepth 100000
set_option maxHeartbeats 2000000
namespace Lt
open PySem PySem.Spec PyProof.Rows L2 NdefX LamX LmX
theorem Tabs.row {K : PySem.W.Frag} {H H' : Hp} {r sc : Addr} {ns : List Int} {T : List (Addr × Str)} (ra : RowAt K H r sc ns) (s : StepR r H H') (h : Tabs T H) : Tabs T H' := fun p hp => by
  obtain ⟨x, y, z, R⟩ := ra
  obtain ⟨ps, h1, h2, h3⟩ := h p hp
  refine ⟨ps, s _ _ (ne_of h1 R.at_ (fun z => nomatch z)) h1, h2, fun pos cv hc => ?_⟩
  obtain ⟨c, e1, e2⟩ := h3 pos cv hc
  exact ⟨c, e1, s _ _ (ne_of e2 R.at_ (by unfold CodeO; intro z; cases z)) e2⟩
theorem pl0 (i : Int) : Pl 0 (.int i) := trivial
theorem pl1 (t : List Nat) (h : t.length ≤ 1000) : Pl 1 (dT t) := ⟨by rw [List.length_map]; exact h, fun e he => by
  obtain ⟨x, _, rfl⟩ := List.mem_map.mp he
  trivial⟩
section
variable {P : Program} {w : World} {K : PySem.W.Frag} {mg : Str → Option Value} {base : Heap} {CL CM CT c Pt : Addr}
theorem law_joins {f0 : Addr} {A : Around} {outer : List Env} {s0 : Shared} {H0 : Hp} {E0' : XK} (hr : Room 7 (LX P w K mg base f0 (.ref c) A outer s0 H0 E0').A) (L : LawHas P w K mg base CL CM CT) (TB : TabB base mg c Pt) :
    ∃ t, PSs (LX P w K mg base f0 (.ref c) A outer s0 H0 E0') ((defBody s_law).drop 7) t ∧ ∀ (D : Ends) (H : Hp) (x0 x4 x5 x6 x7 x8 x9 x10 x11 x12 x13 x14 x15 : Option V) (r p sc : Addr) (ns : List Int) (v u u3 : V) (ls ts : List (List Nat)) (n : Nat) (g g3 : List Nat),
      RowAt K H r sc ns → ls.length ≤ 3 → Good H v ls n → LF H p ts → p ≠ r → ts.Nodup → (∀ t, t ∈ ts ↔ Mk ls n t) → TF H u g → Mk ls n g → TF H u3 g3 → Mk ls n g3 → Tabs [(Pt, q_law)] H → (∀ H', D.rt (.bl true) H') →
      t D [x0, some (.ref r), some (.ref p), some u3, x4, x5, x6, x7, x8, x9, x10, x11, x12, x13, x14, x15, some v, some u, some (nI n)] H := by
  have hu := hr.units
  have B := L.bi
  have hr1 : Room 1 _ := hr.mono (by decide)
  have hr2 : Room 2 _ := hr.mono (by decide)
  have hr3 : Room 3 _ := hr.mono (by decide)
  have hr6 : Room 6 _ := hr.mono (by decide)
  obtain ⟨tt, ht, qt⟩ := law_rounds (outer := outer) (s0 := s0) (H0 := H0) (E0' := E0') hr L TB
  refine ⟨_, pss_cons (ps_set (i := 6) sc_law.nd rfl (Or.inl rfl) (pe_tupleOf (by rfl) B.tuple (pe_lc (own := [("turn", 5)]) (g := gName 5) (te := tCall (spPick K) [] C8.E0 (tCons (tVar 1) (tCons (tVar 2) tNil))) (by rfl) sc_law.nd
      (pi_range1 (by rfl) B.range (pa_cons (pe_has L.taken hr1 (by rfl) (pa_cons (pv 1) (pa_cons pe_int pa_nil))) pa_nil)) (blkOk_by (own := [("turn", 5)]) (N := lawN) (sc := defScope s_law) (by decide +kernel))
      (fun _ _ _ _ _ => pg_name (i := 5) sc_law.nd rfl (Or.inl rfl)) (fun _ _ _ _ _ => pts_nil) (fun _ _ _ _ _ => pe_has L.pick hr2 (by rfl) (pa_cons (pv 1) (pa_cons (pv 2) pa_nil))))))
    (pss_cons (ps_set (i := 7) sc_law.nd rfl (Or.inl rfl) (pe_tupRg (by rfl) (by rfl) B.tuple (prg_1 (by rfl) B.range (pv 18))))
    (pss_cons (ps_for (passes_of rfl) rfl (pi_tup (pv 6)) (pg_name (i := 5) sc_law.nd rfl (Or.inl rfl))
      (pss_one (ps_set (i := 7) sc_law.nd rfl (Or.inl rfl) (pe_has L.behind hr1 (by rfl) (pa_cons (pv 7) (pa_cons (pv 5) pa_nil))))))
    (pss_cons (ps_set (i := 8) sc_law.nd rfl (Or.inl rfl) (pe_lst (pa_cons (pe_hasL L.join hr6 (by rfl) (pa_cons (pv 16) (pa_cons (pv 6) pa_nil))) (pa_cons (pe_hasL L.undo hr6 (by rfl) (pa_cons (pv 16) (pa_cons (pv 17) pa_nil))) (pa_cons (pe_has L.swapped hr6 (by rfl) (pa_cons (pv 16) (pa_cons (pv 17) (pa_cons (pv 3) pa_nil)))) pa_nil)))))
    (pss_cons (ps_if (pt_not (pt_val (pe_has (L.alike 2) hr3 (by rfl) (pa_cons (pv 8) (pa_cons (pe_lst (pa_cons (pv 7) (pa_cons (pe_has L.back hr1 (by rfl) (pa_cons (pv 17) pa_nil)) (pa_cons (pe_has L.swap hr2 (by rfl) (pa_cons (pv 17) (pa_cons (pv 3) pa_nil))) pa_nil)))) pa_nil))))) (pss_one (ps_ret pe_bl)) pss_nil)
    ht)))), ?_⟩
  intro D H x0 x4 x5 x6 x7 x8 x9 x10 x11 x12 x13 x14 x15 r p sc ns v u u3 ls ts n g g3 ra h3 hg hlf hpr hnd hmem hug mk hu3 mk3 hT q
  have hP := hg.isP mk
  have hP3 := hg.isP mk3
  have n9 := hg.gl.2.2.2.1
  have hts : ts.length ≤ 63 := hg.few.le hnd fun t h => (hmem t).mp h
  have hts1 : 1 ≤ ts.length := List.length_pos_of_mem ((hmem _).mpr .still)
  refine ⟨_, rfl, r, sc, ns, 5, rfl, ra, by omega, by omega, fun m H1 hm st1 ra1 => ?_⟩
  refine ⟨(m : Int), rfl, by omega, by omega, fun Da hDa => ?_⟩
  have hDr : Da ≠ r := (ra1.ne hDa).symm
  refine lc_range (lo := 0) (n := (m : Int).toNat) (fun i H' => StepR r H H' ∧ RowAt K H' r sc ns ∧ ∃ us sel, H' Da = some (.lst us) ∧ Paired (TF H') us sel ∧ sel.length = i ∧ ∀ t ∈ sel, Mk ls n t)
    ⟨st1.trans (.of (same_new hDa)), ra1.step (same_new hDa), [], [], upd_same, .nil, rfl, fun g h => by cases h⟩ ?_ ?_
  · rintro i H' hi ⟨st4, ra4, us, sel, hus, pus, hll, hMk⟩
    obtain ⟨wx, hw, pw⟩ := hlf.step ra hpr st4
    have hwl : wx.length = ts.length := Paired.length pw
    refine ⟨rfl, iteT (B := StepR r H H' ∧ RowAt K H' r sc ns ∧ ∃ us sel, H' Da = some (.lst us) ∧ Paired (TF H') us sel ∧ sel.length = i ∧ ∀ t ∈ sel, Mk ls n t) ⟨_, rfl, _, rfl, r, p, sc, ns, wx, rfl, ra4, hw, hpr, by omega, by omega, fun x H5 hx st5 ra5 => ?_⟩⟩
    obtain ⟨t, htm, htf⟩ := Paired.memL pw hx
    have hus5 := st5 _ _ hDr hus
    have t6 := Tm.lst (o := .lst (us ++ [x])) hus5
    have tm5 := (st5.tm ra4).trans t6
    have hD0 : H Da = none := st1.free (ra1.ne hDa) hDa
    refine ⟨us, hus5, by rw [Paired.length pus, hll, sizeLine_eq]; omega, (st4.trans st5).mut hD0, RowAt.mut ra1 hDa ra5, us ++ [x], sel ++ [t], upd_same, Paired.app (TFs.tm tm5 pus) (Paired.one (TF.tm tm5 htf)), by rw [List.length_append, hll]; rfl, fun g hg => ?_⟩
    rcases List.mem_append.mp hg with z | z
    · exact hMk g z
    · rw [List.mem_singleton.mp z]
      exact (hmem t).mp htm
  · rintro H' ⟨st4, ra4, us, sel, hus, pus, hll, hMk⟩
    refine .inl ⟨Da, us, rfl, SqL.of hus, fun ps hps => ?_⟩
    have s7 := same_new (o := .tup us) hps
    have k7 : (upd H' ps (.tup us)) ps = some (.tup us) := upd_same
    have psel : Paired (TN (upd H' ps (.tup us))) us sel := TNs.tm (.of s7) (paired_mono (fun _ _ r => TF.tn r) pus)
    have tmA := (st4.tm ra).trans (.of s7)
    have hgA := hg.tm tmA
    have hugA := hug.tm tmA
    have hu3A := hu3.tm tmA
    have hTA := (Tabs.row ra st4 hT).ext s7
    have hselP : ∀ t ∈ sel, IsP n t := fun t ht => hg.isP (hMk t ht)
    have hsl : sel.length ≤ 5 := by omega
    clear hus pus st4 ra4
    generalize upd H' ps (.tup us) = HA at *
    refine ⟨_, rfl, (n : Int), rfl, .of_le (by omega) (by omega) (by omega) (by omega), fun pd hpd => ?_⟩
    have s8 := same_new (o := .tup (rgV 0 n)) hpd
    refine ⟨_, rfl, ps, rfl, ⟨_, SqT.of (s8 _ _ k7)⟩, for_tup (K := K) (a := ps) (xs := us) (fun i σ H' => ∃ y5 due, σ = [x0, some (.ref r), some (.ref p), some u3, x4, y5, some (.ref ps), some due, x8, x9, x10, x11, x12, x13, x14, x15, some v, some u, some (nI n)] ∧ Same HA H' ∧ TN H' due ((sel.take i).foldl prod (List.range n)))
      ⟨x5, .ref pd, rfl, s8, pd, rfl, .inl (by rw [upd_same, rgV_nat]; rfl)⟩ (fun i σ H' _ ⟨_, _, _, s, _⟩ => SqT.of (s _ _ k7)) ?_ ?_⟩
    · rintro i y σ H5 hi ⟨y5, due, rfl, sm, hd⟩
      obtain ⟨t', ht', htn⟩ := Paired.getL psel hi
      have hm1 := fold_mk hg.gl.2.2.2.2 (sel.take i) (List.range n) .still fun x hx => hMk x (List.mem_of_mem_take hx)
      refine ⟨_, rfl, _, rfl, pr_call hd (htn.tm (.of sm)) (hg.isP hm1) (hselP t' (List.mem_of_getElem? ht')) (by omega) fun r2 H6 s6 hr2 => ?_⟩
      exact ⟨_, r2, rfl, sm.trans s6, by rw [fold_next ht']; exact hr2.tn⟩
    · rintro σ H5 ⟨y5, due, rfl, sm, hd⟩
      rw [Paired.length psel, List.take_length] at hd
      have tt5 : TT H5 (.ref ps) sel := ⟨ps, us, rfl, sm _ _ k7, TNs.tm (.of sm) psel⟩
      have hg5 := hgA.same sm
      have hm1 := fold_mk hg.gl.2.2.2.2 sel (List.range n) .still hMk
      have hmP := hg.isP hm1
      refine ⟨_, rfl, _, rfl, v, .ref ps, ls, n, .tuple (sel.map dT), rfl, hg5, tt5.rp, sml_of (by rw [List.length_map]; omega) (fun e he es z => ?_), fun z => ?_, fun _ => ⟨sel, tt5, hMk, by omega, fun j1 H6 s6 hj1 => ?_⟩⟩
      · obtain ⟨t, ht, rfl⟩ := List.mem_map.mp he
        have := tlen (m := 9) (by rw [(hselP t ht).len]; omega) es z
        omega
      · have y : areTurnsD (LL ls n) (.tuple (sel.map dT)) = true := by
          show (sel.map dT).all (isTurnD (LL ls n)) = true
          rw [List.all_map]
          exact List.all_eq_true.mpr fun t ht => (isTurn_mk hg t).mpr (hMk t ht)
        rw [y] at z
        cases z
      · refine ⟨_, rfl, _, rfl, v, u, ls, n, g, rfl, hg5.same s6, (hugA.tn.tm (.of (sm.trans s6))), by rw [hP.len]; omega, fun _ j2 H7 s7' hj2 => ?_, fun z => absurd mk z⟩
        have s67 := (sm.trans s6).trans s7'
        refine ⟨_, rfl, _, rfl, _, rfl, v, u, u3, ls, n, g, g3, rfl, hgA.same s67, hugA.tn.tm (.of s67), hu3A.tn.tm (.of s67), mk, mk3, fun j3 H8 s8' hj3 => ?_⟩
        refine ⟨Nat.le_of_ble_eq_true rfl, fun pt hpt => ?_⟩
        have s9 := same_new (o := .lst [j1, j2, j3]) hpt
        have s69 := (s67.trans s8').trans s9
        refine ⟨_, rfl, _, rfl, _, rfl, u, g, n, rfl, hugA.tm (.of s69), hP, by omega, fun b2 H10 s10 hb2 => ?_⟩
        refine ⟨_, rfl, _, rfl, u, u3, g, g3, n, rfl, hugA.tm (.of (s69.trans s10)), hu3A.tm (.of (s69.trans s10)), hP, hP3, by omega, fun b3 H11 s11 hb3 => ?_⟩
        refine ⟨Nat.le_of_ble_eq_true rfl, fun pu hpu => ?_⟩
        have s12 := same_new (o := .lst [due, b2, b3]) hpu
        have sE := (s10.trans s11).trans s12
        have dueP : TN (upd H11 pu (.lst [due, b2, b3])) due (sel.foldl prod (List.range n)) := hd.tm (.of (((((s6.trans s7').trans s8').trans s9).trans sE)))
        refine ⟨.ref pt, .ref pu, .list [dT (sel.foldl prod (List.range n)), dT (inv g), dT (prod (prod g g3) (inv (prod g3 g)))], rfl, ?_, ?_, ?_, fun H13 s13 => ⟨true, rfl, iteF ?_⟩⟩
        · exact .lst (sE _ _ upd_same) (.cons (TN.rp (hj1.tn.tm (.of (((s7'.trans s8').trans s9).trans sE)))) (.cons (TN.rp (hj2.tn.tm (.of ((s8'.trans s9).trans sE)))) (.cons (TN.rp (hj3.tn.tm (.of (s9.trans sE)))) .nil)))
        · rw [inv_prod hP3 hP]
          exact .lst upd_same (.cons (TN.rp dueP) (.cons (TN.rp (hb2.tn.tm (.of (s11.trans s12)))) (.cons (TN.rp (hb3.tn.tm (.of s12))) .nil)))
        · refine ⟨by show 3 ≤ 1000; decide, fun e he => ?_⟩
          simp only [List.mem_cons, List.not_mem_nil, or_false] at he
          rcases he with rfl | rfl | rfl
          · exact pl1 _ (by rw [hmP.len]; omega)
          · exact pl1 _ (by rw [hP.inv.len]; omega)
          · exact pl1 _ (by rw [((hP.prod hP3).prod (hP3.prod hP).inv).len]; omega)
        · have sF := (s69.trans sE).trans s13
          exact qt _ _ x0 (some (.ref r)) (some (.ref p)) (some u3) x4 y5 (some (.ref ps)) (some due) (some (.ref pt)) x9 x10 x11 x12 x13 x14 x15 v u ls n g h3 (hgA.same sF) (hugA.tn.tm (.of sF)) mk (hTA.ext sF) q
end
end Lt

set_option Elab.async false
set_option linter.all false
set_option maxRecDepth 100000
set_option maxHeartbeats 2000000
namespace Lt
open PySem PySem.Spec PyProof.Rows L2 NdefX LamX LmX
theorem LL_w {gs : List (List Nat)} {n : Nat} : ∀ x ∈ LL gs n, x.2.length ≤ 300 := by
  rw [LL_eq]
  exact qq_w gs n 300
section
variable {P : Program} {w : World} {K : PySem.W.Frag} {mg : Str → Option Value} {base : Heap} {CL CM CT c Pt : Addr}
theorem law_picks {f0 : Addr} {A : Around} {outer : List Env} {s0 : Shared} {H0 : Hp} {E0' : XK} (hr : Room 7 (LX P w K mg base f0 (.ref c) A outer s0 H0 E0').A) (L : LawHas P w K mg base CL CM CT) (TB : TabB base mg c Pt) :
    ∃ t, PSs (LX P w K mg base f0 (.ref c) A outer s0 H0 E0') ((defBody s_law).drop 4) t ∧ ∀ (D : Ends) (H : Hp) (x0 x3 x4 x5 x6 x7 x8 x9 x10 x11 x12 x13 x14 x15 x17 : Option V) (r p sc : Addr) (ns : List Int) (v : V) (ls ts : List (List Nat)) (n : Nat),
      RowAt K H r sc ns → ls.length ≤ 3 → Good H v ls n → LF H p ts → p ≠ r → ts.Nodup → (∀ t, t ∈ ts ↔ Mk ls n t) → Tabs [(Pt, q_law)] H → (∀ H', D.rt (.bl true) H') →
      t D [x0, some (.ref r), some (.ref p), x3, x4, x5, x6, x7, x8, x9, x10, x11, x12, x13, x14, x15, some v, x17, some (nI n)] H := by
  have hu := hr.units
  have hu1 := hu_of hr
  have hu65 : (LX P w K mg base f0 (.ref c) A outer s0 H0 E0').A.units + 65 < cLine := by have := hr.un; omega
  have B := L.bi
  have hr1 : Room 1 _ := hr.mono (by decide)
  have hr2 : Room 2 _ := hr.mono (by decide)
  have hr6 : Room 6 _ := hr.mono (by decide)
  obtain ⟨tt, ht, qt⟩ := law_joins (outer := outer) (s0 := s0) (H0 := H0) (E0' := E0') hr L TB
  refine ⟨_, pss_cons (ps_asg (pe_tup (pa_cons (pe_has L.pick hr2 (by rfl) (pa_cons (pv 1) (pa_cons (pv 2) pa_nil))) (pa_cons (pe_has L.pick hr2 (by rfl) (pa_cons (pv 1) (pa_cons (pv 2) pa_nil))) (pa_cons (pe_has L.perm hr2 (by rfl) (pa_cons (pv 1) (pa_cons (pv 18) pa_nil))) pa_nil))))
      (pg_tup (by rfl) (pgs_cons (pg_name (i := 17) sc_law.nd rfl (Or.inr rfl)) (pgs_cons (pg_name (i := 3) sc_law.nd rfl (Or.inl rfl)) (pgs_cons (pg_name (i := 4) sc_law.nd rfl (Or.inl rfl)) pgs_nil)))))
    (pss_cons (ps_if (pt_not (pt_val (pe_has L.is_ hr1 (by rfl) (pa_cons (pe_hasL L.made hr6 (by rfl) (pa_cons (pv 16) (pa_cons (pv 4) pa_nil))) (pa_cons (pe_cmpR (op_inD hu65) (pv 4) (pv 2) (by rfl)) pa_nil))))) (pss_one (ps_ret pe_bl)) pss_nil)
    (pss_cons (ps_if (pt_not (pt_val (pe_has (L.alike 1) hr2 (by rfl) (pa_cons (pe_has L.word hr6 (by rfl) (pa_cons (pv 16) (pa_cons (pv 17) pa_nil))) (pa_cons (pe_dgetR hu1 (pe_has L.words hr2 (by rfl) (pa_cons (pv 16) pa_nil)) (pv 17) (fun _ _ => rfl)) pa_nil))))) (pss_one (ps_ret pe_bl)) pss_nil)
    ht)), ?_⟩
  intro D H x0 x3 x4 x5 x6 x7 x8 x9 x10 x11 x12 x13 x14 x15 x17 r p sc ns v ls ts n ra h3 hg hlf hpr hnd hmem hT q
  have n9 := hg.gl.2.2.2.1
  have hts : ts.length ≤ 63 := hg.few.le hnd fun t h => (hmem t).mp h
  have hts1 : 1 ≤ ts.length := List.length_pos_of_mem ((hmem _).mpr .still)
  have pick : ∀ (H : Hp), LF H p ts → ∃ wx, H p = some (.lst wx) ∧ wx.length = ts.length ∧ ∀ x ∈ wx, ∃ t, Mk ls n t ∧ TF H x t := fun H h => by
    obtain ⟨wx, hw, pw⟩ := h
    exact ⟨wx, hw, Paired.length pw, fun x hx => by
      obtain ⟨t, htm, htf⟩ := Paired.memL pw hx
      exact ⟨t, (hmem t).mp htm, htf⟩⟩
  obtain ⟨w1, hw1, l1, m1⟩ := pick H hlf
  refine ⟨_, rfl, _, rfl, r, p, sc, ns, w1, rfl, ra, hw1, hpr, by omega, by omega, fun u H1 hu1' st1 ra1 => ?_⟩
  obtain ⟨g, mk, htf⟩ := m1 u hu1'
  have lf1 := hlf.step ra hpr st1
  obtain ⟨w2, hw2, l2, m2⟩ := pick H1 lf1
  refine ⟨_, rfl, _, rfl, r, p, sc, ns, w2, rfl, ra1, hw2, hpr, by omega, by omega, fun u3 H2 hu2' st2 ra2 => ?_⟩
  obtain ⟨g3, mk3, htf3⟩ := m2 u3 hu2'
  have lf2 := lf1.step ra1 hpr st2
  refine ⟨_, rfl, _, rfl, r, sc, ns, n, rfl, ra2, by omega, fun dv H3 dt hdP st3 ra3 hdt => ?_⟩
  have lf3 := lf2.step ra2 hpr st3
  have stA := (st1.trans st2).trans st3
  refine ⟨Nat.le_of_ble_eq_true rfl, fun pt hpt => ?_⟩
  have s4 := same_new (o := .tup [u, u3, dv]) hpt
  have k4 : (upd H3 pt (.tup [u, u3, dv])) pt = some (.tup [u, u3, dv]) := upd_same
  have hg4 := (hg.tm (stA.tm ra)).same s4
  have ra4 := ra3.step s4
  have lf4 := lf3.same s4
  have tf4 := htf.tm (((st1.trans st2).trans st3).tm ra |>.trans (.of s4))
  have tf34 := htf3.tm (((st2.trans st3).tm ra1).trans (.of s4))
  have hd4 := hdt.tm (.of s4)
  have hT4 := (Tabs.row ra stA hT).ext s4
  generalize upd H3 pt (.tup [u, u3, dv]) = H4 at *
  refine ⟨pt, _, rfl, SqT.of k4, rfl, u, _, rfl, u3, _, rfl, dv, _, rfl, rfl, ?_⟩
  refine ⟨_, rfl, _, rfl, v, dv, ls, n, dT dt, rfl, hg4, hd4.tn.rp, (fun ds z => Nat.lt_of_le_of_lt (tlen (m := 9) (by rw [hdP.len]; omega) ds z) (by decide)), fun _ H5 s5 => ?_, fun z => ?_⟩
  · have lf5 := lf4.same s5
    refine ⟨_, rfl, _, rfl, dT dt, ts.map dT, (hd4.tn.tm (.of s5)).dp, lf5.lt.dp, sh_T _, sh_LT _, isTurnD (LL ls n) (dT dt), decide (dt ∈ ts), by rw [any_dT]; rfl, true, ?_, iteF ?_⟩
    · rw [isTurnD_dT]
      refine congrArg V.bl (decide_eq_true ?_)
      exact decide_eq_decide.mpr ((hg4.mem dt).trans (hmem dt).symm)
    · obtain ⟨⟨t', wd⟩, hwd, e⟩ := List.mem_map.mp ((hg4.mem g).mpr mk)
      have e : t' = g := e
      subst e
      refine ⟨_, rfl, _, rfl, v, u, ls, n, t', wd, rfl, hg4.same s5, tf4.tn.tm (.of s5), hwd, fun wv H6 s6 hwv => ?_⟩
      refine ⟨_, rfl, v, ls, n, rfl, hg4.same (s5.trans s6), fun d H7 s7 hd7 dw => ?_⟩
      have s57 := (s5.trans s6).trans s7
      obtain ⟨kvs, hk, pk⟩ := dw
      obtain ⟨b, rfl, hb⟩ := TN.key (tf4.tn.tm (.of s57))
      obtain ⟨dvv, hv, hvn⟩ := dw_some pk (by rw [LL_eq]; exact qq_nd ls n 300) hwd
      refine ⟨_, rfl, d, dvv, kvs, _, b, rfl, rfl, .inl hk, hb, hv, ?_⟩
      refine ⟨wv, dvv, dT wd, rfl, TN.rp (hwv.tm (.of s7)), hvn.rp, pl1 wd (Nat.le_trans (LL_w _ hwd) (by decide)), fun H8 s8 => ⟨true, rfl, iteF ?_⟩⟩
      have sF := s57.trans s8
      exact qt _ _ x0 (some dv) x5 x6 x7 x8 x9 x10 x11 x12 x13 x14 x15 r p sc ns v (.ref b) u3 ls ts n t' g3 (ra4.step sF) h3 (hg4.same sF) (lf4.same sF) hpr hnd hmem (tf4.tm (.of sF)) mk (tf34.tm (.of sF)) mk3 (hT4.ext sF) q
  · rw [isPermD_dT, decide_eq_true hdP] at z
    cases z
end
end Lt

set_option Elab.async false
set_option linter.all false
set_option maxRecDepth 100000
set_option maxHeartbeats 2000000
namespace Lt
open PySem PySem.Spec PyProof.Rows L2 NdefX LamX LmX
def kinds8 : List Str := ["four", "square", "quaternions", "threes", "three", "tetra", "six", "five"]
theorem kinds8_in : ∀ x ∈ kinds8, x ∈ names := by decide +kernel
def spLaw (K : PySem.W.Frag) (Pt : Addr) : Sp := fun vs H Q _ => ∃ (l : Addr) (ns : List Int), vs = [.ref l] ∧ SqL K H l (ns.map V.int) ∧ Tabs [(Pt, q_law)] H ∧ ∀ H', Q (.bl true) H'
section
variable {P : Program} {w : World} {K : PySem.W.Frag} {mg : Str → Option Value} {base : Heap} {CL CM CT c Pt : Addr}
theorem law_all {f0 : Addr} {A : Around} {outer : List Env} {s0 : Shared} {H0 : Hp} {E0' : XK} (hr : Room 7 (LX P w K mg base f0 (.ref c) A outer s0 H0 E0').A) (L : LawHas P w K mg base CL CM CT) (TB : TabB base mg c Pt) :
    ∃ t, PSs (LX P w K mg base f0 (.ref c) A outer s0 H0 E0') (defBody s_law) t ∧ ∀ (D : Ends) (H : Hp) (vs : List V) (Q : VK), D.rt = Q → spLaw K Pt vs H Q C8.E0 → t D (start lawN vs) H := by
  have hu := hr.units
  have B := L.bi
  have hr2 : Room 2 _ := hr.mono (by decide)
  have hr3 : Room 3 _ := hr.mono (by decide)
  have hr4 : Room 4 _ := hr.mono (by decide)
  have hr6 : Room 6 _ := hr.mono (by decide)
  obtain ⟨tt, ht, qt⟩ := law_picks (outer := outer) (s0 := s0) (H0 := H0) (E0' := E0') hr L TB
  refine ⟨_, pss_cons (ps_set (i := 1) sc_law.nd rfl (Or.inr rfl) (pe_lst (pa_cons (pv 0) (pa_cons pe_int (pa_cons pe_int (pa_cons pe_int pa_nil))))))
    (pss_cons (ps_set (i := 16) sc_law.nd rfl (Or.inr rfl) (pe_has L.lock hr4 (by rfl) (pa_cons (pv 1) (pa_cons (pe_lst (pa_cons pe_str (pa_cons pe_str (pa_cons pe_str (pa_cons pe_str (pa_cons pe_str (pa_cons pe_str (pa_cons pe_str (pa_cons pe_str pa_nil))))))))) pa_nil))))
    (pss_cons (ps_asg (pe_tup (pa_cons (pe_callB call_len_seq (by rfl) B.len PySem.boot_len (pa_cons (pe_ix ix_tup (pv 16) pe_int (fun _ _ => rfl)) pa_nil)) (pa_cons (pe_has L.span hr2 (by rfl) (pa_cons (pe_callB call_len_seq (by rfl) B.len PySem.boot_len (pa_cons (pe_ix ix_tup (pv 16) pe_int (fun _ _ => rfl)) pa_nil)) (pa_cons (pv 16) pa_nil))) pa_nil)))
      (pg_tup (by rfl) (pgs_cons (pg_name (i := 18) sc_law.nd rfl (Or.inr rfl)) (pgs_cons (pg_name (i := 2) sc_law.nd rfl (Or.inr rfl)) pgs_nil))))
    (pss_cons (ps_if (pt_not (pt_val (pe_has (L.alike 2) hr3 (by rfl) (pa_cons (pe_hasL L.all hr6 (by rfl) (pa_cons (pv 16) pa_nil)) (pa_cons (pe_tupleOf (by rfl) B.tuple (pv 2)) pa_nil))))) (pss_one (ps_ret pe_bl)) pss_nil)
    ht))), ?_⟩
  rintro D H vs Q rfl ⟨sc, ns, rfl, hsc, hT, q⟩
  refine ⟨_, rfl, Nat.le_of_ble_eq_true rfl, fun r hr0 => ?_⟩
  have s1 := same_new (o := .lst [V.ref sc, V.int 0, V.int 7701, V.int 0]) hr0
  have ra1 : RowAt K (upd H r (.lst [V.ref sc, V.int 0, V.int 7701, V.int 0])) r sc ns := ⟨0, 7701, 0, upd_same, Same.seq s1 hsc, by omega, by omega, by omega⟩
  have hT1 := hT.ext s1
  generalize upd H r (.lst [V.ref sc, V.int 0, V.int 7701, V.int 0]) = H1 at *
  refine ⟨_, rfl, Nat.le_of_ble_eq_true rfl, fun kl hkl => ?_⟩
  have s2 := same_new (o := .lst (kinds8.map V.str)) hkl
  have k2 : (upd H1 kl (.lst (kinds8.map V.str))) kl = some (.lst (kinds8.map V.str)) := upd_same
  have hklr : kl ≠ r := (ra1.ne hkl).symm
  refine ⟨r, kl, sc, ns, kinds8, rfl, ra1.step s2, k2, hklr, by decide, by decide, kinds8_in, fun v H3 ls n l3 gl fw st3 ra3 htt => ?_⟩
  have hT3 := Tabs.row (ra1.step s2) st3 (hT1.ext s2)
  have hg : Good H3 v ls n := ⟨htt, gl, fw⟩
  obtain ⟨a, xs, b, rfl, ha, hp0, h0, t0, hbt, htl⟩ := htt.head gl
  have en : V.int ((nIs t0).length : Int) = nI n := by rw [nIs_len, htl]; rfl
  obtain ⟨g1, g2, g3, g4, g5⟩ := gl
  refine ⟨_, rfl, a, xs, 0, .ref b, rfl, rfl, SqT.of ha, h0, b, nIs t0, rfl, .inr hbt.sq, ?_⟩
  refine ⟨_, rfl, a, xs, 0, .ref b, rfl, rfl, SqT.of ha, h0, b, nIs t0, rfl, .inr hbt.sq, ?_⟩
  refine ⟨_, rfl, .ref a, ls, n, by rw [en]; rfl, htt, g5, by omega, g4, by omega, fw, fun p H4 ts s4 hp4 lf4 hnd hmem hasc => ?_⟩
  have hpr : p ≠ r := (ra3.ne hp4).symm
  refine ⟨Nat.le_of_ble_eq_true rfl, fun pt hpt => ?_⟩
  have s5 := same_new (o := .tup [V.int ((nIs t0).length : Int), V.ref p]) hpt
  have k5 : (upd H4 pt (.tup [V.int ((nIs t0).length : Int), V.ref p])) pt = some (.tup [V.int ((nIs t0).length : Int), V.ref p]) := upd_same
  generalize upd H4 pt (.tup [V.int ((nIs t0).length : Int), V.ref p]) = H5 at *
  rw [en] at k5
  have s45 := s4.trans s5
  have lf5 := lf4.same s5
  have hg5 := hg.same s45
  refine ⟨pt, _, rfl, SqT.of k5, rfl, nI n, _, rfl, .ref p, _, rfl, rfl, ?_⟩
  refine ⟨_, rfl, .ref a, rfl, lockIn_good hg5.tt hg5.gl hg5.few (by omega) fun L2 hL2 h240 => ⟨?_, fun rr H6 ts2 s6 htt2 hperm hasc2 => ?_⟩⟩
  · obtain ⟨_, _, _, z⟩ := fw.wd (by omega) hL2
    omega
  · have eL := hg5.wd hL2
    subst eL
    have hnk : ((LL ls n).map (·.1)).Nodup := by rw [LL_eq]; exact qq_nd ls n 300
    have hpk : ((LL ls n).map (·.1)).Perm ts := (List.perm_ext_iff_of_nodup hnk hnd).mpr fun t => (hg5.mem t).trans (hmem t).symm
    have e : ts = ts2 := asc_one g4 (fun t ht => hg.isP ((hmem t).mp ht)) (hpk.symm.trans hperm.symm) hasc hasc2
    subst e
    have lf6 := lf5.same s6
    obtain ⟨wx, hw, pw⟩ := lf6
    refine ⟨_, rfl, .inl ⟨p, wx, rfl, SqL.of hw, fun pz hpz => ?_⟩⟩
    have s7 := same_new (o := .tup wx) hpz
    have tz : TT (upd H6 pz (.tup wx)) (.ref pz) ts := ⟨pz, wx, rfl, upd_same, TNs.tm (.of s7) (paired_mono (fun _ _ r => TF.tn r) pw)⟩
    have hts : ts.length ≤ 63 := fw.le hnd fun t h => (hmem t).mp h
    refine ⟨rr, .ref pz, .tuple (ts.map dT), rfl, (htt2.tm (.of s7)).rp, tz.rp, ⟨by rw [List.length_map]; omega, fun e he => ?_⟩, fun H8 s8 => ⟨true, rfl, iteF ?_⟩⟩
    · obtain ⟨t, ht, rfl⟩ := List.mem_map.mp he
      exact pl1 t (by rw [(hg.isP ((hmem t).mp ht)).len]; omega)
    · have sF := ((s45.trans s6).trans s7).trans s8
      have sF5 := (s6.trans s7).trans s8
      exact qt _ _ (some (.ref sc)) none none none none none none none none none none none none none none r p sc ns (.ref a) ls ts n (ra3.step sF) l3 (hg.same sF) (lf5.same sF5) hpr hnd hmem (hT3.ext sF) q
end
end Lt

set_option Elab.async false
set_option linter.all false
set_option maxRecDepth 100000
set_option maxHeartbeats 2000000
namespace Lt
open PySem PySem.Spec PyProof.Rows L2 NdefX LamX LmX
def clsB : Stmt → List Stmt
  | .ClassDef _ _ _ b _ _ _ _ _ _ _ => b
  | _ => []
def initS (st : Stmt) : Stmt := (clsB st).getD 0 (.Pass ⟨0, 0, 0, 0⟩)
section
variable {P : Program} {w : World} {K : PySem.W.Frag} {mg : Str → Option Value} {base : Heap} {CL CM CT c Pt : Addr}
theorem init_BadLock {fI : Addr} {fd : FuncData} (F : Fun K "__init__" "BadLock.__init__" (initS s_BadLock) fI fd) : FnOk P w K mg base CX0 1 fI fd ["self", "place"] (spInit K "place") := by
  refine F.ok (N := ["self", "place"]) ⟨rfl, rfl, rfl, by decide +kernel, rfl, by decide +kernel, by decide +kernel⟩ (fun vs H Q E h => ?_) (fun cdv A outer s H vs Q E hr h => ?_)
  · obtain ⟨a, C, v, rfl, _⟩ := h
    rfl
  · obtain ⟨a, C, v, rfl, ox, no, ha, q⟩ := h
    exact ⟨_, pss_one (ps_ost (pv 0) (pv 1)), _, rfl, _, rfl, a, C, rfl, ox, no, .inl ⟨ha, fun dx h1 h2 => q dx h1 h2⟩⟩
theorem init_TooMany {fI : Addr} {fd : FuncData} (F : Fun K "__init__" "TooMany.__init__" (initS s_TooMany) fI fd) : FnOk P w K mg base CX0 1 fI fd ["self", "most"] (spInit K "most") := by
  refine F.ok (N := ["self", "most"]) ⟨rfl, rfl, rfl, by decide +kernel, rfl, by decide +kernel, by decide +kernel⟩ (fun vs H Q E h => ?_) (fun cdv A outer s H vs Q E hr h => ?_)
  · obtain ⟨a, C, v, rfl, _⟩ := h
    rfl
  · obtain ⟨a, C, v, rfl, ox, no, ha, q⟩ := h
    exact ⟨_, pss_one (ps_ost (pv 0) (pv 1)), _, rfl, _, rfl, a, C, rfl, ox, no, .inl ⟨ha, fun dx h1 h2 => q dx h1 h2⟩⟩
/-- a class's own line: an error is what «except» of its class names -/
theorem exm_own {S : Addr} (h1 : PySem.W.subIn K (.ref S) (.type "BaseException") = some true) (h2 : PySem.W.isClsIn K S = true) (h3 : PySem.W.typeIn K (.ref S) = some (.type "type")) (h4 : PySem.W.subIn K (.ref S) (.ref S) = some true) : PySem.W.exmOne K (.ref S) (.ref S) = some true := by
  have i2 : (PySem.W.clsIn K S).isSome = true := h2
  have a : (if ((PySem.W.clsIn K S).isSome && PySem.W.typeIn K (.ref S) == some (.type "type")) = true then PySem.W.subIn K (.ref S) (.ref S) else none) = some true := by
    rw [if_pos (by rw [i2, h3]; rfl)]
    exact h4
  have b : (PySem.W.subIn K (.ref S) (.type "BaseException") == some true) = true := by
    rw [h1]
    rfl
  exact (if_pos b).trans a
structure ErrFs (K : PySem.W.Frag) (mg : Str → Option Value) (x fld : Str) (C : Addr) (st : Stmt) : Prop where
  g : mg x = some (.ref C)
  cls : ∃ nm q N bs bm sn sub ab col dd k0 k1 k2 k3 k5, K.lookup C = some (excClassObj nm q C N bs bm true sn sub ab col dd k0 k1 k2 k3 k5 "ValueError.__new__") ∧ PySem.HandSPX.refsVE bm = true
  sa : PySem.W.findIn K (.ref C) "__setattr__" = some (some (.builtin "object.__setattr__"))
  ga : PySem.W.findIn K (.ref C) "__getattribute__" = some (some (.builtin "BaseException.__getattribute__"))
  gg : PySem.W.findIn K (.ref C) "__getattr__" = some none
  no : PySem.W.findIn K (.ref C) fld = some none
  kC : PySem.W.keepIn K (.ref C) = true
  eC : PySem.W.subIn K (.ref C) (.type "BaseException") = some true
  tC : PySem.W.typeIn K (.ref C) = some (.type "type")
  hC : PySem.W.hasDictIn K C = true
  iC : PySem.W.isClsIn K C = true
  sC : PySem.W.subIn K (.ref C) (.ref C) = some true
  init : ∃ fI fd, PySem.W.findIn K (.ref C) "__init__" = some (some (.ref fI)) ∧ PySem.W.typeIn K (.ref fI) = some (.type "function") ∧ Binds K fd ["self", fld] [] ∧ Fun K "__init__" (x ++ ".__init__") (initS st) fI fd
theorem ErrFs.errI {x fld : Str} {C : Addr} {st : Stmt} (F : ErrFs K mg x fld C st) (ok : ∀ {fI fd}, Fun K "__init__" (x ++ ".__init__") (initS st) fI fd → FnOk P w K mg base CX0 1 fI fd ["self", fld] (spInit K fld)) : ErrI P w K mg base x fld C := by
  obtain ⟨fI, fd, h1, h2, h3, h4⟩ := F.init
  exact ⟨⟨F.cls, F.sa, F.eC, F.tC, F.kC⟩, F.g, F.no, ⟨fI, fd, h1, h2, h3, ok h4⟩, ⟨F.ga, F.gg, F.eC, F.hC⟩, exm_own F.eC F.iC F.tC F.sC⟩
/-- what the top leaves, but the law -/
structure TopFs (K : PySem.W.Frag) (mg : Str → Option Value) (CL CM CT : Addr) : Prop where
  bi : Bi mg
  cT : Cn mg "MOST_TURNS" 240
  cG : Cn mg "MOST_GIVEN" 4
  cF : Cn mg "FEWEST_PLACES" 2
  cP : Cn mg "MOST_PLACES" 9
  eL : ErrFs K mg "BadLock" "place" CL s_BadLock
  eM : ErrFs K mg "TooMany" "most" CM s_TooMany
  eT : Err0 K mg "BadTurn" CT
  t1 : Top K mg "is_number" s_is_number ["value"]
  t2 : Top K mg "are_numbers" s_are_numbers ["value"]
  t3 : Top K mg "is_permutation" s_is_permutation ["value", "size"]
  t4 : Top K mg "still_of" s_still_of ["size"]
  t5 : Top K mg "product_of" s_product_of ["one", "other"]
  t6 : Top K mg "back_of" s_back_of ["turn"]
  t7 : Top K mg "bracket_of" s_bracket_of ["one", "other"]
  t8 : Top K mg "words_of" s_words_of ["makers", "size"]
  t9 : Top K mg "all_turns" s_all_turns ["lock"]
  t10 : Top K mg "is_made" s_is_made ["lock", "turn"]
  t11 : Top K mg "join" s_join ["lock", "turns"]
  t12 : Top K mg "undo" s_undo ["lock", "turn"]
  t13 : Top K mg "rounds" s_rounds ["lock", "turn"]
  t14 : Top K mg "swapped" s_swapped ["lock", "one", "other"]
  t15 : Top K mg "word_for" s_word_for ["lock", "turn"]
  t16 : Top K mg "check_lock" s_check_lock ["lock"]
  t17 : Top K mg "made_words" s_made_words ["lock"]
  t18 : Top K mg "is_turn" s_is_turn ["made", "value"]
  t19 : Top K mg "are_turns" s_are_turns ["made", "value"]
  t20 : Top K mg "check_turn" s_check_turn ["made", "turn"]
  t21 : Top K mg "_law_taken" s_law_taken ["row", "many"]
  t22 : Top K mg "_law_pick" s_law_pick ["row", "things"]
  t23 : Top K mg "_law_alike" s_law_alike ["found", "due"]
  t24 : Top K mg "_law_is" s_law_is ["found", "due"]
  t25 : Top K mg "_law_permutation" s_law_permutation ["row", "places"]
  t26 : Top K mg "_law_behind" s_law_behind ["one", "other"]
  t27 : Top K mg "_law_back" s_law_back ["turn"]
  t28 : Top K mg "_law_swap" s_law_swap ["one", "other"]
  t29 : Top K mg "_law_span" s_law_span ["places", "given"]
  t30 : Top K mg "_law_known" s_law_known ["row", "kinds"]
  t31 : Top K mg "_law_lock" s_law_lock ["row", "kinds"]
  t32 : Top K mg "_law_words" s_law_words ["lock"]
  t33 : Top K mg "rounds_of" s_rounds_of ["turn"]
theorem TopFs.has (T : TopFs K mg CL CM CT) : LawHas P w K mg base CL CM CT := by
  have B := T.bi
  have eL : ErrI P w K mg base "BadLock" "place" CL := T.eL.errI init_BadLock
  have eM : ErrI P w K mg base "TooMany" "most" CM := T.eM.errI init_TooMany
  have i1 : Has P w K mg base CX0 1 "is_number" _ _ := has_is_number T.t1 B
  have i2 := has_are_numbers T.t2 B i1
  have i3 := has_is_permutation T.t3 B i2
  have i4 : Has P w K mg base CX0 1 "still_of" _ _ := has_still_of T.t4 B
  have i5 : Has P w K mg base CX0 1 "product_of" _ _ := has_product_of T.t5 B
  have i6 : Has P w K mg base CX0 1 "back_of" _ _ := has_back_of T.t6 B
  have i7 := has_bracket_of T.t7 i5 i6
  have i8 := has_words_of T.t8 B T.cT i4 i5
  have i16 := has_check_lock T.t16 B eL T.cG T.cF T.cP i3
  have i17 := has_made_words T.t17 B eM T.cT i16 i8
  have i18 := has_is_turn T.t18 i2
  have i19 := has_are_turns T.t19 B i18
  have i20 := has_check_turn T.t20 T.eT i18
  have j1 : Has P w K mg base CX0 1 "_law_taken" _ _ := has_law_taken T.t21 B
  have j2 := has_law_pick T.t22 B j1
  have j5 := has_law_permutation T.t25 B j1
  have j6 : Has P w K mg base CX0 1 "_law_behind" _ _ := has_law_behind T.t26 B
  have j7 : Has P w K mg base CX0 1 "_law_back" _ _ := has_law_back T.t27 B
  have j10 := has_law_known T.t30 B j2 j5
  exact { bi := B, undo := has_undo T.t12 i17 i20 i6, made := has_is_made T.t10 B T.eT i17 i3, join := has_join T.t11 B T.eT i17 i19 i4 i5, all := has_all_turns T.t9 B i17, eL := eL, eT := T.eT, eM := eM,
          swapped := has_swapped T.t14 i17 i20 i7, word := has_word_for T.t15 i17 i20, rounds := has_rounds T.t13 B i17 i20 (has_rounds_of T.t33 B i4 i5), taken := j1, pick := j2, is_ := has_law_is T.t24 B, perm := j5, behind := j6, back := j7,
          swap := has_law_swap T.t28 j6 j7, alike := has_law_alike T.t23 B, span := has_law_span T.t29 B (has_law_behindF T.t26 B), words := has_law_words T.t32 B j6, lock := has_law_lock T.t31 B j1 j10 j5 }
theorem law_fn {fa : Addr} {oc dV kV doc pm ct : Value} {an od : Option Addr} {osl : Array (Option Value)} (lk : K.lookup fa = some ⟨oc, od, .func (PySem.W.fnOf "law" "law" (defArgs s_law) (defBody s_law) (defScope s_law) dV kV doc pm an (.ref c) ct), osl⟩)
    (hcd : PySem.W.codeIn K (.ref c) "law" = true) (L : LawHas P w K mg base CL CM CT) (TB : TabB base mg c Pt) : FnOk P w K mg base CX0 8 fa (PySem.W.fnOf "law" "law" (defArgs s_law) (defBody s_law) (defScope s_law) dV kV doc pm an (.ref c) ct) ["script"] (spLaw K Pt) := by
  refine fn_of lk hcd sc_law (fun vs H Q E h => ?_) fun A outer s H vs Q E hr h => ?_
  · obtain ⟨l, ns, rfl, _⟩ := h
    rfl
  · obtain ⟨t, ht, qt⟩ := law_all (f0 := fa) (outer := outer) (s0 := s) (H0 := H) (E0' := E) hr L TB
    exact ⟨t, ht, qt _ H vs Q rfl h⟩
end
theorem top_mk {K : PySem.W.Frag} {h : Heap} {mg : Str → Option Value} {x : Str} {st : Stmt} {ps : List Str} {f : Addr} {oc kV doc pm cdv ct : Value} {od an : Option Addr} {osl : Array (Option Value)} (X : K.In h) (G : h.Ns mainGlobals mg)
    (a : PySem.W.nsIn K mainGlobals x = some (some (.ref f))) (l : K.lookup f = some ⟨oc, od, .func (PySem.W.fnOf x x (defArgs st) (defBody st) (defScope st) .none kV doc pm an cdv ct), osl⟩) (c : PySem.W.codeIn K cdv x = true) (k : PySem.W.keepIn K (.ref f) = true)
    (hb : ∀ (kV doc pm : Value) (an : Option Addr) (cdv ct : Value) (us : List Value), us.length = ps.length → bindArgs (PySem.W.fnOf x x (defArgs st) (defBody st) (defScope st) .none kV doc pm an cdv ct) ⟨us, []⟩ = pure (ps.zip us)) : Top K mg x st ps :=
  ⟨f, _, PySem.W.mg_of X G a, fun_mk l c k, (fun_mk l c k).binds hb⟩
abbrev TopX {K : PySem.W.Frag} {h : Heap} (_ : K.In h) (mg : Str → Option Value) (x : Str) (st : Stmt) (ps : List Str) : Prop := Top K mg x st ps
abbrev ErrX {K : PySem.W.Frag} {h : Heap} (_ : K.In h) (mg : Str → Option Value) (x fld : Str) (C : Addr) (st : Stmt) : Prop := ErrFs K mg x fld C st
abbrev NoX {K : PySem.W.Frag} {h : Heap} (_ : K.In h) (mg : Str → Option Value) (x : Str) (C : Addr) : Prop := Err0 K mg x C
theorem cn_mk {K : PySem.W.Frag} {h : Heap} {mg : Str → Option Value} {x : Str} {i : Int} {v : Value} (X : K.In h) (G : h.Ns mainGlobals mg) (a : PySem.W.nsIn K mainGlobals x = some (some v)) (b : ∃ t, v = .int i t) : Cn mg x i := by
  obtain ⟨t, rfl⟩ := b
  exact ⟨t, PySem.W.mg_of X G a⟩
theorem init_mk {K : PySem.W.Frag} {x fld : Str} {C fI : Addr} {st : Stmt} {oc kV doc pm cdv ct : Value} {od an : Option Addr} {osl : Array (Option Value)} (a : PySem.W.findIn K (.ref C) "__init__" = some (some (.ref fI))) (t : PySem.W.typeIn K (.ref fI) = some (.type "function"))
    (l : K.lookup fI = some ⟨oc, od, .func (PySem.W.fnOf "__init__" (x ++ ".__init__") (defArgs (initS st)) (defBody (initS st)) (defScope (initS st)) .none kV doc pm an cdv ct), osl⟩) (c : PySem.W.codeIn K cdv (x ++ ".__init__") = true) (k : PySem.W.keepIn K (.ref fI) = true)
    (hb : ∀ (kV doc pm : Value) (an : Option Addr) (cdv ct : Value) (us : List Value), us.length = (["self", fld] : List Str).length → bindArgs (PySem.W.fnOf "__init__" (x ++ ".__init__") (defArgs (initS st)) (defBody (initS st)) (defScope (initS st)) .none kV doc pm an cdv ct) ⟨us, []⟩ = pure ((["self", fld] : List Str).zip us)) :
    ∃ fI fd, PySem.W.findIn K (.ref C) "__init__" = some (some (.ref fI)) ∧ PySem.W.typeIn K (.ref fI) = some (.type "function") ∧ Binds K fd ["self", fld] [] ∧ Fun K "__init__" (x ++ ".__init__") (initS st) fI fd :=
  ⟨fI, _, a, t, (fun_mk l c k).binds hb, fun_mk l c k⟩
theorem err_mk {K : PySem.W.Frag} {h : Heap} {mg : Str → Option Value} {x fld : Str} {C N : Addr} {st : Stmt} {nm q : Str} {bs bm sub : List Value} {sn : List Str} {ab : Bool} {col : Option Bool} {dd : Option Addr} {k0 k1 k2 k3 k5 : Option Value} (X : K.In h) (G : h.Ns mainGlobals mg)
    (a : PySem.W.nsIn K mainGlobals x = some (some (.ref C))) (xL : K.lookup C = some (excClassObj nm q C N bs bm true sn sub ab col dd k0 k1 k2 k3 k5 "ValueError.__new__")) (rv : PySem.HandSPX.refsVE bm = true)
    (sa : PySem.W.findIn K (.ref C) "__setattr__" = some (some (.builtin "object.__setattr__"))) (ga : PySem.W.findIn K (.ref C) "__getattribute__" = some (some (.builtin "BaseException.__getattribute__"))) (gg : PySem.W.findIn K (.ref C) "__getattr__" = some none) (no : PySem.W.findIn K (.ref C) fld = some none)
    (kC : PySem.W.keepIn K (.ref C) = true) (eC : PySem.W.subIn K (.ref C) (.type "BaseException") = some true) (tC : PySem.W.typeIn K (.ref C) = some (.type "type")) (hC : PySem.W.hasDictIn K C = true) (iC : PySem.W.isClsIn K C = true) (sC : PySem.W.subIn K (.ref C) (.ref C) = some true)
    {fI : Addr} {oc kV doc pm cdv ct : Value} {od an : Option Addr} {osl : Array (Option Value)} (i1 : PySem.W.findIn K (.ref C) "__init__" = some (some (.ref fI))) (i2 : PySem.W.typeIn K (.ref fI) = some (.type "function"))
    (i3 : K.lookup fI = some ⟨oc, od, .func (PySem.W.fnOf "__init__" (x ++ ".__init__") (defArgs (initS st)) (defBody (initS st)) (defScope (initS st)) .none kV doc pm an cdv ct), osl⟩) (i4 : PySem.W.codeIn K cdv (x ++ ".__init__") = true) (i5 : PySem.W.keepIn K (.ref fI) = true)
    (hb : ∀ (kV doc pm : Value) (an : Option Addr) (cdv ct : Value) (us : List Value), us.length = (["self", fld] : List Str).length → bindArgs (PySem.W.fnOf "__init__" (x ++ ".__init__") (defArgs (initS st)) (defBody (initS st)) (defScope (initS st)) .none kV doc pm an cdv ct) ⟨us, []⟩ = pure ((["self", fld] : List Str).zip us)) : ∃ C, ErrFs K mg x fld C st :=
  ⟨C, PySem.W.mg_of X G a, ⟨_, _, _, _, _, _, _, _, _, _, _, _, _, _, _, xL, rv⟩, sa, ga, gg, no, kC, eC, tC, hC, iC, sC, init_mk i1 i2 i3 i4 i5 hb⟩
theorem no_mk {K : PySem.W.Frag} {h : Heap} {mg : Str → Option Value} {x : Str} {C : Addr} (X : K.In h) (G : h.Ns mainGlobals mg) (a : PySem.W.nsIn K mainGlobals x = some (some (.ref C)))
    (qx : PySem.W.excIn K C [.type "ValueError", .type "Exception", .type "BaseException", .type "object"] "ValueError.__new__" = true) (kC : PySem.W.keepIn K (.ref C) = true) (eC : PySem.W.subIn K (.ref C) (.type "BaseException") = some true) (tC : PySem.W.typeIn K (.ref C) = some (.type "type")) (iC : PySem.W.isClsIn K C = true)
    (sC : PySem.W.subIn K (.ref C) (.ref C) = some true) : ∃ C, Err0 K mg x C := ⟨C, qx, PySem.W.mg_of X G a, kC, eC, tC, exm_own eC iC tC sC⟩
abbrev ErrE {K : PySem.W.Frag} {h : Heap} (_ : K.In h) (mg : Str → Option Value) (x fld : Str) (st : Stmt) : Prop := ∃ C, ErrFs K mg x fld C st
abbrev NoE {K : PySem.W.Frag} {h : Heap} (_ : K.In h) (mg : Str → Option Value) (x : Str) : Prop := ∃ C, Err0 K mg x C
theorem law_at {l : PySem.W.OpenLaw} {w : World} {K : PySem.W.Frag} {h : Heap} {mg : Str → Option Value} {fa f c Pt CL CM CT : Addr} {oc kV doc pm ct e : Value} {an od dd : Option Addr} {osl sl : Array (Option Value)} {vs : Array Value} (X : K.In h) (hfa : mg "law" = some (.ref fa)) (own : OwnTab K fa h)
    (G : h.Ns mainGlobals mg) (a : PySem.W.nsIn K mainGlobals "law" = some (some (.ref f)))
    (lk : K.lookup f = some ⟨oc, od, .func (PySem.W.fnOf "law" "law" (defArgs s_law) (defBody s_law) (defScope s_law) .none kV doc pm an (.ref c) ct), osl⟩) (hcd : PySem.W.codeIn K (.ref c) "law" = true)
    (lc : K.lookup c = some ⟨e, dd, .fields vs, sl⟩) (lp : vs[11]? = some (.ref Pt)) (hh : ∀ K' : PySem.W.Frag, K'.lookup c = some ⟨e, dd, .fields vs, sl⟩ → PySem.W.codeHdIn K' c Pt = true) (np : K.lookup Pt = none) (T : TopFs K mg CL CM CT) : LawAtS l w K CX0 8 63 "script" mg fa h := by
  have ef := hfa.symm.trans (PySem.W.mg_of X G a)
  cases ef
  refine ⟨_, [(c, Pt)], spLaw K Pt, fun p hp => ?_, fun p hp => ?_, fun p hp => ?_, fun s u => .of_eq rfl, fun H a ns _ _ hH hS => ⟨a, ns, rfl, hS, fun p hp => ?_, fun _ => rfl⟩, fun base _ _ hB => law_fn lk hcd T.has (hB _ List.mem_cons_self)⟩
  · rw [List.mem_singleton.mp hp]
    exact own c Pt _ _ e dd vs sl lk rfl rfl lc lp
  · rw [List.mem_singleton.mp hp]
    exact np
  · rw [List.mem_singleton.mp hp]
    exact PySem.W.codeHd_of_K X (hh K lc)
  · rw [List.mem_singleton.mp hp]
    exact TabS.nil (hH _ List.mem_cons_self)
end Lt

open PySem PySem.W PyProof.Rows
set_option Elab.async false
set_option maxRecDepth 100000 in
set_option maxHeartbeats 0 in
theorem PySem.Challenge.cw_lockturns_k01_whole_locks_holds : PySem.Challenge.rw_lockturns_k01_whole_locks.Holds := by
  w_on; o_law; k_head; (case hw => w_witness2)
  k_fill
  refine LamX.walk_ofOwn (l := PySem.Challenge.rw_lockturns_k01_whole_locks) (n := 63) (k := 8) (x := "script") (CX := fun _ => L2.CX0) rfl (by decide) rfl ⟨rfl, by decide, by decide⟩ (by decide +kernel) (fun w h Y => PySem.W.km_in_of Y) ?F (fun _ _ _ _ _ z => z)
  case F =>
    intro w mg fa h Y KX G hmg own
    have bi : Lt.Bi mg := by
      refine' { tuple := mg_none_of KX G ?z1, list := mg_none_of KX G ?z2, range := mg_none_of KX G ?z3, len := mg_none_of KX G ?z4, sorted := mg_none_of KX G ?z5, enumerate := mg_none_of KX G ?z6, isinstance := mg_none_of KX G ?z7, all := mg_none_of KX G ?z8, set := mg_none_of KX G ?z9, int := mg_none_of KX G ?z10, bool := mg_none_of KX G ?z11, str := mg_none_of KX G ?z12 }
      all_goals k_is
    have n1 : Lt.Cn mg "MOST_TURNS" 240 := by
      refine' Lt.cn_mk KX G ?a ?b
      (case a => k_is); (case b => exact ⟨_, rfl⟩)
    have n2 : Lt.Cn mg "MOST_GIVEN" 4 := by
      refine' Lt.cn_mk KX G ?a ?b
      (case a => k_is); (case b => exact ⟨_, rfl⟩)
    have n3 : Lt.Cn mg "FEWEST_PLACES" 2 := by
      refine' Lt.cn_mk KX G ?a ?b
      (case a => k_is); (case b => exact ⟨_, rfl⟩)
    have n4 : Lt.Cn mg "MOST_PLACES" 9 := by
      refine' Lt.cn_mk KX G ?a ?b
      (case a => k_is); (case b => exact ⟨_, rfl⟩)
    have t1 : Lt.TopX KX mg "is_number" Lt.s_is_number ["value"] := by
      refine' Lt.top_mk KX G ?a ?l ?c ?k (fun _ _ _ _ _ _ us hl => match us, hl with | [_], _ => rfl)
      (case a => k_is); (case l => k_is); (case c => k_is); (case k => k_is)
    have t2 : Lt.TopX KX mg "are_numbers" Lt.s_are_numbers ["value"] := by
      refine' Lt.top_mk KX G ?a ?l ?c ?k (fun _ _ _ _ _ _ us hl => match us, hl with | [_], _ => rfl)
      (case a => k_is); (case l => k_is); (case c => k_is); (case k => k_is)
    have t3 : Lt.TopX KX mg "is_permutation" Lt.s_is_permutation ["value", "size"] := by
      refine' Lt.top_mk KX G ?a ?l ?c ?k (fun _ _ _ _ _ _ us hl => match us, hl with | [_, _], _ => rfl)
      (case a => k_is); (case l => k_is); (case c => k_is); (case k => k_is)
    have t4 : Lt.TopX KX mg "still_of" Lt.s_still_of ["size"] := by
      refine' Lt.top_mk KX G ?a ?l ?c ?k (fun _ _ _ _ _ _ us hl => match us, hl with | [_], _ => rfl)
      (case a => k_is); (case l => k_is); (case c => k_is); (case k => k_is)
    have t5 : Lt.TopX KX mg "product_of" Lt.s_product_of ["one", "other"] := by
      refine' Lt.top_mk KX G ?a ?l ?c ?k (fun _ _ _ _ _ _ us hl => match us, hl with | [_, _], _ => rfl)
      (case a => k_is); (case l => k_is); (case c => k_is); (case k => k_is)
    have t6 : Lt.TopX KX mg "back_of" Lt.s_back_of ["turn"] := by
      refine' Lt.top_mk KX G ?a ?l ?c ?k (fun _ _ _ _ _ _ us hl => match us, hl with | [_], _ => rfl)
      (case a => k_is); (case l => k_is); (case c => k_is); (case k => k_is)
    have t7 : Lt.TopX KX mg "bracket_of" Lt.s_bracket_of ["one", "other"] := by
      refine' Lt.top_mk KX G ?a ?l ?c ?k (fun _ _ _ _ _ _ us hl => match us, hl with | [_, _], _ => rfl)
      (case a => k_is); (case l => k_is); (case c => k_is); (case k => k_is)
    have t8 : Lt.TopX KX mg "words_of" Lt.s_words_of ["makers", "size"] := by
      refine' Lt.top_mk KX G ?a ?l ?c ?k (fun _ _ _ _ _ _ us hl => match us, hl with | [_, _], _ => rfl)
      (case a => k_is); (case l => k_is); (case c => k_is); (case k => k_is)
    have t9 : Lt.TopX KX mg "all_turns" Lt.s_all_turns ["lock"] := by
      refine' Lt.top_mk KX G ?a ?l ?c ?k (fun _ _ _ _ _ _ us hl => match us, hl with | [_], _ => rfl)
      (case a => k_is); (case l => k_is); (case c => k_is); (case k => k_is)
    have t10 : Lt.TopX KX mg "is_made" Lt.s_is_made ["lock", "turn"] := by
      refine' Lt.top_mk KX G ?a ?l ?c ?k (fun _ _ _ _ _ _ us hl => match us, hl with | [_, _], _ => rfl)
      (case a => k_is); (case l => k_is); (case c => k_is); (case k => k_is)
    have t11 : Lt.TopX KX mg "join" Lt.s_join ["lock", "turns"] := by
      refine' Lt.top_mk KX G ?a ?l ?c ?k (fun _ _ _ _ _ _ us hl => match us, hl with | [_, _], _ => rfl)
      (case a => k_is); (case l => k_is); (case c => k_is); (case k => k_is)
    have t12 : Lt.TopX KX mg "undo" Lt.s_undo ["lock", "turn"] := by
      refine' Lt.top_mk KX G ?a ?l ?c ?k (fun _ _ _ _ _ _ us hl => match us, hl with | [_, _], _ => rfl)
      (case a => k_is); (case l => k_is); (case c => k_is); (case k => k_is)
    have t13 : Lt.TopX KX mg "rounds" Lt.s_rounds ["lock", "turn"] := by
      refine' Lt.top_mk KX G ?a ?l ?c ?k (fun _ _ _ _ _ _ us hl => match us, hl with | [_, _], _ => rfl)
      (case a => k_is); (case l => k_is); (case c => k_is); (case k => k_is)
    have t14 : Lt.TopX KX mg "swapped" Lt.s_swapped ["lock", "one", "other"] := by
      refine' Lt.top_mk KX G ?a ?l ?c ?k (fun _ _ _ _ _ _ us hl => match us, hl with | [_, _, _], _ => rfl)
      (case a => k_is); (case l => k_is); (case c => k_is); (case k => k_is)
    have t15 : Lt.TopX KX mg "word_for" Lt.s_word_for ["lock", "turn"] := by
      refine' Lt.top_mk KX G ?a ?l ?c ?k (fun _ _ _ _ _ _ us hl => match us, hl with | [_, _], _ => rfl)
      (case a => k_is); (case l => k_is); (case c => k_is); (case k => k_is)
    have t16 : Lt.TopX KX mg "check_lock" Lt.s_check_lock ["lock"] := by
      refine' Lt.top_mk KX G ?a ?l ?c ?k (fun _ _ _ _ _ _ us hl => match us, hl with | [_], _ => rfl)
      (case a => k_is); (case l => k_is); (case c => k_is); (case k => k_is)
    have t17 : Lt.TopX KX mg "made_words" Lt.s_made_words ["lock"] := by
      refine' Lt.top_mk KX G ?a ?l ?c ?k (fun _ _ _ _ _ _ us hl => match us, hl with | [_], _ => rfl)
      (case a => k_is); (case l => k_is); (case c => k_is); (case k => k_is)
    have t18 : Lt.TopX KX mg "is_turn" Lt.s_is_turn ["made", "value"] := by
      refine' Lt.top_mk KX G ?a ?l ?c ?k (fun _ _ _ _ _ _ us hl => match us, hl with | [_, _], _ => rfl)
      (case a => k_is); (case l => k_is); (case c => k_is); (case k => k_is)
    have t19 : Lt.TopX KX mg "are_turns" Lt.s_are_turns ["made", "value"] := by
      refine' Lt.top_mk KX G ?a ?l ?c ?k (fun _ _ _ _ _ _ us hl => match us, hl with | [_, _], _ => rfl)
      (case a => k_is); (case l => k_is); (case c => k_is); (case k => k_is)
    have t20 : Lt.TopX KX mg "check_turn" Lt.s_check_turn ["made", "turn"] := by
      refine' Lt.top_mk KX G ?a ?l ?c ?k (fun _ _ _ _ _ _ us hl => match us, hl with | [_, _], _ => rfl)
      (case a => k_is); (case l => k_is); (case c => k_is); (case k => k_is)
    have t21 : Lt.TopX KX mg "_law_taken" Lt.s_law_taken ["row", "many"] := by
      refine' Lt.top_mk KX G ?a ?l ?c ?k (fun _ _ _ _ _ _ us hl => match us, hl with | [_, _], _ => rfl)
      (case a => k_is); (case l => k_is); (case c => k_is); (case k => k_is)
    have t22 : Lt.TopX KX mg "_law_pick" Lt.s_law_pick ["row", "things"] := by
      refine' Lt.top_mk KX G ?a ?l ?c ?k (fun _ _ _ _ _ _ us hl => match us, hl with | [_, _], _ => rfl)
      (case a => k_is); (case l => k_is); (case c => k_is); (case k => k_is)
    have t23 : Lt.TopX KX mg "_law_alike" Lt.s_law_alike ["found", "due"] := by
      refine' Lt.top_mk KX G ?a ?l ?c ?k (fun _ _ _ _ _ _ us hl => match us, hl with | [_, _], _ => rfl)
      (case a => k_is); (case l => k_is); (case c => k_is); (case k => k_is)
    have t24 : Lt.TopX KX mg "_law_is" Lt.s_law_is ["found", "due"] := by
      refine' Lt.top_mk KX G ?a ?l ?c ?k (fun _ _ _ _ _ _ us hl => match us, hl with | [_, _], _ => rfl)
      (case a => k_is); (case l => k_is); (case c => k_is); (case k => k_is)
    have t25 : Lt.TopX KX mg "_law_permutation" Lt.s_law_permutation ["row", "places"] := by
      refine' Lt.top_mk KX G ?a ?l ?c ?k (fun _ _ _ _ _ _ us hl => match us, hl with | [_, _], _ => rfl)
      (case a => k_is); (case l => k_is); (case c => k_is); (case k => k_is)
    have t26 : Lt.TopX KX mg "_law_behind" Lt.s_law_behind ["one", "other"] := by
      refine' Lt.top_mk KX G ?a ?l ?c ?k (fun _ _ _ _ _ _ us hl => match us, hl with | [_, _], _ => rfl)
      (case a => k_is); (case l => k_is); (case c => k_is); (case k => k_is)
    have t27 : Lt.TopX KX mg "_law_back" Lt.s_law_back ["turn"] := by
      refine' Lt.top_mk KX G ?a ?l ?c ?k (fun _ _ _ _ _ _ us hl => match us, hl with | [_], _ => rfl)
      (case a => k_is); (case l => k_is); (case c => k_is); (case k => k_is)
    have t28 : Lt.TopX KX mg "_law_swap" Lt.s_law_swap ["one", "other"] := by
      refine' Lt.top_mk KX G ?a ?l ?c ?k (fun _ _ _ _ _ _ us hl => match us, hl with | [_, _], _ => rfl)
      (case a => k_is); (case l => k_is); (case c => k_is); (case k => k_is)
    have t29 : Lt.TopX KX mg "_law_span" Lt.s_law_span ["places", "given"] := by
      refine' Lt.top_mk KX G ?a ?l ?c ?k (fun _ _ _ _ _ _ us hl => match us, hl with | [_, _], _ => rfl)
      (case a => k_is); (case l => k_is); (case c => k_is); (case k => k_is)
    have t30 : Lt.TopX KX mg "_law_known" Lt.s_law_known ["row", "kinds"] := by
      refine' Lt.top_mk KX G ?a ?l ?c ?k (fun _ _ _ _ _ _ us hl => match us, hl with | [_, _], _ => rfl)
      (case a => k_is); (case l => k_is); (case c => k_is); (case k => k_is)
    have t31 : Lt.TopX KX mg "_law_lock" Lt.s_law_lock ["row", "kinds"] := by
      refine' Lt.top_mk KX G ?a ?l ?c ?k (fun _ _ _ _ _ _ us hl => match us, hl with | [_, _], _ => rfl)
      (case a => k_is); (case l => k_is); (case c => k_is); (case k => k_is)
    have t33 : Lt.TopX KX mg "rounds_of" Lt.s_rounds_of ["turn"] := by
      refine' Lt.top_mk KX G ?a ?l ?c ?k (fun _ _ _ _ _ _ us hl => match us, hl with | [_], _ => rfl)
      (case a => k_is); (case l => k_is); (case c => k_is); (case k => k_is)
    have t32 : Lt.TopX KX mg "_law_words" Lt.s_law_words ["lock"] := by
      refine' Lt.top_mk KX G ?a ?l ?c ?k (fun _ _ _ _ _ _ us hl => match us, hl with | [_], _ => rfl)
      (case a => k_is); (case l => k_is); (case c => k_is); (case k => k_is)
    have eeL : Lt.ErrE KX mg "BadLock" "place" Lt.s_BadLock := by
      refine' Lt.err_mk KX G ?aC ?xL ?rv ?sa ?ga ?gg ?no ?kC ?eC ?tC ?hC ?iC ?sC ?i1 ?i2 ?i3 ?i4 ?i5 (fun _ _ _ _ _ _ us hl => match us, hl with | [_, _], _ => rfl)
      (case aC => k_is); (case xL => k_is); (case rv => decide +kernel); (case sa => k_is); (case ga => k_is); (case gg => k_is); (case no => k_is); (case kC => k_is); (case eC => k_is); (case tC => k_is); (case hC => k_is); (case iC => k_is); (case sC => first | rfl | k_is)
      (case i1 => k_is); (case i2 => k_is); (case i3 => k_is); (case i4 => k_is); (case i5 => k_is)
    obtain ⟨CeL, eL⟩ := eeL
    have eeM : Lt.ErrE KX mg "TooMany" "most" Lt.s_TooMany := by
      refine' Lt.err_mk KX G ?aC ?xL ?rv ?sa ?ga ?gg ?no ?kC ?eC ?tC ?hC ?iC ?sC ?i1 ?i2 ?i3 ?i4 ?i5 (fun _ _ _ _ _ _ us hl => match us, hl with | [_, _], _ => rfl)
      (case aC => k_is); (case xL => k_is); (case rv => decide +kernel); (case sa => k_is); (case ga => k_is); (case gg => k_is); (case no => k_is); (case kC => k_is); (case eC => k_is); (case tC => k_is); (case hC => k_is); (case iC => k_is); (case sC => first | rfl | k_is)
      (case i1 => k_is); (case i2 => k_is); (case i3 => k_is); (case i4 => k_is); (case i5 => k_is)
    obtain ⟨CeM, eM⟩ := eeM
    have eeT : Lt.NoE KX mg "BadTurn" := by
      refine' Lt.no_mk KX G ?aC ?qx ?kC ?eC ?tC ?iC ?sC
      (case aC => k_is); (case qx => first | rfl | kernel_rfl); (case kC => k_is); (case eC => k_is); (case tC => k_is); (case iC => k_is); (case sC => first | rfl | k_is)
    obtain ⟨CeT, eT⟩ := eeT
    refine' Lt.law_at KX hmg own G ?a ?l ?c ?lc ?lp ?hh ?np ⟨bi, n1, n2, n3, n4, eL, eM, eT, t1, t2, t3, t4, t5, t6, t7, t8, t9, t10, t11, t12, t13, t14, t15, t16, t17, t18, t19, t20, t21, t22, t23, t24, t25, t26, t27, t28, t29, t30, t31, t32, t33⟩
    (case a => k_is); (case l => k_is); (case c => k_is); (case lc => k_is); (case lp => rfl); (case hh => intro K' hK; unfold PySem.W.codeHdIn; rw [hK]; rfl); (case np => first | rfl | kernel_rfl | decide)
#print axioms PySem.Challenge.cw_lockturns_k01_whole_locks_holds

