import PyProof.Rows.All
import Wide.All
import OpenK.AllK
import Wide.FinOn
import HandS.ForMost
import HandS.TupSets
import HandS.Conv
import HandS.Strs
import HandS.SortInts
import HandS.IsInst
import HandS.TupAny
import HandS.TupLen
import HandS.TupMul
import HandS.Deep
import HandS.Evl
import KE.GoesEnum
import KE.KDictDisplayH
import HandS.ExcInit
import HandS.ExcOwn
import HandS.ExcField
import HandS.TryOnly
import HandS.ForExc
import HandS.Small
import HandS.EndOwn
import HandS.NestedK
import HandS.Codes
import HandS.FStr
import HandS.WideBits
import PyProof.StrBlock2
import PySem.Challenge.RW_lockturns_k05_bent_formulas
set_option Elab.async false
set_option linter.all false
set_option maxRecDepth 100000
set_option maxHeartbeats 4000000
/-! enumerate over a tuple, in a for -/
namespace LtR
open PySem PyProof.Rows
open AutoSeq1 (wpAny_loadPart')
theorem meets_enum1 {v : Value} {o : Obj} {H : Heap → Prop} (B : Begins v o H) :
    Meets (Builtin.«enumerate.__new__» ⟨[.type "enumerate", v], []⟩) (fun _ R s => H s.heap ∧
      R (.ok (.ret (.ref (s.heap.push o).objs.size))) { s with heap := (s.heap.push o).push { cls := .type "enumerate", data := .fields #[.none, .bool false, .ref s.heap.objs.size, rawInt 0, .none, .none] } }) :=
  .of_wp fun prog w A R s h => by
    obtain ⟨hp, g, d, tk, os⟩ := s
    obtain ⟨h1, h⟩ := h
    have hsub := sub_enumerate
    have q1 : ∀ {A' : Around} {E : Value → Shared → Prop} {Q : Value → Shared → Prop}, Q (.ref hp.objs.size) ⟨hp.push o, g, d, tk, os⟩ → wpAny (model prog w) A' (pyIter v) Q E ⟨hp, g, d, tk, os⟩ :=
      fun q => B.iter prog w _ _ ⟨hp, g, d, tk, os⟩ _ h1 q
    wp_walk using q1
    refine wpAny_stack_any fun st => wpAny_pure ?_
    split
    · rename_i c _ _ _ _ _
      cases (c == Value.type "enumerate")
      · wp_walk using q1
        exact ⟨_, rfl, h⟩
      · wp_walk using q1
        exact ⟨_, rfl, h⟩
    · wp_walk using q1
      exact ⟨_, rfl, h⟩
section
variable {prog : Program} {w : World} {A : Around} {E : Value → Shared → Prop} {s : Shared}
theorem enum1_begins {v : Value} {o : Obj} {H : Heap → Prop} {Q : Value → Shared → Prop} (B : Begins v o H) (h1 : H s.heap)
    (h : ∀ h', IsEnum h' (s.heap.objs.size + 1) s.heap.objs.size 0 .none → h'.get? s.heap.objs.size = some o → h'.objs.size = s.heap.objs.size + 2 →
      (∀ b o, s.heap.get? b = some o → h'.get? b = some o) → Q (.ref (s.heap.objs.size + 1)) { s with heap := h' }) :
    wpAny (model prog w) A (call (.type "enumerate") [v]) Q E s := by
  refine callType_new F.called_enumerate (by decide) (F.typeCall_enumerate_1 _) (F.newCall_enumerate_1 _) (fun obj => F.args_object_init_2 obj _) F.entry_enumerate_new
    (meets_enum1 B) ⟨h1, ?_⟩
  have hz : (s.heap.push o).objs.size = s.heap.objs.size + 1 := Heap.size_push ..
  show _ ∧ _
  rw [hz]
  have he : IsEnum ((s.heap.push o).push { cls := .type "enumerate", data := .fields #[.none, .bool false, .ref s.heap.objs.size, rawInt 0, .none, .none] }) (s.heap.objs.size + 1) s.heap.objs.size 0 .none := by
    have := Heap.get?_push_size (s.heap.push o) (o := { cls := .type "enumerate", data := .fields #[.none, .bool false, .ref s.heap.objs.size, rawInt 0, .none, .none] }) rfl
    rw [hz] at this; exact this
  refine ⟨⟨_, he, rfl⟩, h _ he (Heap.get?_push_of_some _ (Heap.get?_push_size _ B.free)) (by rw [Heap.size_push, hz]) fun b o x => Heap.get?_push_of_some _ (Heap.get?_push_of_some _ x)⟩
end
end LtR
namespace L2
open PySem PySem.Spec PyProof.Rows
/-- the tuple at a as it stands at each turn, each item in a new pair -/
def Itet (K : PySem.W.Frag) (a : Addr) : It :=
  ⟨fun i H => ∃ (xs : List V) (x : V), SqT K H a xs ∧ xs[i]? = some x, fun i H v H' => ∃ T x, v = .ref T ∧ H T = none ∧ H' = upd H T (.tup [.int (i : Nat), x]) ∧ ∀ xs, SqT K H a xs → xs[i]? = some x, fun i H => ∃ xs : List V, SqT K H a xs ∧ xs.length = i⟩
theorem turn_enumT {P : Program} {w : World} {K : PySem.W.Frag} {elts : List Expr} {kk : Nat} {tpos : Pos} (a e it : Addr) (hae : a ≠ e) (hai : a ≠ it) :
    Turn P w K (.Tuple elts kk tpos) (Itet K a) [e, it] e (fun i h => (∃ old, IsEnum h e it ((i : Nat) : Int) old) ∧ h.IsTupleIter it a i ∧ e ≠ it) where
  mem := by simp
  obj := fun i h st b hb => by
    obtain ⟨⟨old, he⟩, ⟨o, ho, hc, hd⟩, _⟩ := st
    have e' : b = e ∨ b = it := by simpa using hb
    rcases e' with z | z
    · rw [z]; exact ⟨_, he, fun v q => nomatch q⟩
    · rw [z]; exact ⟨o, ho, fun v q => by rw [hd] at q; cases q⟩
  keep := fun i h h' st k => let ⟨⟨old, he⟩, hi, hne⟩ := st; ⟨⟨old, k e (by simp) _ he⟩, hi.at fun o q => k it (by simp) o q, hne⟩
  item := by
    intro X hP hw hK hc i pins s σ H E I hf st hg
    subst hP hw hK
    obtain ⟨⟨old, he⟩, hit, hne⟩ := st
    obtain ⟨xs, x, hq, hx⟩ := hg
    obtain ⟨its, rv, p, hz⟩ := I.tuple hq
    obtain ⟨u, hu, ru⟩ := rv.get hx
    have hel : e < s.heap.objs.size := Heap.lt_size he
    have hil : it < s.heap.objs.size := by obtain ⟨_, q, _⟩ := hit; exact Heap.lt_size q
    have hu' : its.toArray[i]? = some u := by simpa using hu
    have hlt : i < its.toArray.size := (Array.getElem?_eq_some_iff.mp hu').1
    refine wpAny_pyNext_enum_itemD (Draws.tuple (prog := X.prog) (w := X.w) (A := X.A.in1) (I.ok.hd hc) it a hai its.toArray) he ⟨hit, (show s.heap.IsTuple a its.toArray from p)⟩ hlt hne (by simp [hne, Ne.symm hae]) fun x' h' tk hP ho hst' hT hsz hk => ?_
    have ex : x' = u := Option.some.inj ((show its.toArray[i]? = some x' from hP).symm.trans hu')
    subst ex
    obtain ⟨hit', hp'⟩ := hst'
    refine ⟨_, rfl, wpAny_letOwnedTupleGo_enum (s := { s with heap := h', toks := tk + 1 }) ho fun h'' he' sb => ?_⟩
    have hT2 : h''.get? s.heap.objs.size = some { cls := .type "tuple", data := .seq #[.int i tk, x'] } := (sb.2 _ (Nat.ne_of_gt hel)).trans hT
    have new : ObjOk X.prog X.w (upd H s.heap.objs.size (.tup [.int (i : Nat), x])) h'' s.heap.objs.size (.tup [.int (i : Nat), x]) :=
      ⟨by show 2 ≤ sizeLine; decide, [.int i tk, x'], .cons ⟨_, rfl⟩ (.cons ru .nil), ⟨_, hT2, rfl, _, rfl⟩⟩
    have I1 : Inv X pins σ (upd H s.heap.objs.size (.tup [.int (i : Nat), x])) { s with heap := h'', toks := tk + 1 } :=
      I.turnedNew (ch := [e, it]) (fun b ob hb q => (sb.2 b (fun z => hb (by simp [z]))).trans (hk b ob (fun z => hb (by simp [z])) (fun z => hb (by simp [z])) q)) hf (Nat.le_refl _) new
    refine ⟨.ref s.heap.objs.size, _, I1, rfl, ⟨_, x, rfl, I.hok.fresh (Nat.le_refl _), rfl, fun ys hy => by rw [I.tuple_inj hy hq]; exact hx⟩, ⟨⟨x', ?_⟩, hit'.at fun o q => (sb.2 it (Ne.symm hne)).trans q, hne⟩, fun b hb => ?_⟩
    · have e1 : ((i + 1 : Nat) : Int) = (i : Int) + 1 := by omega
      rw [e1]; exact he'
    · have hb' : b < s.heap.objs.size := by
        have e' : b = e ∨ b = it := by simpa using hb
        rcases e' with z | z
        · rw [z]; exact hel
        · rw [z]; exact hil
      rw [upd_ne (Nat.ne_of_lt hb')]
      exact (hf b hb).1
  done := by
    intro X hP hw hK hc i pins s σ H E I hf st hg
    subst hP hw hK
    obtain ⟨⟨old, he⟩, hit, hne⟩ := st
    obtain ⟨xs, hq, hx⟩ := hg
    obtain ⟨its, rv, p, hz⟩ := I.tuple hq
    obtain ⟨f0, f1, f2, f3, f4, f5⟩ := hf it (by simp)
    have hl := rv.length
    have hn : its.toArray.size = i := by simp; omega
    exact wpAny_pyNext_enum_endD (Draws.tuple (prog := X.prog) (w := X.w) (A := X.A.in1) (I.ok.hd hc) it a hai its.toArray) he (show s.heap.IsTupleIter it a its.toArray.size ∧ s.heap.IsTuple a its.toArray from ⟨by rw [hn]; exact hit, p⟩) fun h' eb => ⟨rfl, I.turned (t' := s.toks) (fun b o hb q => eb b o hb q) f0 f1 f3 f4 f5⟩
  self := fun A i s Q E st h => let ⟨⟨_, he⟩, _⟩ := st; wpAny_pyIter_enum he h
def iEnumT (K : PySem.W.Frag) (ta : TA) : TI := fun σ H R => ta σ H fun vs H1 => ∃ a xs, vs = [.ref a] ∧ SqT K H1 a xs ∧ R (Itet K a) H1
theorem pi_enumT {X : Cx} {e : Expr} {ta : TA} {p pos tpos : Pos} {elts : List Expr} {kk : Nat} (hg : Gl X "enumerate") (hm : X.mg "enumerate" = none) (ha : PA X [e] ta) (hs : starEach [e] X.env = [(false, eval e X.env)] := by rfl) :
    PI X (.Tuple elts kk tpos) (.Call (.Name "enumerate" p) [e] [] pos) (iEnumT X.K ta) := by
  refine ⟨fun pins s σ H R I h => ?_⟩
  refine Call_ (ld_blt I hg hm boot_enumerate (PyProof.Rows.callWith_type1 (thn (ha.run pos pins s σ H _ I h) fun us s1 ⟨vs, H1, I1, r1, q1⟩ => ?_) hs rfl))
  obtain ⟨a, xs, ex, hq, q⟩ := q1
  subst ex
  cases r1 with
  | cons r rr =>
    cases rr
    cases r
    obtain ⟨its, rv, p', hz⟩ := I1.tuple hq
    have hal : a < s1.heap.objs.size := by obtain ⟨_, e, _⟩ := p'; exact Heap.lt_size e
    refine LtR.enum1_begins (begins_tuple a its.toArray) (show s1.heap.IsTuple a its.toArray from p') fun h' he hit hsz hk => wpAny_pyIter_enum he ?_
    have I2 : Inv X pins σ H1 { s1 with heap := h' } := I1.kept (t' := s1.toks) hk
    refine ⟨s1.heap.objs.size + 1, [s1.heap.objs.size + 1, s1.heap.objs.size], _, _, H1, rfl, I2, turn_enumT a (s1.heap.objs.size + 1) s1.heap.objs.size (Nat.ne_of_lt (Nat.lt_succ_of_lt hal)) (Nat.ne_of_lt hal), ⟨⟨.none, he⟩, ⟨_, hit, rfl, rfl⟩, Nat.succ_ne_self _⟩, fun b hb => ?_, q⟩
    have e' : b = s1.heap.objs.size + 1 ∨ b = s1.heap.objs.size := by simpa using hb
    have hle : s1.heap.objs.size ≤ b := by
      rcases e' with z | z
      · rw [z]; exact Nat.le_add_right _ _
      · rw [z]; exact Nat.le_refl _
    exact I1.fpOk hle (I1.hok.fresh hle)
end L2

set_option Elab.async false
set_option linter.all false
set_option maxRecDepth 100000
set_option maxHeartbeats 4000000
/-! sorted of a dict whose keys are tuples of ints; sorted of a tuple of ints; tuple.index of ints; {tuple: v} -/
namespace L2
open PySem PySem.Spec PyProof.Rows
section
variable {X : Cx}
/-- t.index(i), the first place -/
theorem mt_tup_indexI : MtR X "tuple.index" (fun x xs H Q => ∃ p, ∃ ys : List Int, ∃ z j, x = .ref p ∧ xs = [.int z] ∧ SqT X.K H p (ys.map V.int) ∧ ys[j]? = some z ∧ (∀ m, m < j → ys[m]? ≠ some z) ∧ Q (.int (j : Nat)) H) := by
  intro pins s σ H x xs v us Q I rx rs h
  obtain ⟨p, ys, z, j, rfl, rfl, hq, hy, hno, q⟩ := h
  cases rx
  obtain ⟨u, rfl, t, rfl⟩ := vals1 rs
  obtain ⟨its, r, pl, hz⟩ := I.tuple hq
  obtain ⟨⟨cls, dd, dt, sl⟩, ho, hc, n, hd⟩ := pl
  simp only at hc hd
  subst hc
  subst hd
  have hl : its.toArray.size = ys.length := by rw [List.size_toArray, ← r.length, List.length_map]
  have hj : j < its.toArray.size := by rw [hl]; exact (List.getElem?_eq_some_iff.mp hy).1
  have at' : ∀ (m : Nat) (hm : m < its.toArray.size), ∃ y t', ys[m]? = some y ∧ its.toArray[m] = Value.int y t' := fun m hm => by
    have hm' : m < ys.length := by rw [← hl]; exact hm
    obtain ⟨w, hw, t', hw'⟩ := r.get (i := m) (x := .int ys[m]) (by simp [hm'])
    refine ⟨ys[m], t', List.getElem?_eq_getElem hm', ?_⟩
    have e := (List.getElem?_eq_some_iff.mp hw).2
    rw [← hw', ← e]
    simp
  have flat : (ys.map V.int).all flatV = true := by
    rw [List.all_map]
    exact List.all_eq_true.mpr fun _ _ => rfl
  refine call_meets PySem.F.slot_tuple_index ⟨_, ho, rfl⟩ PySem.F.entry_tuple_index (PySem.F.args_tuple_index_2 _ _) (TI.tuple_indexAt p its.toArray n dd sl (.int z t) (eqU (.int z)) j hj ?_ ?_)
    ⟨ho, fun w hw => mem_eqAt (x := .int z) ⟨t, rfl⟩ rfl r flat w (by simpa using hw), ⟨.int (j : Nat), H, I.tok _, ⟨_, rfl⟩, q⟩⟩
  · obtain ⟨y, t', h1, h2⟩ := at' j hj
    rw [hy] at h1
    cases h1
    rw [h2]
    show (z == z) = true
    exact beq_self_eq_true z
  · intro m hm hmj
    obtain ⟨y, t', h1, h2⟩ := at' m hm
    rw [h2]
    show (y == z) = false
    exact beq_eq_false_iff_ne.mpr fun e => hno m hmj (e ▸ h1)
/-- sorted(d), d a dict with fewer than 64 keys, all tuples of dd ints in [0, B) -/
def rSortDT (d : Nat) (B : Int) : List V → Hp → VK → Prop := fun vs H Q => ∃ (a : Addr) (kvs : List (List Key × V)) (ks : List (List Int)), vs = [V.ref a] ∧ Rd H a (.dT kvs) ∧ kvs.map (·.1) = ks.map (fun k => k.map Sum.inl) ∧ ks.length < 64 ∧ (∀ k ∈ ks, k.length = d ∧ TS.Bd B k) ∧
  ∀ (bs : List Addr) (ks' : List (List Int)) (p : Addr), ks'.Perm ks → ks'.Pairwise (fun x y => TS.code B x ≤ TS.code B y) → Paired (fun (b : Addr) k => H b = some (.tup (k.map V.int))) bs ks' → H p = none → Q (.ref p) (upd H p (.lst (bs.map V.ref)))
theorem kV_ints (k : List Int) : (k.map (Sum.inl : Int → Key)).map kV = k.map V.int := by
  rw [List.map_map]
  rfl
def refA : Value → Addr
  | .ref a => a
  | _ => 0
theorem keys_perm {H : Hp} : ∀ {kvs : List (List Key × V)} {xs : List (List Key × Addr × Value)} {ks : List (List Int)}, KT H kvs xs → kvs.map (·.1) = ks.map (fun k => k.map Sum.inl) →
    Paired (fun (u : Value) (k : List Int) => ∃ b, u = .ref b ∧ H b = some (.tup (k.map V.int))) (xs.map fun x => Value.ref x.2.1) ks
  | _, _, [], .nil, _ => .nil
  | _, _, [], .cons _ _, e => by simp at e
  | _, _, _ :: _, .nil, e => by simp at e
  | p :: ps, q :: qs, k :: ks, .cons h t, e => by
    rw [List.map_cons, List.map_cons] at e
    injection e with e1 e2
    refine .cons ⟨q.2.1, rfl, ?_⟩ (keys_perm t e2)
    have z := h.2.1
    rw [e1, kV_ints] at z
    exact z
theorem paired_map_eq {β γ : Type} {F : β → γ → Prop} {f : β → γ} (h : ∀ u k, F u k → f u = k) : ∀ {us : List β} {ks : List γ}, Paired F us ks → us.map f = ks
  | _, _, .nil => rfl
  | _, _, .cons r t => by rw [List.map_cons, h _ _ r, paired_map_eq h t]
theorem paired_mem_left {β γ : Type} {F : β → γ → Prop} : ∀ {us : List β} {ks : List γ}, Paired F us ks → ∀ u ∈ us, ∃ k ∈ ks, F u k
  | _, _, .nil, u, h => by cases h
  | _, _, .cons r t, u, h => by
    rcases List.mem_cons.mp h with e | h
    · subst e
      exact ⟨_, List.mem_cons_self, r⟩
    · obtain ⟨k, hk, f⟩ := paired_mem_left t u h
      exact ⟨k, List.mem_cons_of_mem _ hk, f⟩
theorem paired_of_map {β γ δ : Type} {F : γ → δ → Prop} {f : β → γ} {g : β → δ} : ∀ {us : List β}, (∀ u ∈ us, F (f u) (g u)) → Paired F (us.map f) (us.map g)
  | [], _ => .nil
  | u :: us, h => .cons (h u List.mem_cons_self) (paired_of_map fun v hv => h v (List.mem_cons_of_mem _ hv))
theorem cr_sortDT {d : Nat} {B : Int} (hc : X.calm = true) (hd1 : 1 ≤ d) : CallR X (.builtin "sorted") (rSortDT d B) := by
  intro pins s σ H xs us Q I r q
  obtain ⟨a, kvs, ks, rfl, hd, hks, h64, hB, q⟩ := q
  obtain ⟨u, eu, rx⟩ := vals1 r
  subst eu
  cases rx
  obtain ⟨z, lo, kx, pr, o, es, ep, ho, hx, hdt, he, hn⟩ := (show ObjOk X.prog X.w H s.heap a (.dT kvs) from hd.ok I.hok)
  have l1 : es.size = kx.length := size_of_entries he
  have l2 : kvs.length = kx.length := Paired.length pr
  refine Calls.call_function_entry PyProof.Rows.kind_sorted PyProof.Rows.plain_sorted PyProof.Rows.entry_sorted (PyProof.Rows.args_sorted1 _) ?_
  unfold Builtin.«sorted»
  refine wpAny_bind (m := checkCount "sorted" 1 1 _) (wpAny_pure ?_)
  refine wpAny_bind (PySem.W.kdu_collect (A := X.A.in1) (kdl_raw lo hx hdt) (I.ok.hd hc) ho (by omega) fun h' tk acc hk hacc => ?_)
  have ea : acc.toList = kx.map fun x => Value.ref x.2.1 := by
    have hl : acc.toList.length = kx.length := by rw [Array.length_toList, hacc.1]; exact l1
    apply List.ext_getElem?
    intro j
    rw [List.getElem?_map]
    cases hj : acc.toList[j]? with
    | none =>
      have h1 := List.getElem?_eq_none_iff.mp hj
      rw [List.getElem?_eq_none (by omega)]
      all_goals rfl
    | some v =>
      obtain ⟨en, hen, hv⟩ := hacc.2 j v (by rw [← Array.getElem?_toList]; exact hj)
      have qe := entry_at he j
      rw [hen] at qe
      cases hb : kx[j]? with
      | none =>
        rw [hb] at qe
        exact nomatch (show some en = none from qe)
      | some b =>
        rw [hb] at qe
        have e2 : en = entryOfKey (tupleKind (mixKind X.prog X.w)) b := Option.some.inj qe
        rw [hv, e2]
        all_goals rfl
  have I1 : Inv X pins σ H { s with heap := h', toks := tk } := I.kept hk
  have prk := keys_perm pr hks
  rw [← ea] at prk
  generalize acc.toList = vs at prk
  have hvl : vs.length = ks.length := Paired.length prk
  have tup : ∀ b (k : List Int), H b = some (.tup (k.map V.int)) → TS.TupInts h' (.ref b) k := fun b k e => tupI_raw I1 (SqT.of e)
  have hin : ∀ v ∈ vs, ∃ b k, k ∈ ks ∧ v = .ref b ∧ H b = some (.tup (k.map V.int)) := fun v hv => by
    obtain ⟨k, hk', b, e1, e2⟩ := paired_mem_left prk v hv
    exact ⟨b, k, hk', e1, e2⟩
  have hmap : vs.map (TS.intsOf h') = ks := paired_map_eq (fun u k h => by
    obtain ⟨b, e1, e2⟩ := h
    subst e1
    exact (tup b k e2).ints) prk
  refine wpAny_bind (wpAny_newList ?_ (by rw [hvl, sizeLine_eq]; omega))
  have hoL : (h'.push (seqObj "list" vs.toArray 0)).get? h'.objs.size = some (seqObj "list" vs.toArray 0) := Heap.get?_push_size _ rfl
  show wpAny _ _ _ _ _ { s with heap := h'.push (seqObj "list" vs.toArray 0), toks := tk }
  have keep : ∀ b u, h'.get? b = some u → (h'.push (seqObj "list" vs.toArray 0)).get? b = some u := fun b u e => Heap.get?_push_of_some _ e
  have I2 : Inv X pins σ H { s with heap := h'.push (seqObj "list" vs.toArray 0), toks := tk } := I1.kept (t' := tk) keep
  have tup2 : ∀ b (k : List Int), H b = some (.tup (k.map V.int)) → TS.TupInts (h'.push (seqObj "list" vs.toArray 0)) (.ref b) k := fun b k e => tupI_raw I2 (SqT.of e)
  have x : TS.TupsOk (h'.push (seqObj "list" vs.toArray 0)) d B vs := fun v hv => by
    obtain ⟨b, k, hk', e1, e2⟩ := hin v hv
    subst e1
    exact ⟨k, tup2 b k e2, (hB k hk').1, (hB k hk').2⟩
  refine wpAny_bind (wpAny_holding (TS.call_sort_tups (s := { s with heap := h'.push (seqObj "list" vs.toArray 0), toks := tk }) hoL (by rw [hvl]; exact h64) hd1 x fun out a1 a2 => ?_))
  obtain ⟨c, hcc⟩ := PyProof.Rows.sortedHeap_at (vs := vs) (out := out) hoL
  have hin' : ∀ v ∈ out.toList, ∃ b k, k ∈ ks ∧ v = .ref b ∧ H b = some (.tup (k.map V.int)) := fun v hv => hin v (a1.mem_iff.mp hv)
  have intz : ∀ v ∈ out.toList, TS.intsOf (h'.push (seqObj "list" vs.toArray 0)) v = TS.intsOf h' v := fun v hv => by
    obtain ⟨b, k, _, e1, e2⟩ := hin' v hv
    subst e1
    rw [(tup2 b k e2).ints, (tup b k e2).ints]
  have hn' : H h'.objs.size = none := I1.hok.fresh (Nat.le_refl _)
  have vr : Vals ((out.toList.map refA).map V.ref) out.toList := by
    have e : out.toList = (out.toList.map refA).map Value.ref := by
      rw [List.map_map]
      refine (List.map_id' out.toList).symm.trans (List.map_congr_left fun v hv => ?_)
      obtain ⟨b, k, _, e1, e2⟩ := hin' v hv
      subst e1
      rfl
    have z := vals_refs (out.toList.map refA)
    rw [← e] at z
    exact z
  have hlen : ((out.toList.map refA).map V.ref).length ≤ sizeLine := by
    rw [List.length_map, List.length_map, a1.length_eq, hvl, sizeLine_eq]
    omega
  refine wpAny_pure ⟨_, rfl, .ref h'.objs.size, upd H h'.objs.size (.lst ((out.toList.map refA).map V.ref)), I1.laid (t' := tk) (fun b u e => ?_) (Nat.le_refl _) ⟨hlen, out.toList, c, vr, hcc⟩, rfl, ?_⟩
  · have hlt : b < h'.objs.size := Heap.lt_size e
    show (PyProof.Rows.sortedHeap (h'.push (seqObj "list" vs.toArray 0)) h'.objs.size vs out).get? b = some u
    rw [PyProof.Rows.sortedHeap_old (Nat.ne_of_lt hlt) (by rw [PyProof.Rows.size_push']; exact Nat.lt_succ_of_lt hlt)]
    exact Heap.get?_push_of_some _ e
  · refine q (out.toList.map refA) (out.toList.map (TS.intsOf h')) h'.objs.size ?_ ?_ ?_ hn'
    · have z := a1.map (TS.intsOf h')
      rw [hmap] at z
      exact z
    · refine List.pairwise_map.mpr (List.Pairwise.imp_of_mem (fun {u v} hu hv h => ?_) a2)
      rw [← intz u hu, ← intz v hv]
      exact h
    · refine paired_of_map fun v hv => ?_
      obtain ⟨b, k, _, e1, e2⟩ := hin' v hv
      subst e1
      rw [(tup b k e2).ints]
      exact e2
/-- sorted(t), t a tuple of fewer than 64 ints -/
def rSortIT (K : PySem.W.Frag) : List V → Hp → VK → Prop := fun vs H Q => ∃ (a : Addr) (ns : List Int), vs = [V.ref a] ∧ SqT K H a (ns.map V.int) ∧ ns.length < 64 ∧
  ∀ (ns' : List Int) (p : Addr), ns'.Perm ns → ns'.Pairwise (· ≤ ·) → H p = none → Q (.ref p) (upd H p (.lst (ns'.map V.int)))
end
section
variable {prog : Program} {w : World} {A : Around} {E : Value → Shared → Prop} {s : Shared}
theorem collect_tup {l : Addr} {vs : List Value} {Q : List Value → Shared → Prop} (hl : s.heap.IsTuple l vs.toArray)
    (h : Q vs { s with heap := (s.heap.push (seqObj "list" #[] 0)).update s.heap.objs.size (Obj.mapSeq (· ++ vs.toArray)) }) (hsz : vs.length ≤ sizeLine) :
    wpAny (model prog w) A (collect (.ref l)) Q E s := by
  obtain ⟨o, ho, hc, n, hd⟩ := id hl
  unfold collect
  refine wpAny_bind (wpAny_runValue (codeAny_builtin entry_proto_collect' ?_))
  show wpAny _ _ (do again (.builtin "list.__iadd__" ⟨[← newList [], .ref l], []⟩)) _ _ s
  refine wpAny_bind (wpAny_newList (wpAny_pure ⟨Code.quiet_builtin _ (by decide +kernel), codeAny_builtin entry_list_iadd' ?_⟩))
  show wpAny _ _ (Builtin.List.listExtendWith (.ref s.heap.objs.size) (.ref l) (.ref s.heap.objs.size)) _ _ { s with heap := s.heap.push (seqObj "list" #[] 0) }
  unfold Builtin.List.listExtendWith
  have ho' : (s.heap.push (seqObj "list" #[] 0)).get? l = some o := Heap.get?_push_of_some _ ho
  refine wpAny_bind (wpAny_typeOf (T := "tuple") ⟨o, ho', hc⟩ ?_)
  have ht : (Value.type "tuple" == Value.type "tuple") = true := by rfl
  rw [if_pos (by rw [ht]; simp)]
  refine wpAny_bind (listItems_at ho' hd ?_)
  refine wpAny_bind (listItems_at (xs := #[]) (n := 0) (Heap.get?_push_size _ rfl) rfl ?_)
  rw [if_neg (by simp)]
  refine wpAny_bind (listUpdate_at (xs := #[]) (n := 0) (Heap.get?_push_size _ rfl) rfl ?_ (Nat.zero_le _) (by show (#[] ++ vs.toArray).size ≤ sizeLine + 1; simp only [Array.size_append, List.size_toArray, List.length_nil]; omega))
  refine wpAny_pure ?_
  show wpAny (model prog w) A (do
      let o ← load s.heap.objs.size
      match o.data with
      | .seq xs _ => pure xs.toList
      | _ => unsupported "internal:collect") Q E { s with heap := (s.heap.push (seqObj "list" #[] 0)).update s.heap.objs.size (Obj.mapSeq (· ++ vs.toArray)) }
  refine wpAny_bind (wpAny_load (get?_update_seq (Heap.get?_push_size _ rfl) _) ?_)
  show wpAny _ _ (pure ((#[] : Array Value) ++ vs.toArray).toList) Q E _
  rw [show ((#[] : Array Value) ++ vs.toArray).toList = vs by simp]
  exact wpAny_pure h
theorem sorted_tupI {l : Addr} {vs : List Value} {ns : List Int} {Q : Value → Shared → Prop} (hl : s.heap.IsTuple l vs.toArray) (hI : IntsAre vs ns) (h64 : vs.length < 64)
    (h : ∀ (out : Array Value) (ns' : List Int), IntsAre out.toList ns' → ns'.Perm ns → ns'.Pairwise (· ≤ ·) → Q (.ref (s.heap.objs.size + 1)) { s with heap := sortedAll s.heap vs out }) :
    wpAny (model prog w) A (call (.builtin "sorted") [.ref l]) Q E s := by
  refine Calls.call_function_entry kind_sorted plain_sorted entry_sorted (args_sorted1 _) ?_
  unfold Builtin.«sorted»
  refine wpAny_bind (m := checkCount "sorted" 1 1 _) (wpAny_pure ?_)
  refine wpAny_bind (collect_tup hl ?_ (by rw [sizeLine_eq]; omega))
  refine wpAny_bind (wpAny_newList ?_ (by rw [sizeLine_eq]; omega))
  have hsz : ((s.heap.push (seqObj "list" #[] 0)).update s.heap.objs.size (Obj.mapSeq (· ++ vs.toArray))).objs.size = s.heap.objs.size + 1 := by
    rw [Heap.size_update, size_push']
  have hoL : (((s.heap.push (seqObj "list" #[] 0)).update s.heap.objs.size (Obj.mapSeq (· ++ vs.toArray))).push (seqObj "list" vs.toArray 0)).get? (s.heap.objs.size + 1) = some (seqObj "list" vs.toArray 0) := by
    rw [← hsz]; exact Heap.get?_push_size _ rfl
  show wpAny _ _ _ _ _ { s with heap := ((s.heap.push (seqObj "list" #[] 0)).update s.heap.objs.size (Obj.mapSeq (· ++ vs.toArray))).push (seqObj "list" vs.toArray 0) }
  rw [hsz]
  refine wpAny_bind (wpAny_holding (wpAny_call_entry slot_list_sort ⟨_, hoL, rfl⟩ entry_list_sort (list_sort_tree hoL hI h64 fun out ns' a1 a2 a3 => ⟨_, rfl, ?_⟩) (args_list_sort _)))
  exact wpAny_pure ⟨_, rfl, h out ns' a1 a2 a3⟩
end
section
variable {X : Cx}
theorem cr_sortIT : CallR X (.builtin "sorted") (rSortIT X.K) := by
  intro pins s σ H vs us Q I r h
  obtain ⟨a, ns, rfl, hs, h64, q⟩ := h
  obtain ⟨its, rv, hl, _⟩ := I.tuple hs
  rw [Vals.ref1 r]
  have hi := rv.ints
  refine sorted_tupI hl hi (by rw [hi.length]; exact h64) fun out ns' h1 h2 h3 => ?_
  obtain ⟨ep, he'⟩ := PyProof.Rows.sortedAll_at s.heap its out
  have hlen : (ns'.map V.int).length ≤ sizeLine := by rw [List.length_map, h2.length_eq]; exact small64 h64
  exact ⟨.ref _, upd H (s.heap.objs.size + 1) (.lst (ns'.map V.int)), I.laid (t' := s.toks) (fun _ _ => PyProof.Rows.sortedAll_old) (Nat.le_succ _) ⟨hlen, out.toList, ep, vals_of_ints h1, he'⟩, rfl, q ns' _ h2 h3 (I.hok.fresh (Nat.le_succ _))⟩
/-- {k: v}, k a tuple of ints and texts -/
def tDispT (tk tv : TE) : TE := fun σ H Q => ∀ p, H p = none → tk σ (upd H p (.dT [])) fun x H1 => tv σ H1 fun y H2 => ∃ (b : Addr) (k : List Key), x = .ref b ∧ H2 p = some (.dT []) ∧ H2 b = some (.tup (k.map kV)) ∧ Q (.ref p) (upd H2 p (.dT [(k, y)]))
theorem pe_dispT {k v : Expr} {pos : Pos} {tk tv : TE} (hu : X.A.units + 1 < cLine) (hk : PE X k tk) (hv : PE X v tv) : PE X (.Dict [some k] [v] pos) (tDispT tk tv) := by
  refine ⟨fun pins s σ H Q I q => ?_⟩
  have hn := I.hok.fresh (Nat.le_refl s.heap.objs.size)
  have I1 := I.laid (a := s.heap.objs.size) (o := .dT []) (h' := s.heap.push { cls := .type "dict", data := .dict #[] }) (t' := s.toks) (fun _ _ q => Heap.get?_push_of_some _ q) (Nat.le_refl _) (dt_empty s.heap I.big)
  have hroom : (tupleKind (mixKind X.prog X.w)).room X.A := (show X.A.units < cLine by omega)
  rw [arm_eval_Dict, zip_pairTrees [some k] [v] X.env pos rfl rfl, dictDisplay_pairs (pairTrees [some k] [v] X.env pos) (by intro z; cases z) (by show 1 < 17; omega)]
  refine wpAny_bind (wpAny_standAt (wpAny_bind (wpAny_subDictH (knd := tupleKind (mixKind X.prog X.w)) (Q := fun d s' => wpAny (model X.prog X.w) X.A (pure (Value.ref d)) (EP X pins σ Q) X.xe s') hroom (by show 1 ≤ 15; omega) ?_)))
  refine pairTrees_cons_walk (thn (hk.run pins _ σ _ _ I1 (q _ hn)) fun u s1 ⟨x, H1, I2, rx, q1⟩ => thn (hv.run pins s1 σ H1 _ I2 q1) fun w2 s2 ⟨y, H2, I3, ry, q2⟩ => pairTrees_nil_walk ?_)
  obtain ⟨b, ks, rfl, hp, hb, qq⟩ := q2
  cases rx
  obtain ⟨z, hd, xs0, rel, dd⟩ := dt_of I3.hok hp
  cases rel
  refine ⟨[(ks, b, w2)], ⟨rfl, rfl, key_of I3.hok hb, trivial⟩, dd, fun h' tk' dd' hs => wpAny_pure ⟨.ref s.heap.objs.size, _, ?_, rfl, qq⟩⟩
  obtain ⟨o, es, ep, ho, h2, h3, h4, _, h5⟩ := dd'
  refine d_write I3 (by rw [hp]; exact True.intro) hs ⟨o, ho⟩ ⟨by show 1 ≤ sizeLine; decide, hd, [(ks, b, w2)], .cons ⟨rfl, ?_, ry⟩ .nil, o, es, ep, ho, h2, h3, h4, h5⟩
  rw [upd_ne (ne_of hb hp (fun z => nomatch z))]
  exact hb
end
end L2

set_option Elab.async false
set_option linter.all false
set_option maxRecDepth 100000
set_option maxHeartbeats 4000000
/-! the common ground: turns and locks in the heap, defs by name -/
namespace Lt
open PySem PySem.Spec PyProof.Rows L2
/-! ### heaps -/
theorem same_new {H : Hp} {p : Addr} {o : HO} (h : H p = none) : Same H (upd H p o) := fun b x e => by
  rw [upd_ne (ne_of_none e h)]
  exact e
/-- an object that H does not know may change -/
theorem same_mut {H H' : Hp} {p : Addr} {o : HO} (e : Same H H') (h : H p = none) : Same H (upd H' p o) := fun a u ha => by
  rw [upd_ne (ne_of_none ha h)]
  exact e a u ha
/-- the tuples stay -/
def Tm (H H' : Hp) : Prop := (∀ a xs, H a = some (.tup xs) → H' a = some (.tup xs)) ∧ ∀ a o xs, H a = some (.frz o (.tup xs)) → H' a = some (.frz o (.tup xs))
theorem Tm.refl (H : Hp) : Tm H H := ⟨fun _ _ h => h, fun _ _ _ h => h⟩
theorem Tm.trans {H H1 H2 : Hp} (a : Tm H H1) (b : Tm H1 H2) : Tm H H2 := ⟨fun c x h => b.1 c x (a.1 c x h), fun c o x h => b.2 c o x (a.2 c o x h)⟩
theorem Tm.of {H H' : Hp} (e : Same H H') : Tm H H' := ⟨fun a xs h => e a _ h, fun a o xs h => e a _ h⟩
/-- a tuple to be read: its object known or not -/
abbrev RT (H : Hp) (a : Addr) (xs : List V) : Prop := Rd H a (.tup xs)
theorem RT.tm {H H' : Hp} {a : Addr} {xs : List V} (h : RT H a xs) (e : Tm H H') : RT H' a xs := by
  rcases h with h | ⟨o, h⟩
  · exact .inl (e.1 _ _ h)
  · exact .inr ⟨o, e.2 _ _ _ h⟩
theorem RT.sm {H H' : Hp} {a : Addr} {xs : List V} (h : RT H a xs) (e : Same H H') : RT H' a xs := h.tm (.of e)
theorem RT.sq {K : PySem.W.Frag} {H : Hp} {a : Addr} {xs : List V} (h : RT H a xs) : SqT K H a xs := .inl h
/-- what is no tuple may change -/
theorem Tm.mut {H : Hp} {p : Addr} {o u : HO} (h : H p = some u) (hu : ∀ xs, u ≠ .tup xs) (hf : ∀ ob xs, u ≠ .frz ob (.tup xs)) : Tm H (upd H p o) :=
  ⟨fun a xs e => by rw [upd_ne (ne_of e h (fun z => hu xs z.symm))]; exact e, fun a ob xs e => by rw [upd_ne (ne_of e h (fun z => hf ob xs z.symm))]; exact e⟩
theorem Tm.lst {H : Hp} {p : Addr} {o : HO} {ys : List V} (h : H p = some (.lst ys)) : Tm H (upd H p o) := .mut h (fun _ z => nomatch z) fun _ _ z => nomatch z
theorem Tm.dT {H : Hp} {p : Addr} {o : HO} {ys : List (List Key × V)} (h : H p = some (.dT ys)) : Tm H (upd H p o) := .mut h (fun _ z => nomatch z) fun _ _ z => nomatch z
theorem Tm.new {H : Hp} {p : Addr} {o : HO} (h : H p = none) : Tm H (upd H p o) := .of (same_new h)

/-! ### turns: tuples of numbers -/
def nI (n : Nat) : V := .int (n : Int)
def nIs (t : List Nat) : List V := t.map nI
def TN (H : Hp) (v : V) (t : List Nat) : Prop := ∃ a, v = .ref a ∧ RT H a (nIs t)
/-- one that no dict refuses as a key -/
def TK (H : Hp) (v : V) (t : List Nat) : Prop := ∃ a, v = .ref a ∧ H a = some (.tup (nIs t))
theorem TK.tn {H : Hp} {v : V} {t : List Nat} (h : TK H v t) : TN H v t := let ⟨a, e, h⟩ := h; ⟨a, e, .inl h⟩
theorem TK.tm {H H' : Hp} {v : V} {t : List Nat} (e : Tm H H') (h : TK H v t) : TK H' v t := let ⟨a, ev, ha⟩ := h; ⟨a, ev, e.1 _ _ ha⟩
/-- a tuple of turns -/
def TT (H : Hp) (v : V) (ts : List (List Nat)) : Prop := ∃ a xs, v = .ref a ∧ H a = some (.tup xs) ∧ Paired (TN H) xs ts
/-- a list of turns at a -/
def LT (H : Hp) (a : Addr) (ts : List (List Nat)) : Prop := ∃ xs, H a = some (.lst xs) ∧ Paired (TN H) xs ts
theorem TN.tm {H H' : Hp} {v : V} {t : List Nat} (e : Tm H H') (h : TN H v t) : TN H' v t := let ⟨a, ev, ha⟩ := h; ⟨a, ev, ha.tm e⟩
theorem TNs.tm {H H' : Hp} (e : Tm H H') : ∀ {xs : List V} {ts : List (List Nat)}, Paired (TN H) xs ts → Paired (TN H') xs ts
  | _, _, .nil => .nil
  | _, _, .cons r t => .cons (r.tm e) (TNs.tm e t)
theorem TT.tm {H H' : Hp} {v : V} {t : List (List Nat)} (e : Tm H H') (h : TT H v t) : TT H' v t := let ⟨a, xs, ev, ha, p⟩ := h; ⟨a, xs, ev, e.1 _ _ ha, TNs.tm e p⟩
theorem LT.same {H H' : Hp} {v : Addr} {t : List (List Nat)} (e : Same H H') (h : LT H v t) : LT H' v t := let ⟨xs, ha, p⟩ := h; ⟨xs, e _ _ ha, TNs.tm (.of e) p⟩
theorem nIs_len (t : List Nat) : (nIs t).length = t.length := List.length_map ..
theorem nIs_get (t : List Nat) (i : Nat) : (nIs t)[i]? = (t[i]?).map nI := List.getElem?_map ..
theorem nIs_int (t : List Nat) : nIs t = (t.map Int.ofNat).map V.int := by
  unfold nIs
  rw [List.map_map]
  rfl
theorem nIs_key (t : List Nat) : nIs t = (t.map fun n : Nat => (Sum.inl (Int.ofNat n) : Key)).map kV := by
  unfold nIs
  rw [List.map_map]
  rfl
theorem Paired.getL {α β : Type} {F : α → β → Prop} : ∀ {xs : List α} {ys : List β} {i : Nat} {x : α}, Paired F xs ys → xs[i]? = some x → ∃ y, ys[i]? = some y ∧ F x y
  | _, _, _, _, .nil, e => by simp at e
  | _, _, 0, _, .cons r _, e => by simp at e; subst e; exact ⟨_, rfl, r⟩
  | _, _, i + 1, x, .cons _ t, e => by
    obtain ⟨u, h1, h2⟩ := Paired.getL (i := i) (x := x) t (by simpa using e)
    exact ⟨u, by simpa using h1, h2⟩
theorem Paired.getR {α β : Type} {F : α → β → Prop} : ∀ {xs : List α} {ys : List β} {i : Nat} {y : β}, Paired F xs ys → ys[i]? = some y → ∃ x, xs[i]? = some x ∧ F x y
  | _, _, _, _, .nil, e => by simp at e
  | _, _, 0, _, .cons r _, e => by simp at e; subst e; exact ⟨_, rfl, r⟩
  | _, _, i + 1, x, .cons _ t, e => by
    obtain ⟨u, h1, h2⟩ := Paired.getR (i := i) (y := x) t (by simpa using e)
    exact ⟨u, by simpa using h1, h2⟩
theorem Paired.app {α β : Type} {F : α → β → Prop} : ∀ {xs xs' : List α} {ys ys' : List β}, Paired F xs ys → Paired F xs' ys' → Paired F (xs ++ xs') (ys ++ ys')
  | _, _, _, _, .nil, h => h
  | _, _, _, _, .cons r t, h => .cons r (Paired.app t h)
theorem Paired.one {α β : Type} {F : α → β → Prop} {x : α} {y : β} (h : F x y) : Paired F [x] [y] := .cons h .nil
theorem Paired.tk {α β : Type} {F : α → β → Prop} : ∀ (n : Nat) {xs : List α} {ys : List β}, Paired F xs ys → Paired F (xs.take n) (ys.take n)
  | 0, _, _, _ => .nil
  | _ + 1, _, _, .nil => .nil
  | n + 1, _, _, .cons r t => .cons r (Paired.tk n t)
theorem Paired.dr {α β : Type} {F : α → β → Prop} : ∀ (n : Nat) {xs : List α} {ys : List β}, Paired F xs ys → Paired F (xs.drop n) (ys.drop n)
  | 0, _, _, h => h
  | _ + 1, _, _, .nil => .nil
  | n + 1, _, _, .cons r t => Paired.dr n t

/-! ### data for == and in -/
def dN (n : Nat) : PyData := .int (n : Int)
def dT (t : List Nat) : PyData := .tuple (t.map dN)
theorem dp_nats {K : PySem.W.Frag} {H : Hp} : ∀ t : List Nat, DpAll K H (nIs t) (t.map dN)
  | [] => .nil
  | n :: t => .cons (.int _) (dp_nats t)
theorem TN.dp {K : PySem.W.Frag} {H : Hp} {v : V} {t : List Nat} (h : TN H v t) : Dp K H v (dT t) := by
  obtain ⟨a, rfl, ha⟩ := h
  exact .tup ha.sq (dp_nats t)
theorem TNs.dp {K : PySem.W.Frag} {H : Hp} : ∀ {xs : List V} {ts : List (List Nat)}, Paired (TN H) xs ts → DpAll K H xs (ts.map dT)
  | _, _, .nil => .nil
  | _, _, .cons r t => .cons r.dp (TNs.dp t)
theorem TT.dp {K : PySem.W.Frag} {H : Hp} {v : V} {ts : List (List Nat)} (h : TT H v ts) : Dp K H v (.tuple (ts.map dT)) := by
  obtain ⟨a, xs, rfl, ha, p⟩ := h
  exact .tup (SqT.of ha) (TNs.dp p)
theorem LT.dp {K : PySem.W.Frag} {H : Hp} {a : Addr} {ts : List (List Nat)} (h : LT H a ts) : Dp K H (.ref a) (.list (ts.map dT)) := by
  obtain ⟨xs, ha, p⟩ := h
  exact .lst (SqL.of ha) (TNs.dp p)
theorem eqvAll_map {α : Type} [DecidableEq α] {f : α → PyData} (h : ∀ x y, PyData.eqv (f x) (f y) = decide (x = y)) : ∀ xs ys : List α, PyData.eqvAll (xs.map f) (ys.map f) = decide (xs = ys)
  | [], [] => by simp [PyData.eqvAll]
  | [], _ :: _ => by simp [PyData.eqvAll]
  | _ :: _, [] => by simp [PyData.eqvAll]
  | x :: xs, y :: ys => by
    rw [List.map_cons, List.map_cons, PyData.eqvAll, h, eqvAll_map h xs ys]
    by_cases e1 : x = y <;> by_cases e2 : xs = ys <;> simp [e1, e2]
theorem eqv_dN (a b : Nat) : PyData.eqv (dN a) (dN b) = decide (a = b) := by
  show ((a : Int) == (b : Int)) = decide (a = b)
  by_cases e : a = b
  · subst e; simp
  · rw [decide_eq_false e]
    exact beq_eq_false_iff_ne.mpr (by omega)
theorem eqv_dT (s t : List Nat) : PyData.eqv (dT s) (dT t) = decide (s = t) := by
  show PyData.eqvAll (s.map dN) (t.map dN) = _
  exact eqvAll_map eqv_dN s t
theorem eqv_dTT (s t : List (List Nat)) : PyData.eqv (.tuple (s.map dT)) (.tuple (t.map dT)) = decide (s = t) := by
  show PyData.eqvAll (s.map dT) (t.map dT) = _
  exact eqvAll_map eqv_dT s t
theorem depth_nats : ∀ t : List Nat, PyData.depthAll (t.map dN) = 0
  | [] => rfl
  | n :: t => by
    show max (PyData.depth (dN n)) (PyData.depthAll (t.map dN)) = 0
    rw [depth_nats t]
    rfl
theorem can_nats : ∀ t : List Nat, PyData.canLayAll0 (t.map dN) = true
  | [] => rfl
  | n :: t => by
    show (PyData.canLay0 (dN n) && PyData.canLayAll0 (t.map dN)) = true
    rw [can_nats t]
    rfl
theorem depth_turns : ∀ t : List (List Nat), PyData.depthAll (t.map dT) ≤ 1
  | [] => Nat.zero_le _
  | n :: t => by
    show max (PyData.depthAll (n.map dN) + 1) (PyData.depthAll (t.map dT)) ≤ 1
    rw [depth_nats n]
    have := depth_turns t
    omega
theorem can_turns : ∀ t : List (List Nat), PyData.canLayAll0 (t.map dT) = true
  | [] => rfl
  | n :: t => by
    show (PyData.canLayAll0 (n.map dN) && PyData.canLayAll0 (t.map dT)) = true
    rw [can_turns t, can_nats n]
    rfl
theorem sh_T (t : List Nat) : SeqAt.shaped (dT t) = true := by
  show (PyData.canLayAll0 (t.map dN) && decide (PyData.depthAll (t.map dN) + 1 ≤ 64)) = true
  rw [can_nats, depth_nats]
  rfl
theorem sh_TT (t : List (List Nat)) : SeqAt.shaped (.tuple (t.map dT)) = true := by
  show (PyData.canLayAll0 (t.map dT) && decide (PyData.depthAll (t.map dT) + 1 ≤ 64)) = true
  have := depth_turns t
  rw [can_turns, decide_eq_true (by omega)]
  rfl
theorem sh_LT (t : List (List Nat)) : SeqAt.shaped (.list (t.map dT)) = true := sh_TT t
theorem any_dT (ts : List (List Nat)) (t : List Nat) : ((ts.map dT).any fun z => PyData.eqv z (dT t)) = decide (t ∈ ts) := by
  induction ts with
  | nil => simp
  | cons a ts ih =>
    rw [List.map_cons, List.any_cons, ih, eqv_dT]
    by_cases e : a = t
    · subst e; simp
    · have e' : ¬ t = a := fun z => e z.symm
      simp [e, e']

/-! ### defs by name -/
section
variable (P : Program) (w : World) (K : PySem.W.Frag) (mg : Str → Option Value) (base : Heap)
/-- the def x of the module's top keeps the promise sp -/
def Has (CX : CXT) (k : Nat) (x : Str) (ps : List Str) (sp : Sp) : Prop :=
  ∃ (f : Addr) (fd : FuncData), mg x = some (.ref f) ∧ PySem.W.keepIn K (.ref f) = true ∧ Binds K fd ps [] ∧ FnOk P w K mg base CX k f fd ps sp
/-- the def x of the module's top is the statement st -/
def Top (x : Str) (st : Stmt) (ps : List Str) : Prop := ∃ (f : Addr) (fd : FuncData), mg x = some (.ref f) ∧ Fun K x x st f fd ∧ Binds K fd ps []
end
section
variable {P : Program} {w : World} {K : PySem.W.Frag} {mg : Str → Option Value} {base : Heap}
theorem Has.mono {CX : CXT} {j k : Nat} {x : Str} {ps : List Str} {sp : Sp} (h : Has P w K mg base CX j x ps sp) (l : j ≤ k) : Has P w K mg base CX k x ps sp :=
  let ⟨f, fd, a, b, c, d⟩ := h
  ⟨f, fd, a, b, c, d.mono l⟩
theorem Has.imp {CX : CXT} {k : Nat} {x : Str} {ps : List Str} {sp sp' : Sp} (h : Has P w K mg base CX k x ps sp) (i : ∀ vs H Q E, sp' vs H Q E → sp vs H Q E) : Has P w K mg base CX k x ps sp' :=
  let ⟨f, fd, a, b, c, d⟩ := h
  ⟨f, fd, a, b, c, d.imp i⟩
/-- THE RULE for a def that raises nothing -/
theorem Top.ok {x : Str} {st : Stmt} {N ps : List Str} {k : Nat} {sp : Sp} (T : Top K mg x st ps) (S : FnScope N ps (defScope st)) (len : ∀ vs H Q E, sp vs H Q E → vs.length = ps.length)
    (hbody : ∀ (f : Addr) (cdv : Value) (A : Around) (outer : List Env) (s : Shared) (H : Hp) (vs : List V) (Q : VK) (E : XK), Room k (A.deeper (envOfC x (defScope st) s.heap.objs.size f cdv)) → sp vs H Q E →
      ∃ t, PSs (cxOf CX0 P w K mg base N x (defScope st) f cdv A outer s H E).nox (defBody st) t ∧ t { nx := fun _ H' => Q .non H', rt := Q } (start N vs) H) : Has P w K mg base CX0 (k + 1) x ps sp := by
  obtain ⟨f, fd, hm, F, b⟩ := T
  exact ⟨f, fd, hm, F.kp, b, F.ok S len fun cdv A outer s H vs Q E hr h => hbody f cdv A outer s H vs Q E hr h⟩
end
/-- a call of such a def -/
theorem pe_has {X : Cx} {k : Nat} {x : Str} {ps : List Str} {sp : Sp} {e : Expr} {es : List Expr} {t : TA} {p pos : Pos} (h : Has X.prog X.w X.K X.mg X.base CX0 k x ps sp) (hr : Room k X.A) (hg : Gl X x) (ha : PA X (e :: es) t)
    (hdb : (x == ("__debug__" : Str)) = false := by decide) (he : starEach (e :: es) X.env = (false, eval e X.env) :: starEach es X.env := by rfl) (hpl : (backTo pos (starEach es X.env)).any (·.1) = false := by rfl) :
    PE X (.Call (.Name x p) (e :: es) [] pos) (tCall sp [] E0 t) := by
  obtain ⟨f, fd, hm, hk, hb, F⟩ := h
  exact pe_call F hr hg hm hk hb .nil pass0 ha hdb he hpl
end Lt

set_option Elab.async false
set_option linter.all false
set_option maxRecDepth 100000
set_option maxHeartbeats 4000000
/-! errors of the program's own -/
namespace L2
open PySem PySem.Spec PyProof.Rows
section
variable {X : Cx} {pos : Pos}
/-- X(), X an own exception class without own __init__ -/
theorem pmk_own0 {C : Addr} {bmB : List Value} {B newId initId : String} {x : Str} {p : Pos} (F : ExcBaseFacts B newId initId bmB) (q : PySem.W.excIn X.K C bmB newId = true) (gC : X.mg x = some (.ref C))
    (kC : PySem.W.keepIn X.K (.ref C) = true) (r : Raises X (.ref C)) (hg : Gl X x) (hdb : (x == ("__debug__" : Str)) = false := by decide) :
    PMk X (.Call (.Name x p) [] [] pos) (fun _ H Q => Q (.ref C) none H) := by
  intro pins s σ H Q I h
  refine wpAny_Call_Name_kw (ld_glob I hg gC ?_ hdb)
  refine PySem.W.callWith_K0 I.kIn kC ?_
  obtain ⟨bm, N, nm, qn, bs, hdct, sn, sub, ab, col, dd, k0, k1, k2, k3, k5, mN, hC, hN, hni, T⟩ := exc_obj I.kIn q
  exact wpAny_call_exc_subT F T hC hN hni (fun h' e hm => mk_of I hm r h (I.hok.gone hm.new)) (Nat.zero_le _)
end
end L2
namespace Lt
open PySem PySem.Spec PyProof.Rows L2
/-- __init__(self, f): self.f = f -/
def spInit (K : PySem.W.Frag) (fld : Str) : Sp := fun vs H Q _ => ∃ (a C : Addr) (v : V), vs = [.ref a, v] ∧ OexC K C ∧ PySem.W.findIn K (.ref C) fld = some none ∧ H a = some (exo a C none) ∧
  ∀ dx, H dx = none → dx ≠ a → Q .non (upd (upd H dx (exd dx [(fld, v)])) a (exo a C (some dx)))
section
variable (P : Program) (w : World) (K : PySem.W.Frag) (mg : Str → Option Value) (base : Heap)
/-- an own error class with the field fld, set by its __init__ -/
structure ErrI (x fld : Str) (C : Addr) : Prop where
  oex : OexC K C
  g : mg x = some (.ref C)
  no : PySem.W.findIn K (.ref C) fld = some none
  init : ∃ fI fd, PySem.W.findIn K (.ref C) "__init__" = some (some (.ref fI)) ∧ PySem.W.typeIn K (.ref fI) = some (.type "function") ∧ Binds K fd ["self", fld] [] ∧ FnOk P w K mg base CX0 1 fI fd ["self", fld] (spInit K fld)
  xf : XfC K C
  exm : PySem.W.exmOne K (.ref C) (.ref C) = some true
/-- one without -/
structure Err0 (x : Str) (C : Addr) : Prop where
  q : PySem.W.excIn K C [.type "ValueError", .type "Exception", .type "BaseException", .type "object"] "ValueError.__new__" = true
  g : mg x = some (.ref C)
  k : PySem.W.keepIn K (.ref C) = true
  exC : PySem.W.subIn K (.ref C) (.type "BaseException") = some true
  tyC : PySem.W.typeIn K (.ref C) = some (.type "type")
  exm : PySem.W.exmOne K (.ref C) (.ref C) = some true
end
/-- an error with its field lies behind H -/
def BadF (C : Addr) (fld : Str) (v : V) (H : Hp) (E : XK) : Prop := ∀ d H', Same H H' → H' d = some (.xd [(fld, v)]) → E (.ref C) (some d) H'
/-- an error without fields -/
def Bad0 (C : Addr) (H : Hp) (E : XK) : Prop := ∀ H', Same H H' → E (.ref C) none H'
theorem BadF.same {C : Addr} {fld : Str} {v : V} {H H' : Hp} {E : XK} (h : BadF C fld v H E) (s : Same H H') : BadF C fld v H' E := fun d H2 s2 => h d H2 (s.trans s2)
theorem Bad0.same {C : Addr} {H H' : Hp} {E : XK} (h : Bad0 C H E) (s : Same H H') : Bad0 C H' E := fun H2 s2 => h H2 (s.trans s2)
theorem mk_read {K : PySem.W.Frag} {C : Addr} {fld : Str} {v : V} {H1 : Hp} {Q : XK} (oex : OexC K C) (no : PySem.W.findIn K (.ref C) fld = some none) (h : BadF C fld v H1 Q) :
    [v].length ≤ 1000 ∧ ∀ a, H1 a = none → spInit K fld (.ref a :: ([v] ++ [])) (upd H1 a (exo a C none))
      (fun u H2 => u = .non ∧ ∃ (d : Addr) (fs : List (Str × V)), H2 a = some (exo a C (some d)) ∧ H2 d = some (exd d fs) ∧ H1 d = none ∧ Q (.ref C) (some d) (upd (del H2 a) d (.xd fs))) (fun _ _ _ => False) := by
  refine ⟨by show 1 ≤ 1000; omega, fun a ha => ⟨a, C, v, rfl, oex, no, upd_same, fun dx hdx hne => ⟨rfl, dx, [(fld, v)], upd_same, ?_, ?_, ?_⟩⟩⟩
  · rw [upd_ne hne, upd_same]
  · rw [upd_ne hne] at hdx
    exact hdx
  · rw [upd_ne hne] at hdx
    refine h dx _ (fun b o e => ?_) upd_same
    have h1 : b ≠ a := ne_of_none e ha
    have h2 : b ≠ dx := ne_of_none e hdx
    rw [upd_ne h2, del_ne h1, upd_ne h1, upd_ne h2, upd_ne h1]
    exact e
section
variable {X : Cx} {P : Program} {w : World} {K : PySem.W.Frag} {mg : Str → Option Value} {base : Heap}
/-- raise X(e) -/
theorem pmk_errI {x fld : Str} {C : Addr} {e : Expr} {ta : TA} {p pos : Pos} (T : ErrI X.prog X.w X.K X.mg X.base x fld C) (hr : Room 2 X.A) (hg : Gl X x) (ha : PA X [e] ta)
    (hdb : (x == ("__debug__" : Str)) = false := by decide) (he : starEach (e :: []) X.env = (false, eval e X.env) :: starEach [] X.env := by rfl) (hpl : (backTo pos (starEach [] X.env)).any (·.1) = false := by rfl) :
    PMk X (.Call (.Name x p) [e] [] pos) (tMkO C (spInit X.K fld) [] ta) := by
  obtain ⟨fI, fd, iC, tI, b, F⟩ := T.init
  exact pmk_oex T.oex iC tI F hr b .nil pass0 hg T.g ha hdb he hpl
theorem pmk_err0 {x : Str} {C : Addr} {p pos : Pos} (T : Err0 X.K X.mg x C) (hg : Gl X x) (hdb : (x == ("__debug__" : Str)) = false := by decide) :
    PMk X (.Call (.Name x p) [] [] pos) (fun _ H Q => Q (.ref C) none H) := pmk_own0 PySem.F.excBase_ValueError T.q T.g T.k (raises_own T.exC T.tyC) hg hdb
/-- THE RULE for a def that may raise -/
theorem Top.okX {x : Str} {st : Stmt} {N ps : List Str} {k : Nat} {sp : Sp} (T : Top K mg x st ps) (S : FnScope N ps (defScope st)) (len : ∀ vs H Q E, sp vs H Q E → vs.length = ps.length)
    (hbody : ∀ (f : Addr) (cdv : Value) (A : Around) (outer : List Env) (s : Shared) (H : Hp) (vs : List V) (Q : VK) (E : XK), Room k (A.deeper (envOfC x (defScope st) s.heap.objs.size f cdv)) → sp vs H Q E →
      ∃ t, PSs (cxOf (L2.CX P w) P w K mg base N x (defScope st) f cdv A outer s H E) (defBody st) t ∧ t { nx := fun _ H' => Q .non H', rt := Q } (start N vs) H) : Has P w K mg base (L2.CX P w) (k + 1) x ps sp := by
  obtain ⟨f, fd, hm, F, b⟩ := T
  exact ⟨f, fd, hm, F.kp, b, F.okX S len fun cdv A outer s H vs Q E hr h => hbody f cdv A outer s H vs Q E hr h⟩
/-- a call of a def that may raise, in a body that lets it out -/
theorem pe_hasX {k : Nat} {x : Str} {ps : List Str} {sp : Sp} {e : Expr} {es : List Expr} {t : TA} {p pos : Pos} {E : XK} (h : Has X.prog X.w X.K X.mg X.base (L2.CX X.prog X.w) k x ps sp) (hr : Room k X.A) (hg : Gl X x) (hx : Passes (L2.CX X.prog X.w) X E) (ha : PA X (e :: es) t)
    (hdb : (x == ("__debug__" : Str)) = false := by decide) (he : starEach (e :: es) X.env = (false, eval e X.env) :: starEach es X.env := by rfl) (hpl : (backTo pos (starEach es X.env)).any (·.1) = false := by rfl) :
    PE X (.Call (.Name x p) (e :: es) [] pos) (tCall sp [] E t) := by
  obtain ⟨f, fd, hm, hk, hb, F⟩ := h
  exact pe_call F hr hg hm hk hb .nil hx ha hdb he hpl
/-- the same where what is raised is caught around -/
theorem pe_hasS {k : Nat} {x : Str} {ps : List Str} {sp : Sp} {e : Expr} {es : List Expr} {t : TA} {p pos : Pos} {E : L2.St → XK} (h : Has X.prog X.w X.K X.mg X.base (L2.CX X.prog X.w) k x ps sp) (hr : Room k X.A) (hg : Gl X x) (hx : ∀ σ, PassesAt (L2.CX X.prog X.w) X σ (E σ)) (ha : PA X (e :: es) t)
    (hdb : (x == ("__debug__" : Str)) = false := by decide) (he : starEach (e :: es) X.env = (false, eval e X.env) :: starEach es X.env := by rfl) (hpl : (backTo pos (starEach es X.env)).any (·.1) = false := by rfl) :
    PE X (.Call (.Name x p) (e :: es) [] pos) (tCallS sp E t) := by
  obtain ⟨f, fd, hm, hk, hb, F⟩ := h
  exact pe_callS F hr hg hm hk hb hx ha hdb he hpl
end
/-- no error is wished for: the same def as one that raises nothing -/
theorem pe_hasL {X : Cx} {k : Nat} {x : Str} {ps : List Str} {sp : Sp} {e : Expr} {es : List Expr} {t : TA} {p pos : Pos} (h : Has X.prog X.w X.K X.mg X.base (L2.CX X.prog X.w) k x ps sp) (hr : Room k X.A) (hg : Gl X x) (ha : PA X (e :: es) t)
    (hdb : (x == ("__debug__" : Str)) = false := by decide) (he : starEach (e :: es) X.env = (false, eval e X.env) :: starEach es X.env := by rfl) (hpl : (backTo pos (starEach es X.env)).any (·.1) = false := by rfl) :
    PE X (.Call (.Name x p) (e :: es) [] pos) (tCall sp [] E0 t) := pe_hasX h hr hg passL ha hdb he hpl
end Lt

set_option Elab.async false
set_option linter.all false
set_option maxRecDepth 100000
namespace Lt
open PySem PySem.Spec PyProof.Rows L2
def topS (i : Nat) : Stmt := PySem.Challenge.pw_lockturns_k05_bent_formulas.main.body.getD i (.Pass ⟨0, 0, 0, 0⟩)
abbrev s_LockError : Stmt := topS 1
abbrev s_BadSign : Stmt := topS 2
abbrev s_BadNumber : Stmt := topS 3
abbrev s_BadString : Stmt := topS 4
abbrev s_is_number : Stmt := topS 6
abbrev s_table_of : Stmt := topS 12
abbrev s_check_inputs : Stmt := topS 13
abbrev s_input_table : Stmt := topS 14
abbrev s_bits_of : Stmt := topS 15
abbrev s_formula_tree : Stmt := topS 16
abbrev s_placed_words : Stmt := topS 17
abbrev s_tree_from : Stmt := topS 18
abbrev s_expected : Stmt := topS 19
abbrev s_worth_of : Stmt := topS 20
abbrev s_law_taken : Stmt := topS 22
abbrev s_law_pick : Stmt := topS 23
abbrev s_law_tree : Stmt := topS 24
abbrev s_law_spelled : Stmt := topS 25
abbrev s_law_first : Stmt := topS 26
abbrev s_law : Stmt := topS 27
end Lt

set_option linter.all false
set_option Elab.async false
/-! permutations as lists of numbers; the turns that given ones make -/
namespace Lt
def IsP (n : Nat) (t : List Nat) : Prop := t.Perm (List.range n)
instance (n : Nat) (t : List Nat) : Decidable (IsP n t) := inferInstanceAs (Decidable (t.Perm (List.range n)))
theorem IsP.len {n : Nat} {t : List Nat} (h : IsP n t) : t.length = n := by
  have e := List.Perm.length_eq h
  rw [List.length_range] at e
  exact e
theorem IsP.nd {n : Nat} {t : List Nat} (h : IsP n t) : t.Nodup := (List.Perm.nodup_iff h).mpr List.nodup_range
theorem IsP.mem {n : Nat} {t : List Nat} (h : IsP n t) {i : Nat} : i ∈ t ↔ i < n := (List.Perm.mem_iff h).trans List.mem_range
theorem IsP.lt {n : Nat} {t : List Nat} (h : IsP n t) : ∀ i ∈ t, i < n := fun i hi => h.mem.mp hi
theorem IsP.still (n : Nat) : IsP n (List.range n) := List.Perm.refl _
def prod (x y : List Nat) : List Nat := x.map fun i => y.getD i 0
theorem prod_len (x y : List Nat) : (prod x y).length = x.length := List.length_map ..
theorem map_getD_range : ∀ (y : List Nat), (List.range y.length).map (fun i => y.getD i 0) = y := fun y => by
  apply List.ext_getElem?
  intro i
  rw [List.getElem?_map]
  by_cases h : i < y.length
  · rw [List.getElem?_range h, Option.map_some, List.getD_eq_getElem?_getD, List.getElem?_eq_getElem h, Option.getD_some]
  · rw [List.getElem?_eq_none (by rw [List.length_range]; omega), List.getElem?_eq_none (by omega), Option.map_none]
theorem IsP.prod {n : Nat} {x y : List Nat} (hx : IsP n x) (hy : IsP n y) : IsP n (prod x y) := by
  have h : (Lt.prod x y).Perm ((List.range n).map fun i => y.getD i 0) := List.Perm.map _ hx
  have e := map_getD_range y
  rw [hy.len] at e
  rw [e] at h
  exact h.trans hy
theorem prod_still_l {n : Nat} {x : List Nat} (hx : x.length = n) : prod (List.range n) x = x := by
  subst hx
  exact map_getD_range x
theorem getD_range {n i : Nat} (h : i < n) : (List.range n).getD i 0 = i := by
  rw [List.getD_eq_getElem?_getD, List.getElem?_range h, Option.getD_some]
theorem prod_still_r {n : Nat} {x : List Nat} (hx : ∀ i ∈ x, i < n) : prod x (List.range n) = x := by
  unfold prod
  refine (List.map_congr_left (g := id) fun i hi => ?_).trans (List.map_id x)
  exact getD_range (hx i hi)
theorem prod_assoc {x y z : List Nat} (hx : ∀ i ∈ x, i < y.length) : prod (prod x y) z = prod x (prod y z) := by
  unfold prod
  rw [List.map_map]
  refine List.map_congr_left fun i hi => ?_
  show z.getD (y.getD i 0) 0 = (y.map fun i => z.getD i 0).getD i 0
  rw [List.getD_eq_getElem?_getD (l := y.map _), List.getElem?_map, List.getD_eq_getElem?_getD (l := y), List.getElem?_eq_getElem (hx i hi)]
  rfl
def inv (t : List Nat) : List Nat := (List.range t.length).map fun p => t.idxOf p
theorem inv_len (t : List Nat) : (inv t).length = t.length := by
  unfold inv
  rw [List.length_map, List.length_range]
theorem map_idxOf {t : List Nat} (h : t.Nodup) : t.map (fun p => t.idxOf p) = List.range t.length := by
  apply List.ext_getElem?
  intro i
  rw [List.getElem?_map]
  by_cases hi : i < t.length
  · rw [List.getElem?_range hi, List.getElem?_eq_getElem hi, Option.map_some, h.idxOf_getElem i hi]
  · rw [List.getElem?_eq_none (by omega), List.getElem?_eq_none (by rw [List.length_range]; omega), Option.map_none]
theorem IsP.inv {n : Nat} {t : List Nat} (h : IsP n t) : IsP n (inv t) := by
  have e := map_idxOf h.nd
  rw [h.len] at e
  have h2 : ((List.range n).map fun p => t.idxOf p).Perm (t.map fun p => t.idxOf p) := List.Perm.map _ (List.Perm.symm h)
  rw [e] at h2
  unfold IsP Lt.inv
  rw [h.len]
  exact h2
theorem prod_inv_r {n : Nat} {t : List Nat} (h : IsP n t) : prod t (inv t) = List.range n := by
  have e : prod t (inv t) = t.map fun p => t.idxOf p := by
    unfold prod
    refine List.map_congr_left fun p hp => ?_
    have hl : p < t.length := by rw [h.len]; exact h.lt p hp
    show ((List.range t.length).map fun p => t.idxOf p).getD p 0 = t.idxOf p
    rw [List.getD_eq_getElem?_getD, List.getElem?_map, List.getElem?_range hl]
    rfl
  rw [e, map_idxOf h.nd, h.len]
theorem prod_inv_l {n : Nat} {t : List Nat} (h : IsP n t) : prod (inv t) t = List.range n := by
  unfold prod inv
  rw [List.map_map, h.len]
  refine (List.map_congr_left (g := id) fun p hp => ?_).trans (List.map_id _)
  have hm : p ∈ t := h.mem.mpr (List.mem_range.mp hp)
  show t.getD (t.idxOf p) 0 = p
  rw [List.getD_eq_getElem?_getD, List.getElem?_eq_getElem (List.idxOf_lt_length_of_mem hm), Option.getD_some, List.getElem_idxOf]
theorem inv_unique {n : Nat} {a b : List Nat} (ha : IsP n a) (hb : IsP n b) (h : prod a b = List.range n) : b = inv a := by
  have h1 : prod (prod (inv a) a) b = prod (inv a) (prod a b) := prod_assoc fun i hi => by rw [ha.len]; exact ha.inv.lt i hi
  rw [prod_inv_l ha, h, prod_still_l hb.len, prod_still_r ha.inv.lt] at h1
  exact h1
theorem inv_prod {n : Nat} {a b : List Nat} (ha : IsP n a) (hb : IsP n b) : inv (prod a b) = prod (inv b) (inv a) := by
  refine (inv_unique (ha.prod hb) (hb.inv.prod ha.inv) ?_).symm
  rw [prod_assoc fun i hi => by rw [hb.len]; exact ha.lt i hi]
  rw [← prod_assoc (x := b) fun i hi => by rw [hb.inv.len]; exact hb.lt i hi, prod_inv_r hb, prod_still_l ha.inv.len, prod_inv_r ha]
/-! ### the turns that makers make, one behind another -/
abbrev W := List Nat × List Nat
/-- the words behind one turn with the makers gs, the first of which stands at place p -/
def grow (t w : List Nat) : List (List Nat) → Nat → List W → List W
  | [], _, L => L
  | g :: gs, p, L => grow t w gs (p + 1) (if prod t g ∈ L.map (·.1) then L else L ++ [(prod t g, w ++ [p])])
/-- the words when the first k have been gone through -/
def qq (gs : List (List Nat)) (n : Nat) : Nat → List W
  | 0 => [(List.range n, [])]
  | k + 1 => match (qq gs n k)[k]? with
    | none => qq gs n k
    | some (t, w) => grow t w gs 0 (qq gs n k)
theorem grow_pre (t w : List Nat) : ∀ (gs : List (List Nat)) (p : Nat) (L : List W), ∃ M, grow t w gs p L = L ++ M
  | [], _, L => ⟨[], (List.append_nil L).symm⟩
  | g :: gs, p, L => by
    show ∃ M, grow t w gs (p + 1) (if prod t g ∈ L.map (·.1) then L else L ++ [(prod t g, w ++ [p])]) = L ++ M
    split
    · exact grow_pre t w gs (p + 1) L
    · obtain ⟨M, e⟩ := grow_pre t w gs (p + 1) (L ++ [(prod t g, w ++ [p])])
      exact ⟨[(prod t g, w ++ [p])] ++ M, by rw [e, List.append_assoc]⟩
theorem qq_pre (gs : List (List Nat)) (n : Nat) : ∀ k, ∃ M, qq gs n (k + 1) = qq gs n k ++ M := fun k => by
  show ∃ M, (match (qq gs n k)[k]? with
    | none => qq gs n k
    | some (t, w) => grow t w gs 0 (qq gs n k)) = qq gs n k ++ M
  split
  · exact ⟨[], (List.append_nil _).symm⟩
  · exact grow_pre _ _ _ _ _
theorem qq_pre' (gs : List (List Nat)) (n k : Nat) : ∀ j, ∃ M, qq gs n (k + j) = qq gs n k ++ M
  | 0 => ⟨[], (List.append_nil _).symm⟩
  | j + 1 => by
    obtain ⟨M, e⟩ := qq_pre' gs n k j
    obtain ⟨M', e'⟩ := qq_pre gs n (k + j)
    exact ⟨M ++ M', by rw [← List.append_assoc, ← e, ← e']; rfl⟩
theorem qq_mono (gs : List (List Nat)) (n : Nat) {k m : Nat} (h : k ≤ m) : ∃ M, qq gs n m = qq gs n k ++ M := by
  obtain ⟨M, e⟩ := qq_pre' gs n k (m - k)
  rw [show k + (m - k) = m by omega] at e
  exact ⟨M, e⟩
/-- at the end nothing more comes -/
theorem qq_end (gs : List (List Nat)) (n : Nat) {k : Nat} (h : (qq gs n k).length ≤ k) : ∀ j, qq gs n (k + j) = qq gs n k
  | 0 => rfl
  | j + 1 => by
    have ih := qq_end gs n h j
    show (match (qq gs n (k + j))[k + j]? with
      | none => qq gs n (k + j)
      | some (t, w) => grow t w gs 0 (qq gs n (k + j))) = qq gs n k
    rw [ih, List.getElem?_eq_none (by omega)]
theorem qq_end' (gs : List (List Nat)) (n : Nat) {k m : Nat} (h : (qq gs n k).length ≤ k) (hm : k ≤ m) : qq gs n m = qq gs n k := by
  have e := qq_end gs n h (m - k)
  rw [show k + (m - k) = m by omega] at e
  exact e
theorem grow_keys (t w : List Nat) : ∀ (gs : List (List Nat)) (p : Nat) (L : List W) (x : List Nat), x ∈ (grow t w gs p L).map (·.1) ↔ x ∈ L.map (·.1) ∨ ∃ g ∈ gs, x = prod t g
  | [], _, L, x => by
    show x ∈ L.map (·.1) ↔ _
    simp
  | g :: gs, p, L, x => by
    show x ∈ (grow t w gs (p + 1) (if prod t g ∈ L.map (·.1) then L else L ++ [(prod t g, w ++ [p])])).map (·.1) ↔ _
    rw [grow_keys t w gs (p + 1)]
    split
    · rename_i h
      constructor
      · rintro (h1 | ⟨g', hg, e⟩)
        · exact .inl h1
        · exact .inr ⟨g', List.mem_cons_of_mem _ hg, e⟩
      · rintro (h1 | ⟨g', hg, e⟩)
        · exact .inl h1
        · rcases List.mem_cons.mp hg with z | hg
          · subst z
            rw [e]
            exact .inl h
          · exact .inr ⟨g', hg, e⟩
    · rw [List.map_append, List.mem_append]
      constructor
      · rintro ((h1 | h1) | ⟨g', hg, e⟩)
        · exact .inl h1
        · exact .inr ⟨g, List.mem_cons_self, List.mem_singleton.mp h1⟩
        · exact .inr ⟨g', List.mem_cons_of_mem _ hg, e⟩
      · rintro (h1 | ⟨g', hg, e⟩)
        · exact .inl (.inl h1)
        · rcases List.mem_cons.mp hg with z | hg
          · subst z
            exact .inl (.inr (List.mem_singleton.mpr e))
          · exact .inr ⟨g', hg, e⟩
theorem nodup_snoc {α : Type} {l : List α} {x : α} (h : l.Nodup) (hx : x ∉ l) : (l ++ [x]).Nodup :=
  List.nodup_append.mpr ⟨h, List.pairwise_singleton _ _, fun a ha b hb e => by
    rw [List.mem_singleton.mp hb] at e
    exact hx (e ▸ ha)⟩
theorem grow_nd (t w : List Nat) : ∀ (gs : List (List Nat)) (p : Nat) (L : List W), (L.map (·.1)).Nodup → ((grow t w gs p L).map (·.1)).Nodup
  | [], _, _, h => h
  | g :: gs, p, L, h => by
    refine grow_nd t w gs (p + 1) _ ?_
    split
    · exact h
    · rename_i hx
      rw [List.map_append]
      exact nodup_snoc h hx
theorem qq_nd (gs : List (List Nat)) (n : Nat) : ∀ k, ((qq gs n k).map (·.1)).Nodup
  | 0 => List.pairwise_singleton _ _
  | k + 1 => by
    show ((match (qq gs n k)[k]? with
      | none => qq gs n k
      | some (t, w) => grow t w gs 0 (qq gs n k)).map (fun x : W => x.1)).Nodup
    split
    · exact qq_nd gs n k
    · exact grow_nd _ _ _ _ _ (qq_nd gs n k)
/-- what the makers make -/
inductive Mk (gs : List (List Nat)) (n : Nat) : List Nat → Prop
  | still : Mk gs n (List.range n)
  | step {t g : List Nat} : Mk gs n t → g ∈ gs → Mk gs n (prod t g)
theorem Mk.isP {gs : List (List Nat)} {n : Nat} (hg : ∀ g ∈ gs, IsP n g) {t : List Nat} (h : Mk gs n t) : IsP n t := by
  induction h with
  | still => exact IsP.still n
  | step _ hm ih => exact ih.prod (hg _ hm)
theorem qq_mk (gs : List (List Nat)) (n : Nat) : ∀ k, ∀ t ∈ (qq gs n k).map (·.1), Mk gs n t
  | 0, t, h => by
    rw [List.mem_singleton.mp (show t ∈ [List.range n] from h)]
    exact .still
  | k + 1, t, h => by
    have ih := qq_mk gs n k
    have h' : t ∈ (match (qq gs n k)[k]? with
      | none => qq gs n k
      | some (t, w) => grow t w gs 0 (qq gs n k)).map (fun x : W => x.1) := h
    split at h'
    · exact ih t h'
    · rename_i t0 w0 e
      rcases (grow_keys t0 w0 gs 0 _ t).mp h' with z | ⟨g, hg, z⟩
      · exact ih t z
      · rw [z]
        exact .step (ih t0 (List.mem_map.mpr ⟨_, List.mem_of_getElem? e, rfl⟩)) hg
theorem qq_head (gs : List (List Nat)) (n k : Nat) : (List.range n, ([] : List Nat)) ∈ qq gs n k := by
  obtain ⟨M, e⟩ := qq_mono gs n (Nat.zero_le k)
  rw [e]
  exact List.mem_append.mpr (.inl (List.mem_singleton.mpr rfl))
/-- where the words are all gone through, they are all that is made -/
theorem qq_full {gs : List (List Nat)} {n k : Nat} (h : (qq gs n k).length ≤ k) : ∀ t, t ∈ (qq gs n k).map (·.1) ↔ Mk gs n t := fun t => by
  refine ⟨qq_mk gs n k t, fun m => ?_⟩
  induction m with
  | still => exact List.mem_map.mpr ⟨_, qq_head gs n k, rfl⟩
  | @step t g _ hg ih =>
    obtain ⟨⟨t', w'⟩, hm, e⟩ := List.mem_map.mp ih
    have e : t' = t := e
    subst e
    obtain ⟨i, hi, ei⟩ := List.getElem_of_mem hm
    -- position i was gone through at turn i
    have hk : i + 1 ≤ k := by omega
    obtain ⟨M, eM⟩ := qq_mono gs n hk
    obtain ⟨M0, eM0⟩ := qq_mono gs n (show i ≤ i + 1 by omega)
    by_cases hq : i < (qq gs n i).length
    · have g1 : (qq gs n i)[i]? = some (t', w') := by
        have z : (qq gs n k)[i]? = some (t', w') := by rw [List.getElem?_eq_getElem hi, ei]
        rw [eM, eM0, List.append_assoc, List.getElem?_append_left hq] at z
        exact z
      have g2 : qq gs n (i + 1) = grow t' w' gs 0 (qq gs n i) := by
        show (match (qq gs n i)[i]? with
          | none => qq gs n i
          | some (t, w) => grow t w gs 0 (qq gs n i)) = _
        rw [g1]
      rw [eM, List.map_append, List.mem_append]
      refine .inl ?_
      rw [g2]
      exact (grow_keys t' w' gs 0 _ _).mpr (.inr ⟨g, hg, rfl⟩)
    · have z := qq_end' gs n (show (qq gs n i).length ≤ i by omega) (show i ≤ k by omega)
      rw [z] at hi
      exact absurd hi hq
theorem nodup_len {α : Type} [DecidableEq α] : ∀ (l D : List α), l.Nodup → (∀ x ∈ l, x ∈ D) → l.length ≤ D.length
  | [], _, _, _ => Nat.zero_le _
  | x :: l, D, hn, hs => by
    obtain ⟨h1, h2⟩ := List.nodup_cons.mp hn
    have hx : x ∈ D := hs x List.mem_cons_self
    have ih := nodup_len l (D.erase x) h2 fun y hy => by
      have hne : y ≠ x := fun e => h1 (e ▸ hy)
      exact (List.mem_erase_of_ne hne).2 (hs y (List.mem_cons_of_mem _ hy))
    have e := List.length_erase_of_mem hx
    have hp : 0 < D.length := List.length_pos_of_mem hx
    show l.length + 1 ≤ D.length
    omega
/-- few turns are made: at most m -/
def Few (gs : List (List Nat)) (n m : Nat) : Prop := ∃ D : List (List Nat), D.length ≤ m ∧ ∀ t, Mk gs n t → t ∈ D
theorem Few.le {gs : List (List Nat)} {n m : Nat} (h : Few gs n m) {l : List (List Nat)} (hn : l.Nodup) (hl : ∀ t ∈ l, Mk gs n t) : l.length ≤ m := by
  obtain ⟨D, h1, h2⟩ := h
  exact Nat.le_trans (nodup_len l D hn fun t ht => h2 t (hl t ht)) h1
theorem Few.qq {gs : List (List Nat)} {n m : Nat} (h : Few gs n m) (k : Nat) : (qq gs n k).length ≤ m := by
  have z := h.le (qq_nd gs n k) (qq_mk gs n k)
  rw [List.length_map] at z
  exact z
end Lt

set_option Elab.async false
set_option linter.all false
set_option maxRecDepth 100000
set_option maxHeartbeats 4000000
namespace Lt
open PySem PySem.Spec PyProof.Rows L2
/-- the built-in names that the module leaves as they are -/
structure Bi (mg : Str → Option Value) : Prop where
  tuple : mg "tuple" = none
  list : mg "list" = none
  range : mg "range" = none
  len : mg "len" = none
  sorted : mg "sorted" = none
  enumerate : mg "enumerate" = none
  isinstance : mg "isinstance" = none
  all : mg "all" = none
  set : mg "set" = none
  int : mg "int" = none
  bool : mg "bool" = none
  str : mg "str" = none
/-! ### comprehensions -/
section
variable {K : PySem.W.Frag} {te : TE} {vs : List Nat} {σ : L2.St} {H1 : Hp} {D : Addr} {Qd : Hp → Prop} {β : Type} {j : Nat}
/-- what a comprehension's list holds after i turns -/
def Cm (H1 : Hp) (D : Addr) (R : Hp → V → β → Prop) (ys : List β) (i : Nat) (H : Hp) : Prop := Same H1 H ∧ ∃ zs, H D = some (.lst zs) ∧ Paired (R H) zs (ys.take i) ∧ zs.length ≤ i
theorem paired_mono {α γ : Type} {R R' : α → γ → Prop} (h : ∀ a b, R a b → R' a b) : ∀ {xs : List α} {ys : List γ}, Paired R xs ys → Paired R' xs ys
  | _, _, .nil => .nil
  | _, _, .cons r t => .cons (h _ _ r) (paired_mono h t)
theorem cm_turn {R : Hp → V → β → Prop} {ys : List β} {i : Nat} {H : Hp} {σ2 : L2.St} (mono : ∀ H H' v b, Tm H H' → R H v b → R H' v b) (hD : H1 D = none) (p : Cm H1 D R ys i H) (hi : i < 100000) {b : β} (hb : ys[i]? = some b)
    (he : ∀ H, Same H1 H → ∀ Q : VK, (∀ v H', Same H H' → R H' v b → Q v H') → te σ2 H Q) :
    te σ2 H fun y H4 => ∃ acc, H4 D = some (.lst acc) ∧ acc.length < sizeLine ∧ Cm H1 D R ys (i + 1) (upd H4 D (.lst (acc ++ [y]))) := by
  obtain ⟨sm, zs, hz, pr, hl⟩ := p
  refine he H sm _ fun v H4 s4 r => ?_
  have h4 := s4 _ _ hz
  have t4 : Tm H4 (upd H4 D (.lst (zs ++ [v]))) := Tm.lst h4
  refine ⟨zs, h4, Nat.lt_of_le_of_lt hl (Nat.lt_of_lt_of_le hi (by decide)), same_mut (sm.trans s4) hD, zs ++ [v], upd_same, ?_, by rw [List.length_append]; show zs.length + 1 ≤ i + 1; omega⟩
  rw [List.take_add_one, hb]
  exact Paired.app (paired_mono (fun a b q => mono _ _ _ _ ((Tm.of s4).trans t4) q) pr) (Paired.one (mono _ _ _ _ t4 r))
theorem lc_tupM {a : Addr} {xs : List V} (R : Hp → V → β → Prop) (ys : List β) (mono : ∀ H H' v b, Tm H H' → R H v b → R H' v b) (hx : SqT K H1 a xs) (hxK : ∀ H, Same H1 H → SqT K H a xs) (hz : xs.length ≤ 100000) (hy : ys.length = xs.length) (hD : H1 D = none)
    (hw : ∀ x, wipe ((wipe σ vs).set j (some x)) vs = wipe σ vs)
    (he : ∀ (i : Nat) (x : V) (b : β), xs[i]? = some x → ys[i]? = some b → ∀ H, Same H1 H → ∀ Q : VK, (∀ v H', Same H H' → R H' v b → Q v H') → te ((wipe σ vs).set j (some x)) H Q)
    (hd : ∀ H zs, Same H1 H → H D = some (.lst zs) → Paired (R H) zs ys → Qd H) :
    ∃ W : Nat → Nat → Hp → Prop, (∃ m, W 0 m (upd H1 D (.lst []))) ∧ ∀ i m H, W i m H →
      ((Itt K a).stop i H ∧ Qd H) ∨ ((Itt K a).go i H ∧ ∃ Nx : Hp → Prop, (∀ H', Nx H' → ∃ m', m' < m ∧ W (i + 1) m' H') ∧ ∀ x H', (Itt K a).yld i H x H' → gName j x (wipe σ vs) H' fun σ2 H2 => wipe σ2 vs = wipe σ vs ∧ tYes σ2 H2 fun b H3 =>
        if b = true then te σ2 H3 fun y H4 => ∃ acc, H4 D = some (.lst acc) ∧ acc.length < sizeLine ∧ Nx (upd H4 D (.lst (acc ++ [y]))) else Nx H3) :=
  lc_tup (xs := xs) (Cm H1 D R ys) ⟨same_new hD, [], upd_same, .nil, Nat.le_refl _⟩ (fun i H _ p => hxK H p.1)
    (fun i x H hi p => ⟨hw x, iteT (B := Cm H1 D R ys (i + 1) H) (by
      have hl := (List.getElem?_eq_some_iff.mp hi).1
      have hb : ys[i]? = some (ys[i]'(by omega)) := List.getElem?_eq_getElem (by omega)
      exact cm_turn mono hD p (by omega) hb (he i x _ hi hb))⟩)
    (fun H p => by
      obtain ⟨sm, zs, h1, pr, _⟩ := p
      rw [← hy, List.take_length] at pr
      exact hd H zs sm h1 pr)
theorem lc_listM {a : Addr} {xs : List V} (R : Hp → V → β → Prop) (ys : List β) (mono : ∀ H H' v b, Tm H H' → R H v b → R H' v b) (hxK : ∀ H, Same H1 H → SqL K H a xs) (hz : xs.length ≤ 100000) (hy : ys.length = xs.length) (hD : H1 D = none)
    (hw : ∀ x, wipe ((wipe σ vs).set j (some x)) vs = wipe σ vs)
    (he : ∀ (i : Nat) (x : V) (b : β), xs[i]? = some x → ys[i]? = some b → ∀ H, Same H1 H → ∀ Q : VK, (∀ v H', Same H H' → R H' v b → Q v H') → te ((wipe σ vs).set j (some x)) H Q)
    (hd : ∀ H zs, Same H1 H → H D = some (.lst zs) → Paired (R H) zs ys → Qd H) :
    ∃ W : Nat → Nat → Hp → Prop, (∃ m, W 0 m (upd H1 D (.lst []))) ∧ ∀ i m H, W i m H →
      ((Itl K a).stop i H ∧ Qd H) ∨ ((Itl K a).go i H ∧ ∃ Nx : Hp → Prop, (∀ H', Nx H' → ∃ m', m' < m ∧ W (i + 1) m' H') ∧ ∀ x H', (Itl K a).yld i H x H' → gName j x (wipe σ vs) H' fun σ2 H2 => wipe σ2 vs = wipe σ vs ∧ tYes σ2 H2 fun b H3 =>
        if b = true then te σ2 H3 fun y H4 => ∃ acc, H4 D = some (.lst acc) ∧ acc.length < sizeLine ∧ Nx (upd H4 D (.lst (acc ++ [y]))) else Nx H3) :=
  lc_list (xs := xs) (Cm H1 D R ys) ⟨same_new hD, [], upd_same, .nil, Nat.le_refl _⟩ (fun i H _ p => hxK H p.1)
    (fun i x H hi p => ⟨hw x, iteT (B := Cm H1 D R ys (i + 1) H) (by
      have hl := (List.getElem?_eq_some_iff.mp hi).1
      have hb : ys[i]? = some (ys[i]'(by omega)) := List.getElem?_eq_getElem (by omega)
      exact cm_turn mono hD p (by omega) hb (he i x _ hi hb))⟩)
    (fun H p => by
      obtain ⟨sm, zs, h1, pr, _⟩ := p
      rw [← hy, List.take_length] at pr
      exact hd H zs sm h1 pr)
theorem lc_rangeM {n : Nat} (R : Hp → V → β → Prop) (ys : List β) (mono : ∀ H H' v b, Tm H H' → R H v b → R H' v b) (hz : n ≤ 100000) (hy : ys.length = n) (hD : H1 D = none)
    (hw : ∀ x, wipe ((wipe σ vs).set j (some x)) vs = wipe σ vs)
    (he : ∀ (i : Nat) (b : β), i < n → ys[i]? = some b → ∀ H, Same H1 H → ∀ Q : VK, (∀ v H', Same H H' → R H' v b → Q v H') → te ((wipe σ vs).set j (some (.int ((0 : Int) + (i : Nat))))) H Q)
    (hd : ∀ H zs, Same H1 H → H D = some (.lst zs) → Paired (R H) zs ys → Qd H) :
    ∃ W : Nat → Nat → Hp → Prop, (∃ m, W 0 m (upd H1 D (.lst []))) ∧ ∀ i m H, W i m H →
      ((Itr 0 n).stop i H ∧ Qd H) ∨ ((Itr 0 n).go i H ∧ ∃ Nx : Hp → Prop, (∀ H', Nx H' → ∃ m', m' < m ∧ W (i + 1) m' H') ∧ ∀ x H', (Itr 0 n).yld i H x H' → gName j x (wipe σ vs) H' fun σ2 H2 => wipe σ2 vs = wipe σ vs ∧ tYes σ2 H2 fun b H3 =>
        if b = true then te σ2 H3 fun y H4 => ∃ acc, H4 D = some (.lst acc) ∧ acc.length < sizeLine ∧ Nx (upd H4 D (.lst (acc ++ [y]))) else Nx H3) :=
  lc_range (lo := 0) (n := n) (Cm H1 D R ys) ⟨same_new hD, [], upd_same, .nil, Nat.le_refl _⟩
    (fun i H hi p => ⟨hw _, iteT (B := Cm H1 D R ys (i + 1) H) (by
      have hb : ys[i]? = some (ys[i]'(by omega)) := List.getElem?_eq_getElem (by omega)
      exact cm_turn mono hD p (by omega) hb (he i _ hi hb))⟩)
    (fun H p => by
      obtain ⟨sm, zs, h1, pr, _⟩ := p
      rw [← hy, List.take_length] at pr
      exact hd H zs sm h1 pr)
end
/-- a new tuple of numbers -/
theorem tn_of {H : Hp} {zs : List V} {p : Addr} {t : List Nat} (h : H p = some (.tup zs)) (e : zs = nIs t) : TK H (.ref p) t := ⟨p, rfl, by rw [h, e]⟩
def RN (_ : Hp) (v : V) (n : Nat) : Prop := v = nI n
theorem RN.all {H : Hp} : ∀ {zs : List V} {t : List Nat}, Paired (RN H) zs t → zs = nIs t
  | _, _, .nil => rfl
  | _, _, .cons r t => by rw [(show _ = nI _ from r), RN.all t]; rfl
end Lt

set_option Elab.async false
set_option linter.all false
set_option maxRecDepth 100000
set_option maxHeartbeats 2000000
namespace Lt
open PySem PySem.Spec PyProof.Rows L2
def Cn (mg : Str → Option Value) (x : Str) (i : Int) : Prop := ∃ t, mg x = some (.int i t)
/-- a name of a text -/
def Cs (mg : Str → Option Value) (x z : Str) : Prop := ∃ t, mg x = some (.str z t)
/-- a name of a tuple of texts -/
def Ct (K : PySem.W.Frag) (mg : Str → Option Value) (x : Str) (zs : List Str) : Prop := ∃ J : Addr, mg x = some (.ref J) ∧ ∀ H, SqT K H J (zs.map V.str)
def clsB : Stmt → List Stmt
  | .ClassDef _ _ _ b _ _ _ _ _ _ _ => b
  | _ => []
def initS (st : Stmt) : Stmt := (clsB st).getD 0 (.Pass ⟨0, 0, 0, 0⟩)
section
variable {P : Program} {w : World} {K : PySem.W.Frag} {mg : Str → Option Value} {base : Heap}
theorem init_BadSign {fI : Addr} {fd : FuncData} (F : Fun K "__init__" "BadSign.__init__" (initS s_BadSign) fI fd) : FnOk P w K mg base CX0 1 fI fd ["self", "place"] (spInit K "place") := by
  refine F.ok (N := ["self", "place"]) ⟨rfl, rfl, rfl, by decide +kernel, rfl, by decide +kernel, by decide +kernel⟩ (fun vs H Q E h => ?_) (fun cdv A outer s H vs Q E hr h => ?_)
  · obtain ⟨a, C, v, rfl, _⟩ := h
    rfl
  · obtain ⟨a, C, v, rfl, ox, no, ha, q⟩ := h
    exact ⟨_, pss_one (ps_ost (pv 0) (pv 1)), _, rfl, _, rfl, a, C, rfl, ox, no, .inl ⟨ha, fun dx h1 h2 => q dx h1 h2⟩⟩
/-- a class's own line: an error is what «except» of its class names -/
theorem exm_own {S : Addr} (h1 : PySem.W.subIn K (.ref S) (.type "BaseException") = some true) (h2 : PySem.W.isClsIn K S = true) (h3 : PySem.W.typeIn K (.ref S) = some (.type "type")) (h4 : PySem.W.subIn K (.ref S) (.ref S) = some true) : PySem.W.exmOne K (.ref S) (.ref S) = some true := by
  have i2 : (PySem.W.clsIn K S).isSome = true := h2
  have a : (if ((PySem.W.clsIn K S).isSome && PySem.W.typeIn K (.ref S) == some (.type "type")) = true then PySem.W.subIn K (.ref S) (.ref S) else none) = some true := by
    rw [if_pos (by rw [i2, h3]; rfl)]
    exact h4
  have b : (PySem.W.subIn K (.ref S) (.type "BaseException") == some true) = true := by
    rw [h1]
    rfl
  exact (if_pos b).trans a
structure ErrFs (K : PySem.W.Frag) (mg : Str → Option Value) (x fld : Str) (C : Addr) (st : Stmt) : Prop where
  g : mg x = some (.ref C)
  cls : ∃ nm q N bs bm sn sub ab col dd k0 k1 k2 k3 k5, K.lookup C = some (excClassObj nm q C N bs bm true sn sub ab col dd k0 k1 k2 k3 k5 "ValueError.__new__") ∧ PySem.HandSPX.refsVE bm = true
  sa : PySem.W.findIn K (.ref C) "__setattr__" = some (some (.builtin "object.__setattr__"))
  ga : PySem.W.findIn K (.ref C) "__getattribute__" = some (some (.builtin "BaseException.__getattribute__"))
  gg : PySem.W.findIn K (.ref C) "__getattr__" = some none
  no : PySem.W.findIn K (.ref C) fld = some none
  kC : PySem.W.keepIn K (.ref C) = true
  eC : PySem.W.subIn K (.ref C) (.type "BaseException") = some true
  tC : PySem.W.typeIn K (.ref C) = some (.type "type")
  hC : PySem.W.hasDictIn K C = true
  iC : PySem.W.isClsIn K C = true
  sC : PySem.W.subIn K (.ref C) (.ref C) = some true
  init : ∃ fI fd, PySem.W.findIn K (.ref C) "__init__" = some (some (.ref fI)) ∧ PySem.W.typeIn K (.ref fI) = some (.type "function") ∧ Binds K fd ["self", fld] [] ∧ Fun K "__init__" (x ++ ".__init__") (initS st) fI fd
theorem ErrFs.errI {x fld : Str} {C : Addr} {st : Stmt} (F : ErrFs K mg x fld C st) (ok : ∀ {fI fd}, Fun K "__init__" (x ++ ".__init__") (initS st) fI fd → FnOk P w K mg base CX0 1 fI fd ["self", fld] (spInit K fld)) : ErrI P w K mg base x fld C := by
  obtain ⟨fI, fd, h1, h2, h3, h4⟩ := F.init
  exact ⟨⟨F.cls, F.sa, F.eC, F.tC, F.kC⟩, F.g, F.no, ⟨fI, fd, h1, h2, h3, ok h4⟩, ⟨F.ga, F.gg, F.eC, F.hC⟩, exm_own F.eC F.iC F.tC F.sC⟩
end
theorem top_mk {K : PySem.W.Frag} {h : Heap} {mg : Str → Option Value} {x : Str} {st : Stmt} {ps : List Str} {f : Addr} {oc kV doc pm cdv ct : Value} {od an : Option Addr} {osl : Array (Option Value)} (X : K.In h) (G : h.Ns mainGlobals mg)
    (a : PySem.W.nsIn K mainGlobals x = some (some (.ref f))) (l : K.lookup f = some ⟨oc, od, .func (PySem.W.fnOf x x (defArgs st) (defBody st) (defScope st) .none kV doc pm an cdv ct), osl⟩) (c : PySem.W.codeIn K cdv x = true) (k : PySem.W.keepIn K (.ref f) = true)
    (hb : ∀ (kV doc pm : Value) (an : Option Addr) (cdv ct : Value) (us : List Value), us.length = ps.length → bindArgs (PySem.W.fnOf x x (defArgs st) (defBody st) (defScope st) .none kV doc pm an cdv ct) ⟨us, []⟩ = pure (ps.zip us)) : Top K mg x st ps :=
  ⟨f, _, PySem.W.mg_of X G a, fun_mk l c k, (fun_mk l c k).binds hb⟩
abbrev TopX {K : PySem.W.Frag} {h : Heap} (_ : K.In h) (mg : Str → Option Value) (x : Str) (st : Stmt) (ps : List Str) : Prop := Top K mg x st ps
abbrev CtX {K : PySem.W.Frag} {h : Heap} (_ : K.In h) (mg : Str → Option Value) (x : Str) (zs : List Str) : Prop := Ct K mg x zs
abbrev ErrX {K : PySem.W.Frag} {h : Heap} (_ : K.In h) (mg : Str → Option Value) (x fld : Str) (C : Addr) (st : Stmt) : Prop := ErrFs K mg x fld C st
abbrev NoX {K : PySem.W.Frag} {h : Heap} (_ : K.In h) (mg : Str → Option Value) (x : Str) (C : Addr) : Prop := Err0 K mg x C
theorem cn_mk {K : PySem.W.Frag} {h : Heap} {mg : Str → Option Value} {x : Str} {i : Int} {v : Value} (X : K.In h) (G : h.Ns mainGlobals mg) (a : PySem.W.nsIn K mainGlobals x = some (some v)) (b : ∃ t, v = .int i t) : Cn mg x i := by
  obtain ⟨t, rfl⟩ := b
  exact ⟨t, PySem.W.mg_of X G a⟩
theorem cs_mk {K : PySem.W.Frag} {h : Heap} {mg : Str → Option Value} {x z : Str} {v : Value} (X : K.In h) (G : h.Ns mainGlobals mg) (a : PySem.W.nsIn K mainGlobals x = some (some v)) (b : ∃ t, v = .str z t) : Cs mg x z := by
  obtain ⟨t, rfl⟩ := b
  exact ⟨t, PySem.W.mg_of X G a⟩
theorem ct_mk {K : PySem.W.Frag} {h : Heap} {mg : Str → Option Value} {x : Str} {zs : List Str} {J : Addr} {o : Obj} (X : K.In h) (G : h.Ns mainGlobals mg) (a : PySem.W.nsIn K mainGlobals x = some (some (.ref J))) (l : K.lookup J = some o)
    (b : ∃ (its : Array Value) (n : Nat), o.cls = .type "tuple" ∧ o.data = .seq its n ∧ its.size ≤ sizeLine ∧ Vals (zs.map V.str) its.toList) : Ct K mg x zs := by
  obtain ⟨its, n, h1, h2, h3, h4⟩ := b
  exact ⟨J, PySem.W.mg_of X G a, fun H => .inr ⟨o, its, n, l, h1, h2, h3, h4⟩⟩
theorem init_mk {K : PySem.W.Frag} {x fld : Str} {C fI : Addr} {st : Stmt} {oc kV doc pm cdv ct : Value} {od an : Option Addr} {osl : Array (Option Value)} (a : PySem.W.findIn K (.ref C) "__init__" = some (some (.ref fI))) (t : PySem.W.typeIn K (.ref fI) = some (.type "function"))
    (l : K.lookup fI = some ⟨oc, od, .func (PySem.W.fnOf "__init__" (x ++ ".__init__") (defArgs (initS st)) (defBody (initS st)) (defScope (initS st)) .none kV doc pm an cdv ct), osl⟩) (c : PySem.W.codeIn K cdv (x ++ ".__init__") = true) (k : PySem.W.keepIn K (.ref fI) = true)
    (hb : ∀ (kV doc pm : Value) (an : Option Addr) (cdv ct : Value) (us : List Value), us.length = (["self", fld] : List Str).length → bindArgs (PySem.W.fnOf "__init__" (x ++ ".__init__") (defArgs (initS st)) (defBody (initS st)) (defScope (initS st)) .none kV doc pm an cdv ct) ⟨us, []⟩ = pure ((["self", fld] : List Str).zip us)) :
    ∃ fI fd, PySem.W.findIn K (.ref C) "__init__" = some (some (.ref fI)) ∧ PySem.W.typeIn K (.ref fI) = some (.type "function") ∧ Binds K fd ["self", fld] [] ∧ Fun K "__init__" (x ++ ".__init__") (initS st) fI fd :=
  ⟨fI, _, a, t, (fun_mk l c k).binds hb, fun_mk l c k⟩
theorem err_mk {K : PySem.W.Frag} {h : Heap} {mg : Str → Option Value} {x fld : Str} {C N : Addr} {st : Stmt} {nm q : Str} {bs bm sub : List Value} {sn : List Str} {ab : Bool} {col : Option Bool} {dd : Option Addr} {k0 k1 k2 k3 k5 : Option Value} (X : K.In h) (G : h.Ns mainGlobals mg)
    (a : PySem.W.nsIn K mainGlobals x = some (some (.ref C))) (xL : K.lookup C = some (excClassObj nm q C N bs bm true sn sub ab col dd k0 k1 k2 k3 k5 "ValueError.__new__")) (rv : PySem.HandSPX.refsVE bm = true)
    (sa : PySem.W.findIn K (.ref C) "__setattr__" = some (some (.builtin "object.__setattr__"))) (ga : PySem.W.findIn K (.ref C) "__getattribute__" = some (some (.builtin "BaseException.__getattribute__"))) (gg : PySem.W.findIn K (.ref C) "__getattr__" = some none) (no : PySem.W.findIn K (.ref C) fld = some none)
    (kC : PySem.W.keepIn K (.ref C) = true) (eC : PySem.W.subIn K (.ref C) (.type "BaseException") = some true) (tC : PySem.W.typeIn K (.ref C) = some (.type "type")) (hC : PySem.W.hasDictIn K C = true) (iC : PySem.W.isClsIn K C = true) (sC : PySem.W.subIn K (.ref C) (.ref C) = some true)
    {fI : Addr} {oc kV doc pm cdv ct : Value} {od an : Option Addr} {osl : Array (Option Value)} (i1 : PySem.W.findIn K (.ref C) "__init__" = some (some (.ref fI))) (i2 : PySem.W.typeIn K (.ref fI) = some (.type "function"))
    (i3 : K.lookup fI = some ⟨oc, od, .func (PySem.W.fnOf "__init__" (x ++ ".__init__") (defArgs (initS st)) (defBody (initS st)) (defScope (initS st)) .none kV doc pm an cdv ct), osl⟩) (i4 : PySem.W.codeIn K cdv (x ++ ".__init__") = true) (i5 : PySem.W.keepIn K (.ref fI) = true)
    (hb : ∀ (kV doc pm : Value) (an : Option Addr) (cdv ct : Value) (us : List Value), us.length = (["self", fld] : List Str).length → bindArgs (PySem.W.fnOf "__init__" (x ++ ".__init__") (defArgs (initS st)) (defBody (initS st)) (defScope (initS st)) .none kV doc pm an cdv ct) ⟨us, []⟩ = pure ((["self", fld] : List Str).zip us)) : ∃ C, ErrFs K mg x fld C st :=
  ⟨C, PySem.W.mg_of X G a, ⟨_, _, _, _, _, _, _, _, _, _, _, _, _, _, _, xL, rv⟩, sa, ga, gg, no, kC, eC, tC, hC, iC, sC, init_mk i1 i2 i3 i4 i5 hb⟩
theorem no_mk {K : PySem.W.Frag} {h : Heap} {mg : Str → Option Value} {x : Str} {C : Addr} (X : K.In h) (G : h.Ns mainGlobals mg) (a : PySem.W.nsIn K mainGlobals x = some (some (.ref C)))
    (qx : PySem.W.excIn K C [.type "ValueError", .type "Exception", .type "BaseException", .type "object"] "ValueError.__new__" = true) (kC : PySem.W.keepIn K (.ref C) = true) (eC : PySem.W.subIn K (.ref C) (.type "BaseException") = some true) (tC : PySem.W.typeIn K (.ref C) = some (.type "type")) (iC : PySem.W.isClsIn K C = true)
    (sC : PySem.W.subIn K (.ref C) (.ref C) = some true) : ∃ C, Err0 K mg x C := ⟨C, qx, PySem.W.mg_of X G a, kC, eC, tC, exm_own eC iC tC sC⟩
abbrev ErrE {K : PySem.W.Frag} {h : Heap} (_ : K.In h) (mg : Str → Option Value) (x fld : Str) (st : Stmt) : Prop := ∃ C, ErrFs K mg x fld C st
abbrev NoE {K : PySem.W.Frag} {h : Heap} (_ : K.In h) (mg : Str → Option Value) (x : Str) : Prop := ∃ C, Err0 K mg x C
end Lt

set_option Elab.async false
set_option linter.all false
set_option maxRecDepth 100000
namespace Lt
open PySem PySem.Spec PyProof.Rows L2
/-- what the top leaves, but the law -/
structure TopFs (K : PySem.W.Frag) (mg : Str → Option Value) (C_BadSign : Addr) (C_BadNumber : Addr) (C_BadString : Addr) : Prop where
  bi : Bi mg
  b_sum : mg "sum" = none
  c_RUN_SIGNS : Cs mg "RUN_SIGNS" "abcdefghijklmnopqrstuvwxyz0123456789"
  c_JOINERS : Ct K mg "JOINERS" ["and", "or", "xor"]
  c_MOST_INPUTS : Cn mg "MOST_INPUTS" 6
  c_MOST_AROUND : Cn mg "MOST_AROUND" 20
  e_BadSign : ErrFs K mg "BadSign" "place" C_BadSign s_BadSign
  e_BadNumber : Err0 K mg "BadNumber" C_BadNumber
  e_BadString : Err0 K mg "BadString" C_BadString
  f_is_number : Top K mg "is_number" s_is_number ["value"]
  f_table_of : Top K mg "table_of" s_table_of ["inputs", "text"]
  f_check_inputs : Top K mg "check_inputs" s_check_inputs ["inputs"]
  f_input_table : Top K mg "input_table" s_input_table ["inputs", "own"]
  f_bits_of : Top K mg "bits_of" s_bits_of ["table"]
  f_formula_tree : Top K mg "formula_tree" s_formula_tree ["inputs", "text"]
  f_placed_words : Top K mg "placed_words" s_placed_words ["text"]
  f_tree_from : Top K mg "tree_from" s_tree_from ["names", "words", "at", "around"]
  f_expected : Top K mg "expected" s_expected ["words", "at", "wanted"]
  f_worth_of : Top K mg "worth_of" s_worth_of ["tree", "leaves", "every"]
  f_law_taken : Top K mg "_law_taken" s_law_taken ["row", "many"]
  f_law_pick : Top K mg "_law_pick" s_law_pick ["row", "things"]
  f_law_tree : Top K mg "_law_tree" s_law_tree ["row", "inputs", "deep"]
  f_law_spelled : Top K mg "_law_spelled" s_law_spelled ["row", "tree"]
  f_law_first : Top K mg "_law_first" s_law_first ["words", "inputs"]
end Lt

set_option Elab.async false
set_option linter.all false
set_option maxRecDepth 100000
set_option maxHeartbeats 4000000
namespace Lt
open PySem PySem.Spec PyProof.Rows L2
/-! ### any plain value -/
mutual
inductive Rp (H : Hp) : V → PyData → Prop
  | non : Rp H .non .none
  | bl (b : Bool) : Rp H (.bl b) (.bool b)
  | int (i : Int) : Rp H (.int i) (.int i)
  | str (x : Str) : Rp H (.str x) (.str x)
  | lst {a : Addr} {xs : List V} {ds : List PyData} : H a = some (.lst xs) → RpAll H xs ds → Rp H (.ref a) (.list ds)
  | tup {a : Addr} {xs : List V} {ds : List PyData} : RT H a xs → RpAll H xs ds → Rp H (.ref a) (.tuple ds)
inductive RpAll (H : Hp) : List V → List PyData → Prop
  | nil : RpAll H [] []
  | cons {v : V} {vs : List V} {d : PyData} {ds : List PyData} : Rp H v d → RpAll H vs ds → RpAll H (v :: vs) (d :: ds)
end
mutual
theorem Rp.same {H H' : Hp} (e : Same H H') : ∀ (d : PyData) (v : V), Rp H v d → Rp H' v d
  | .none, _, .non => .non
  | .bool _, _, .bl b => .bl b
  | .int _, _, .int i => .int i
  | .str _, _, .str i => .str i
  | .list ds, _, .lst h a => .lst (e _ _ h) (RpAll.same e ds _ a)
  | .tuple ds, _, .tup h a => .tup (h.sm e) (RpAll.same e ds _ a)
theorem RpAll.same {H H' : Hp} (e : Same H H') : ∀ (ds : List PyData) (vs : List V), RpAll H vs ds → RpAll H' vs ds
  | [], _, .nil => .nil
  | d :: ds, _, .cons r t => .cons (Rp.same e d _ r) (RpAll.same e ds _ t)
end
mutual
theorem Rp.dp {K : PySem.W.Frag} {H : Hp} : ∀ (d : PyData) (v : V), Rp H v d → Dp K H v d
  | .none, _, .non => .non
  | .bool _, _, .bl b => .bl b
  | .int _, _, .int i => .int i
  | .str _, _, .str i => .str i
  | .list ds, _, .lst h a => .lst (SqL.of h) (RpAll.dp ds _ a)
  | .tuple ds, _, .tup h a => .tup h.sq (RpAll.dp ds _ a)
theorem RpAll.dp {K : PySem.W.Frag} {H : Hp} : ∀ (ds : List PyData) (vs : List V), RpAll H vs ds → DpAll K H vs ds
  | [], _, .nil => .nil
  | d :: ds, _, .cons r t => .cons (Rp.dp d _ r) (RpAll.dp ds _ t)
end
theorem RpAll.get {H : Hp} : ∀ {ds : List PyData} {vs : List V} {i : Nat} {v : V}, RpAll H vs ds → vs[i]? = some v → ∃ d, ds[i]? = some d ∧ Rp H v d
  | _, _, _, _, .nil, e => by simp at e
  | _, _, 0, _, .cons r _, e => by
    have e := Option.some.inj e
    subst e
    exact ⟨_, rfl, r⟩
  | _, _, i + 1, v, .cons _ t, e => by
    obtain ⟨d, h1, h2⟩ := RpAll.get (i := i) (v := v) t (by simpa using e)
    exact ⟨d, by simpa using h1, h2⟩
theorem RpAll.len {H : Hp} : ∀ {ds : List PyData} {vs : List V}, RpAll H vs ds → vs.length = ds.length
  | _, _, .nil => rfl
  | _, _, .cons _ t => by rw [List.length_cons, List.length_cons, RpAll.len t]
theorem rp_nats {H : Hp} : ∀ t : List Nat, RpAll H (nIs t) (t.map dN)
  | [] => .nil
  | n :: t => .cons (.int _) (rp_nats t)
theorem TN.rp {H : Hp} {v : V} {t : List Nat} (h : TN H v t) : Rp H v (dT t) := by
  obtain ⟨a, rfl, ha⟩ := h
  exact .tup ha (rp_nats t)
theorem TNs.rp {H : Hp} : ∀ {xs : List V} {ts : List (List Nat)}, Paired (TN H) xs ts → RpAll H xs (ts.map dT)
  | _, _, .nil => .nil
  | _, _, .cons r t => .cons r.rp (TNs.rp t)
theorem TT.rp {H : Hp} {v : V} {ts : List (List Nat)} (h : TT H v ts) : Rp H v (.tuple (ts.map dT)) := by
  obtain ⟨a, xs, rfl, ha, p⟩ := h
  exact .tup (.inl ha) (TNs.rp p)
def tyN : PyData → String
  | .none => "NoneType"
  | .bool _ => "bool"
  | .int _ => "int"
  | .str _ => "str"
  | .list _ => "list"
  | .tuple _ => "tuple"
  | .dict _ => "dict"
theorem rp_ty {K : PySem.W.Frag} {H : Hp} {v : V} {d : PyData} (h : Rp H v d) : TyX K H v (.type (tyN d)) := by
  cases h with
  | non => exact .base .non
  | bl b => exact .base (.bl b)
  | int b => exact .base (.int b)
  | str b => exact .base (.str b)
  | lst h _ => exact .base (.lst h)
  | tup h _ =>
    rcases h with h | ⟨o, h⟩
    · exact .base (.tup h)
    · exact .fTuple h
def isIntB : PyData → Bool
  | .int _ => true
  | .bool _ => true
  | _ => false
def isBl : PyData → Bool
  | .bool _ => true
  | _ => false
def isTup : PyData → Bool
  | .tuple _ => true
  | _ => false
def isLst : PyData → Bool
  | .list _ => true
  | _ => false
def isStr : PyData → Bool
  | .str _ => true
  | _ => false
def isNum : PyData → Bool
  | .int _ => true
  | _ => false
theorem kit_int : ∀ d : PyData, kitB (tyN d) "int" = some (isIntB d)
  | .none => (by decide +kernel : kitB "NoneType" "int" = some false)
  | .bool _ => (by decide +kernel : kitB "bool" "int" = some true)
  | .int _ => (by decide +kernel : kitB "int" "int" = some true)
  | .str _ => (by decide +kernel : kitB "str" "int" = some false)
  | .list _ => (by decide +kernel : kitB "list" "int" = some false)
  | .tuple _ => (by decide +kernel : kitB "tuple" "int" = some false)
  | .dict _ => (by decide +kernel : kitB "dict" "int" = some false)
theorem kit_bool : ∀ d : PyData, kitB (tyN d) "bool" = some (isBl d)
  | .none => (by decide +kernel : kitB "NoneType" "bool" = some false)
  | .bool _ => (by decide +kernel : kitB "bool" "bool" = some true)
  | .int _ => (by decide +kernel : kitB "int" "bool" = some false)
  | .str _ => (by decide +kernel : kitB "str" "bool" = some false)
  | .list _ => (by decide +kernel : kitB "list" "bool" = some false)
  | .tuple _ => (by decide +kernel : kitB "tuple" "bool" = some false)
  | .dict _ => (by decide +kernel : kitB "dict" "bool" = some false)
theorem kit_tup : ∀ d : PyData, kitB (tyN d) "tuple" = some (isTup d)
  | .none => (by decide +kernel : kitB "NoneType" "tuple" = some false)
  | .bool _ => (by decide +kernel : kitB "bool" "tuple" = some false)
  | .int _ => (by decide +kernel : kitB "int" "tuple" = some false)
  | .str _ => (by decide +kernel : kitB "str" "tuple" = some false)
  | .list _ => (by decide +kernel : kitB "list" "tuple" = some false)
  | .tuple _ => (by decide +kernel : kitB "tuple" "tuple" = some true)
  | .dict _ => (by decide +kernel : kitB "dict" "tuple" = some false)
theorem kit_lst : ∀ d : PyData, kitB (tyN d) "list" = some (isLst d)
  | .none => (by decide +kernel : kitB "NoneType" "list" = some false)
  | .bool _ => (by decide +kernel : kitB "bool" "list" = some false)
  | .int _ => (by decide +kernel : kitB "int" "list" = some false)
  | .str _ => (by decide +kernel : kitB "str" "list" = some false)
  | .list _ => (by decide +kernel : kitB "list" "list" = some true)
  | .tuple _ => (by decide +kernel : kitB "tuple" "list" = some false)
  | .dict _ => (by decide +kernel : kitB "dict" "list" = some false)
theorem kit_str : ∀ d : PyData, kitB (tyN d) "str" = some (isStr d)
  | .none => (by decide +kernel : kitB "NoneType" "str" = some false)
  | .bool _ => (by decide +kernel : kitB "bool" "str" = some false)
  | .int _ => (by decide +kernel : kitB "int" "str" = some false)
  | .str _ => (by decide +kernel : kitB "str" "str" = some true)
  | .list _ => (by decide +kernel : kitB "list" "str" = some false)
  | .tuple _ => (by decide +kernel : kitB "tuple" "str" = some false)
  | .dict _ => (by decide +kernel : kitB "dict" "str" = some false)
theorem rr_ty (n : String) : RelV (.ty n) (.type n) := rfl
section
variable {P : Program} {w : World} {K : PySem.W.Frag} {mg : Str → Option Value} {base : Heap}
/-! ### is_number -/
def spNum : Sp := fun vs H Q _ => ∃ (v : V) (d : PyData), vs = [v] ∧ Rp H v d ∧ Q (.bl (isNum d)) H
theorem sc_is_number : FnScope ["value"] ["value"] (defScope s_is_number) := ⟨rfl, rfl, rfl, by decide +kernel, rfl, by decide +kernel, by decide +kernel⟩
theorem has_is_number (T : Top K mg "is_number" s_is_number ["value"]) (B : Bi mg) : Has P w K mg base CX0 1 "is_number" ["value"] spNum := by
  refine T.ok sc_is_number (fun vs H Q E h => ?_) (fun f cdv A outer s H vs Q E hr h => ?_)
  · obtain ⟨v, d, rfl, _⟩ := h
    rfl
  · obtain ⟨v, d, rfl, hd, q⟩ := h
    refine ⟨_, pss_one (ps_ret (pe_and (pe_callB call_isi (by rfl) B.isinstance PyProof.Rows.boot_isinstance (pa_cons (pv 0) (pa_cons (pe_bltn (by rfl) B.int PyProof.Rows.boot_int (rr_ty "int")) pa_nil)))
      (pe_one (pe_not (pe_callB call_isi (by rfl) B.isinstance PyProof.Rows.boot_isinstance (pa_cons (pv 0) (pa_cons (pe_bltn (by rfl) B.bool PyProof.Rows.boot_bool (rr_ty "bool")) pa_nil))))))), ?_⟩
    refine ⟨_, rfl, v, .ty "int", _, _, isIntB d, rfl, .ty _, rp_ty hd, kit_ty (kit_int d), isIntB d, rfl, ite2 (fun h => ?_) (fun h => ?_)⟩
    · refine ⟨_, rfl, v, .ty "bool", _, _, isBl d, rfl, .ty _, rp_ty hd, kit_ty (kit_bool d), isBl d, rfl, ?_⟩
      have e : (!isBl d) = isNum d := by cases d <;> first | rfl | cases h
      show Q (.bl (!isBl d)) H
      rw [e]
      exact q
    · have e : false = isNum d := by cases d <;> first | rfl | exact absurd rfl h
      show Q (.bl false) H
      rw [e]
      exact q
end
end Lt

set_option Elab.async false
set_option linter.all false
set_option maxRecDepth 100000
set_option maxHeartbeats 1000000
namespace Lt
open PySem PySem.Spec PyProof.Rows L2
/-! ### the row of draws -/
/-- all but the object at r is as it was -/
def StepR (r : Addr) (H H' : Hp) : Prop := ∀ a o, a ≠ r → H a = some o → H' a = some o
theorem StepR.refl (r : Addr) (H : Hp) : StepR r H H := fun _ _ _ h => h
theorem StepR.trans {r : Addr} {H H1 H2 : Hp} (a : StepR r H H1) (b : StepR r H1 H2) : StepR r H H2 := fun c o hc h => b c o hc (a c o hc h)
theorem StepR.of {r : Addr} {H H' : Hp} (e : Same H H') : StepR r H H' := fun a o _ h => e a o h
theorem StepR.put (r : Addr) (H : Hp) (o : HO) : StepR r H (upd H r o) := fun a u h e => by rw [upd_ne h]; exact e
structure Row4 (K : PySem.W.Frag) (H : Hp) (r sc : Addr) (ns : List Int) (a b c : Int) : Prop where
  at_ : H r = some (.lst [.ref sc, .int a, .int b, .int c])
  sc : SqL K H sc (ns.map V.int)
  a0 : 0 ≤ a
  b0 : 0 ≤ b
  b1 : b < 2147483647
def RowAt (K : PySem.W.Frag) (H : Hp) (r sc : Addr) (ns : List Int) : Prop := ∃ a b c, Row4 K H r sc ns a b c
theorem StepR.tm {K : PySem.W.Frag} {r sc : Addr} {ns : List Int} {H H' : Hp} (s : StepR r H H') (h : RowAt K H r sc ns) : Tm H H' := by
  obtain ⟨x, b, c, R⟩ := h
  exact ⟨fun a xs e => s a _ (ne_of e R.at_ (fun z => nomatch z)) e, fun a o xs e => s a _ (ne_of e R.at_ (fun z => nomatch z)) e⟩
theorem sq_upd {K : PySem.W.Frag} {H : Hp} {r sc x : Addr} {o : HO} {ns : List Int} {ys : List V} (hr : H r = some (.lst (.ref x :: ys))) (h : SqL K H sc (ns.map V.int)) : SqL K (upd H r o) sc (ns.map V.int) := by
  have key : ∀ u, H sc = some u → u = .lst (ns.map V.int) ∨ (∃ ob, u = .frz ob (.lst (ns.map V.int))) → upd H r o sc = some u := fun u hu hc => by
    refine (upd_ne (ne_of hu hr fun z => ?_)).trans hu
    rcases hc with e | ⟨ob, e⟩
    · rw [e] at z
      injection z with z
      cases ns with
      | nil => cases z
      | cons n ns => cases z
    · rw [e] at z
      cases z
  rcases h with (h | ⟨ob, h⟩) | h
  · exact .inl (.inl (key _ h (.inl rfl)))
  · exact .inl (.inr ⟨ob, key _ h (.inr ⟨ob, rfl⟩)⟩)
  · exact .inr h
theorem Row4.put {K : PySem.W.Frag} {H : Hp} {r sc : Addr} {ns : List Int} {a b c a' b' c' : Int} (h : Row4 K H r sc ns a b c) (h1 : 0 ≤ a') (h2 : 0 ≤ b') (h3 : b' < 2147483647) : Row4 K (upd H r (.lst [.ref sc, .int a', .int b', .int c'])) r sc ns a' b' c' :=
  ⟨upd_same, sq_upd h.at_ h.sc, h1, h2, h3⟩
theorem RowAt.step {K : PySem.W.Frag} {H H' : Hp} {r sc : Addr} {ns : List Int} (h : RowAt K H r sc ns) (s : Same H H') : RowAt K H' r sc ns := by
  obtain ⟨a, b, c, R⟩ := h
  exact ⟨a, b, c, s _ _ R.at_, Same.seq s R.sc, R.a0, R.b0, R.b1⟩
theorem RowAt.sq {K : PySem.W.Frag} {H : Hp} {r sc : Addr} {ns : List Int} (h : RowAt K H r sc ns) : SqL K H sc (ns.map V.int) := let ⟨_, _, _, R⟩ := h; R.sc
theorem RowAt.ne {K : PySem.W.Frag} {H : Hp} {r sc l : Addr} {ns : List Int} (h : RowAt K H r sc ns) (hl : H l = none) : r ≠ l := let ⟨_, _, _, R⟩ := h; ne_of_none R.at_ hl
/-- an object that was not there at H0, where the row stood, may change -/
theorem RowAt.mut {K : PySem.W.Frag} {H0 H : Hp} {r sc l : Addr} {o : HO} {ns : List Int} (h0 : RowAt K H0 r sc ns) (hl : H0 l = none) (h : RowAt K H r sc ns) : RowAt K (upd H l o) r sc ns := by
  have hr := h0.ne hl
  have s0 := h0.sq
  obtain ⟨a, b, c, R⟩ := h
  refine ⟨a, b, c, (upd_ne hr).trans R.at_, ?_, R.a0, R.b0, R.b1⟩
  rcases s0 with (s0 | ⟨ob, s0⟩) | s0
  · have hne : sc ≠ l := ne_of_none s0 hl
    rcases R.sc with (z | ⟨ob, z⟩) | z
    · exact .inl (.inl ((upd_ne hne).trans z))
    · exact .inl (.inr ⟨ob, (upd_ne hne).trans z⟩)
    · exact .inr z
  · have hne : sc ≠ l := ne_of_none s0 hl
    rcases R.sc with (z | ⟨ob, z⟩) | z
    · exact .inl (.inl ((upd_ne hne).trans z))
    · exact .inl (.inr ⟨ob, (upd_ne hne).trans z⟩)
    · exact .inr z
  · exact .inr s0
theorem StepR.mut {r l : Addr} {H0 H : Hp} {o : HO} (s : StepR r H0 H) (hl : H0 l = none) : StepR r H0 (upd H l o) := fun a u ha e => by
  rw [upd_ne (ne_of_none e hl)]
  exact s a u ha e
theorem StepR.free {r l : Addr} {H0 H : Hp} (s : StepR r H0 H) (hr : r ≠ l) (hl : H l = none) : H0 l = none := by
  cases e : H0 l with
  | none => rfl
  | some o =>
    rw [s l o (Ne.symm hr) e] at hl
    cases hl
section
variable {P : Program} {w : World} {K : PySem.W.Frag} {mg : Str → Option Value} {base : Heap}
def spTaken (K : PySem.W.Frag) : Sp := fun vs H Q _ => ∃ (r sc : Addr) (ns : List Int) (m : Nat), vs = [.ref r, nI m] ∧ RowAt K H r sc ns ∧ 1 ≤ m ∧ m ≤ 1000 ∧ ∀ x H', x < m → StepR r H H' → RowAt K H' r sc ns → Q (nI x) H'
theorem sc_law_taken : FnScope ["row", "many", "found", "cell"] ["row", "many"] (defScope s_law_taken) := ⟨rfl, rfl, rfl, by decide +kernel, rfl, by decide +kernel, by decide +kernel⟩
theorem fmod_nat {i : Int} {m : Nat} (h : 1 ≤ m) : ∃ x : Nat, x < m ∧ Int.fmod i (m : Int) = (x : Int) := by
  have h0 : (0 : Int) < (m : Int) := by omega
  rw [Int.fmod_eq_emod_of_nonneg i (Int.le_of_lt h0)]
  have h1 := Int.emod_nonneg i (show (m : Int) ≠ 0 by omega)
  have h2 := Int.emod_lt_of_pos i h0
  exact ⟨(i % m).toNat, by omega, by omega⟩
theorem has_law_taken (T : Top K mg "_law_taken" s_law_taken ["row", "many"]) (B : Bi mg) : Has P w K mg base CX0 1 "_law_taken" ["row", "many"] (spTaken K) := by
  refine T.ok sc_law_taken (fun vs H Q E h => ?_) (fun f cdv A outer s H vs Q E hr h => ?_)
  · obtain ⟨r, sc, ns, m, rfl, _⟩ := h
    rfl
  · obtain ⟨r, sc, ns, m, rfl, ⟨a, b, c, R⟩, hm1, hm2, q⟩ := h
    refine ⟨_, pss_cons (ps_if (pt_cmpR op_gt (pe_ix ix_list (pv 0) pe_int (fun _ _ => rfl)) pe_int (nomark _))
        (pss_cons (ps_set (i := 2) sc_law_taken.nd rfl (Or.inl rfl) (pe_op op_modN (pe_callTy call_int1 (by rfl) B.int PyProof.Rows.boot_int (pa_cons (pe_ix ix_list (pv 0) pe_int (fun _ _ => rfl)) pa_nil)) (pv 1)))
        (pss_cons (ps_asg (pe_op op_fdivN (pe_ix ix_list (pv 0) pe_int (fun _ _ => rfl)) (pv 1)) (pg_sub (pv 0) pe_int set_list))
        (pss_one (ps_ret (pv 2))))) pss_nil)
      (pss_cons (ps_asg (pe_op op_add (pe_ix ix_list (pv 0) pe_int (fun _ _ => rfl)) pe_int) (pg_sub (pv 0) pe_int set_list))
      (pss_cons (ps_if (pt_cmpR op_gt (pe_ix ix_list (pv 0) pe_int (fun _ _ => rfl)) (pe_callB call_len_seq (by rfl) B.len PySem.boot_len (pa_cons (pe_ix ix_list (pv 0) pe_int (fun _ _ => rfl)) pa_nil)) (nomark _))
        (pss_cons (ps_asg (pe_op op_modN (pe_callTy call_int1 (by rfl) B.int PyProof.Rows.boot_int (pa_cons (pe_op op_add (pe_op op_mul (pe_ix ix_list (pv 0) pe_int (fun _ _ => rfl)) pe_int) pe_int) pa_nil)) pe_int) (pg_sub (pv 0) pe_int set_list))
        (pss_one (ps_ret (pe_op op_modN (pe_callTy call_int1 (by rfl) B.int PyProof.Rows.boot_int (pa_cons (pe_op op_fdivN (pe_ix ix_list (pv 0) pe_int (fun _ _ => rfl)) pe_int) pa_nil)) (pv 1))))) pss_nil)
      (pss_cons (ps_set (i := 3) sc_law_taken.nd rfl (Or.inl rfl) (pe_ix ix_list (pe_ix ix_list (pv 0) pe_int (fun _ _ => rfl)) (pe_op op_sub (pe_ix ix_list (pv 0) pe_int (fun _ _ => rfl)) pe_int) (fun _ _ => rfl)))
      (pss_cons (ps_asg (pe_op op_modN (pe_callTy call_int1 (by rfl) B.int PyProof.Rows.boot_int (pa_cons (pe_op op_add (pe_op op_add (pe_op op_mul (pe_ix ix_list (pv 0) pe_int (fun _ _ => rfl)) pe_int) (pv 3)) pe_int) pa_nil)) pe_int) (pg_sub (pv 0) pe_int set_list))
      (pss_cons (ps_if (pt_cmpR op_ge (pv 3) (pe_op op_pow pe_int pe_int) (nomark _))
        (pss_one (ps_asg (pe_op op_fdivN (pv 3) (pv 1)) (pg_sub (pv 0) pe_int set_list))) pss_nil)
      (pss_one (ps_ret (pe_op op_modN (pe_callTy call_int1 (by rfl) B.int PyProof.Rows.boot_int (pa_cons (pv 3) pa_nil)) (pv 1))))))))), ?_⟩
    have hm0 : (m : Int) ≠ 0 := by omega
    have hmb : ((m : Int)).natAbs < 1073741824 := by omega
    have rd : ∀ {H a b c}, Row4 K H r sc ns a b c → SqL K H r [.ref sc, .int a, .int b, .int c] := fun R => SqL.of R.at_
    have a00 := R.a0
    have b00 := R.b0
    have b11 := R.b1
    have fin : ∀ i H', StepR r H H' → RowAt K H' r sc ns → Q (.int (Int.fmod i m)) H' := fun i H' st ra => by
      obtain ⟨x, hx, ex⟩ := fmod_nat (i := i) hm1
      rw [ex]
      exact q x H' hx st ra
    refine ⟨_, rfl, r, _, 3, .int c, rfl, rfl, rd R, rfl, c, 0, rfl, rfl, _, rfl, ite2 (fun hc => ?_) (fun hc => ?_)⟩
    · refine ⟨_, rfl, r, _, 3, .int c, rfl, rfl, rd R, rfl, .inl ⟨_, rfl, _, rfl, c, m, rfl, rfl, hm0, ?_⟩⟩
      refine ⟨_, rfl, r, _, 3, .int c, rfl, rfl, rd R, rfl, _, rfl, c, m, rfl, rfl, ⟨hm0, hmb⟩, _, rfl, r, _, 3, 3, rfl, rfl, R.at_, rfl, ?_⟩
      exact ⟨_, rfl, fin c _ (StepR.put _ _ _) ⟨a, b, _, R.put a00 b00 b11⟩⟩
    · have R1 := R.put (a' := a + 1) (b' := b) (c' := c) (by omega) b00 b11
      refine ⟨_, rfl, r, _, 1, .int a, rfl, rfl, rd R, rfl, a, 1, rfl, rfl, _, rfl, r, _, 1, 1, rfl, rfl, R.at_, rfl, ?_⟩
      refine ⟨_, rfl, r, _, 1, .int (a + 1), rfl, rfl, rd R1, rfl, _, rfl, r, _, 0, .ref sc, rfl, rfl, rd R1, rfl, sc, ns.map V.int, rfl, .inl R1.sc, a + 1, _, rfl, rfl, _, rfl, ite2 (fun h2 => ?_) (fun h2 => ?_)⟩
      · obtain ⟨y, hy, ey⟩ := fmod_nat (i := b * 48271 + 11) (m := 2147483647) (by decide)
        have ey' : Int.fmod (b * 48271 + 11) 2147483647 = (y : Int) := ey
        have R2 := R1.put (a' := a + 1) (b' := Int.fmod (b * 48271 + 11) 2147483647) (c' := c) (by omega) (by omega) (by omega)
        refine ⟨_, rfl, r, _, 2, .int b, rfl, rfl, rd R1, rfl, b, 48271, rfl, rfl, .inl ⟨by omega, by omega⟩, b * 48271, 11, rfl, rfl, .inl ⟨_, rfl, b * 48271 + 11, 2147483647, rfl, rfl, (show (2147483647 : Int) ≠ 0 by decide), _, rfl, r, _, 2, 2, rfl, rfl, R1.at_, rfl, ?_⟩⟩
        refine ⟨_, rfl, r, _, 2, .int _, rfl, rfl, rd R2, rfl, _, 7, rfl, rfl, ⟨by decide, by decide⟩, .inl ⟨_, rfl, _, rfl, _, m, rfl, rfl, hm0, ?_⟩⟩
        exact fin _ _ ((StepR.put _ _ _).trans (StepR.put _ _ _)) ⟨_, _, _, R2⟩
      · have h2 : ¬ (((ns.map V.int).length : Int) < a + 1) := fun z => h2 (decide_eq_true z)
        rw [List.length_map] at h2
        have hlt : a.toNat < ns.length := by omega
        have hat : atI (ns.map V.int) (a + 1 - 1) = some (.int ns[a.toNat]) := by
          have e : a + 1 - 1 = ((a.toNat : Nat) : Int) := by omega
          rw [e]
          refine atI_nat ?_
          rw [List.getElem?_map, List.getElem?_eq_getElem hlt]
          rfl
        generalize ns[a.toNat] = z at hat
        refine ⟨_, rfl, r, _, 0, .ref sc, rfl, rfl, rd R1, rfl, _, rfl, r, _, 1, .int (a + 1), rfl, rfl, rd R1, rfl, a + 1, 1, rfl, rfl, sc, _, a + 1 - 1, .int z, rfl, rfl, R1.sc, hat, ?_⟩
        obtain ⟨y, hy, ey⟩ := fmod_nat (i := b * 48271 + z + 11) (m := 2147483647) (by decide)
        have ey' : Int.fmod (b * 48271 + z + 11) 2147483647 = (y : Int) := ey
        have R2 := R1.put (a' := a + 1) (b' := Int.fmod (b * 48271 + z + 11) 2147483647) (c' := c) (by omega) (by omega) (by omega)
        refine ⟨_, rfl, r, _, 2, .int b, rfl, rfl, rd R1, rfl, b, 48271, rfl, rfl, .inl ⟨by omega, by omega⟩, _, rfl, b * 48271, z, rfl, rfl, b * 48271 + z, 11, rfl, rfl, .inl ⟨_, rfl, b * 48271 + z + 11, 2147483647, rfl, rfl, (show (2147483647 : Int) ≠ 0 by decide), _, rfl, r, _, 2, 2, rfl, rfl, R1.at_, rfl, ?_⟩⟩
        refine ⟨_, rfl, 10, 18, rfl, rfl, ⟨by decide, by decide, by decide⟩, z, _, rfl, rfl, _, rfl, ite2 (fun h3 => ?_) (fun h3 => ?_)⟩
        · refine ⟨_, rfl, _, rfl, z, m, rfl, rfl, ⟨hm0, hmb⟩, _, rfl, r, _, 3, 3, rfl, rfl, R2.at_, rfl, ?_⟩
          refine ⟨_, rfl, .inl ⟨_, rfl, _, rfl, _, m, rfl, rfl, hm0, ?_⟩⟩
          exact fin _ _ (((StepR.put _ _ _).trans (StepR.put _ _ _)).trans (StepR.put _ _ _)) ⟨_, _, _, R2.put (by omega) (by omega) (by omega)⟩
        · refine ⟨_, rfl, .inl ⟨_, rfl, _, rfl, _, m, rfl, rfl, hm0, ?_⟩⟩
          exact fin _ _ ((StepR.put _ _ _).trans (StepR.put _ _ _)) ⟨_, _, _, R2⟩
end
end Lt

set_option Elab.async false
set_option linter.all false
set_option maxRecDepth 100000
set_option maxHeartbeats 1000000
namespace Lt
open PySem PySem.Spec PyProof.Rows L2
section
variable {P : Program} {w : World} {K : PySem.W.Frag} {mg : Str → Option Value} {base : Heap}
/-! ### _law_pick, _law_is -/
def spPick (K : PySem.W.Frag) : Sp := fun vs H Q _ => ∃ (r l sc : Addr) (ns : List Int) (xs : List V), vs = [.ref r, .ref l] ∧ RowAt K H r sc ns ∧ H l = some (.lst xs) ∧ l ≠ r ∧ 1 ≤ xs.length ∧ xs.length ≤ 1000 ∧ ∀ x H', x ∈ xs → StepR r H H' → RowAt K H' r sc ns → Q x H'
theorem sc_law_pick : FnScope ["row", "things"] ["row", "things"] (defScope s_law_pick) := ⟨rfl, rfl, rfl, by decide +kernel, rfl, by decide +kernel, by decide +kernel⟩
theorem has_law_pick (T : Top K mg "_law_pick" s_law_pick ["row", "things"]) (B : Bi mg) (hT : Has P w K mg base CX0 1 "_law_taken" ["row", "many"] (spTaken K)) : Has P w K mg base CX0 2 "_law_pick" ["row", "things"] (spPick K) := by
  refine T.ok sc_law_pick (fun vs H Q E h => ?_) (fun f cdv A outer s H vs Q E hr h => ?_)
  · obtain ⟨r, l, sc, ns, xs, rfl, _⟩ := h
    rfl
  · obtain ⟨r, l, sc, ns, xs, rfl, ra, hl, hne, h1, h2, q⟩ := h
    refine ⟨_, pss_one (ps_ret (pe_ix ix_list (pv 1) (pe_has hT hr (by rfl) (pa_cons (pv 0) (pa_cons (pe_callB call_len_seq (by rfl) B.len PySem.boot_len (pa_cons (pv 1) pa_nil)) pa_nil))) (fun _ _ => rfl))), ?_⟩
    refine ⟨_, rfl, _, rfl, _, rfl, l, xs, rfl, .inl (SqL.of hl), r, sc, ns, xs.length, rfl, ra, h1, h2, fun x H' hx st ra' => ?_⟩
    exact ⟨l, xs, (x : Int), xs[x], rfl, rfl, SqL.of (st l _ hne hl), atI_nat (List.getElem?_eq_getElem hx), q _ H' (List.getElem_mem hx) st ra'⟩
end
end Lt

set_option Elab.async false
set_option linter.all false
set_option maxRecDepth 100000
set_option maxHeartbeats 1000000
/-! formulas: words, what may stand, and the parser -/
namespace Lt
open PySem PySem.Spec PyProof.Rows L2
abbrev Tok := Nat × Str
def wNot : Str := "not"
def wOp : Str := "("
def wCl : Str := ")"
def wVoid : Str := ""
def joins : List Str := ["and", "or", "xor"]
inductive Nd
  | E
  | W
  | C
deriving DecidableEq
/-- what is wanted behind a word, none where it cannot stand -/
def stp (ns : List Str) : List Nd → Str → Option (List Nd)
  | [], _ => none
  | .E :: r, w => if w = wNot then some (.E :: r) else if w = wOp then some (.E :: .W :: .E :: .C :: r) else if w ∈ ns then some r else none
  | .W :: r, w => if w ∈ joins then some r else none
  | .C :: r, w => if w = wCl then some r else none
theorem stp_E {ns : List Str} {r : List Nd} {w : Str} : stp ns (.E :: r) w = if w = wNot then some (.E :: r) else if w = wOp then some (.E :: .W :: .E :: .C :: r) else if w ∈ ns then some r else none := rfl
theorem stp_W {ns : List Str} {r : List Nd} {w : Str} : stp ns (.W :: r) w = if w ∈ joins then some r else none := rfl
theorem stp_C {ns : List Str} {r : List Nd} {w : Str} : stp ns (.C :: r) w = if w = wCl then some r else none := rfl
/-- how many words stand, and what is wanted then -/
def mach (ns : List Str) : List Nd → List Str → Nat × List Nd
  | u, [] => (0, u)
  | u, w :: ws => match stp ns u w with
    | none => (0, u)
    | some u' => ((mach ns u' ws).1 + 1, (mach ns u' ws).2)
theorem mach_none {ns : List Str} {u : List Nd} {w : Str} {ws : List Str} (h : stp ns u w = none) : mach ns u (w :: ws) = (0, u) := by
  unfold mach
  rw [h]
theorem mach_some {ns : List Str} {u u' : List Nd} {w : Str} {ws : List Str} (h : stp ns u w = some u') : mach ns u (w :: ws) = ((mach ns u' ws).1 + 1, (mach ns u' ws).2) := by
  rw [mach, h]
/-- the parser: the words behind a formula, or the place of the word that cannot stand -/
def prs (ns : List Str) : Nat → Nat → List Tok → Except Nat (List Tok)
  | 0, _, _ => .error 0
  | _ + 1, _, [] => .error 0
  | f + 1, ar, (p, w) :: r =>
    if 20 < ar then .error p else if w ∈ ns then .ok r else if w = wNot then prs ns f (ar + 1) r else if w ≠ wOp then .error p else
      match prs ns f (ar + 1) r with
      | .error e => .error e
      | .ok [] => .error 0
      | .ok ((p2, w2) :: r2) => if w2 ∉ joins then .error p2 else
        match prs ns f (ar + 1) r2 with
        | .error e => .error e
        | .ok [] => .error 0
        | .ok ((p4, w4) :: r4) => if w4 ≠ wCl then .error p4 else .ok r4
def isOpen (w : Str) : Bool := decide (w = wNot) || decide (w = wOp)
def opens (ts : List Tok) : Nat := (ts.filter fun t => isOpen t.2).length
theorem opens_cons (t : Tok) (ts : List Tok) : opens (t :: ts) = (if isOpen t.2 = true then 1 else 0) + opens ts := by
  unfold opens
  rw [List.filter_cons]
  by_cases h : isOpen t.2 = true
  · rw [if_pos h, if_pos h, List.length_cons, Nat.add_comm]
  · rw [if_neg h, if_neg h, Nat.zero_add]
/-- behind all words stands the void one -/
def Ends1 (ts : List Tok) : Prop := ∃ r e, ts = r ++ [(e, wVoid)]
theorem Ends1.tl {t : Tok} {ts : List Tok} (h : Ends1 (t :: ts)) (ne : t.2 ≠ wVoid) : Ends1 ts := by
  obtain ⟨r, e, hr⟩ := h
  cases r with
  | nil =>
    injection hr with h1 _
    rw [h1] at ne
    exact absurd rfl ne
  | cons a r =>
    injection hr with _ h2
    exact ⟨r, e, h2⟩
theorem Ends1.ne {ts : List Tok} (h : Ends1 ts) : ts ≠ [] := by
  obtain ⟨r, e, rfl⟩ := h
  simp
/-- the names of inputs -/
structure Nms (ns : List Str) : Prop where
  noNot : wNot ∉ ns
  noOp : wOp ∉ ns
  noVoid : wVoid ∉ ns
theorem words_ne : wNot ≠ wVoid ∧ wOp ≠ wVoid ∧ wCl ≠ wVoid ∧ wVoid ∉ joins ∧ wNot ≠ wOp := by decide +kernel
/-- what the parser says, put against what may stand -/
def Agr (ns : List Str) (u : List Nd) (ts : List Tok) : Except Nat (List Tok) → Prop
  | .error p => ∃ t, ts[(mach ns (.E :: u) (ts.map (·.2))).1]? = some t ∧ t.1 = p ∧ (mach ns (.E :: u) (ts.map (·.2))).2 ≠ []
  | .ok r => Ends1 r ∧ ∃ k, r = ts.drop k ∧ opens r ≤ opens ts ∧ mach ns (.E :: u) (ts.map (·.2)) = (k + (mach ns u (r.map (·.2))).1, (mach ns u (r.map (·.2))).2)
theorem drop_get {α : Type} {l r : List α} {k n : Nat} {x : α} (h : r = l.drop k) (g : r[n]? = some x) : l[k + n]? = some x := by
  rw [h, List.getElem?_drop] at g
  exact g
theorem drop_tl {α : Type} {l r : List α} {k : Nat} {x : α} (h : x :: r = l.drop k) : r = l.drop (k + 1) := by
  have e : (l.drop k).tail = r := by rw [← h]; rfl
  rw [← e, List.tail_drop]
theorem m1 (x : Tok) (r : List Tok) : (x :: r).map (·.2) = x.2 :: r.map (·.2) := rfl
theorem isOpen_not {w : Str} (h : w = wNot) : isOpen w = true := by unfold isOpen; rw [decide_eq_true h]; rfl
theorem isOpen_op {w : Str} (h : w = wOp) : isOpen w = true := by unfold isOpen; rw [decide_eq_true h, Bool.or_true]
/-- the parser and what may stand -/
theorem prs_mach {ns : List Str} (N : Nms ns) : ∀ (f ar : Nat) (ts : List Tok) (u : List Nd), Ends1 ts → opens ts < f → ar + opens ts ≤ 20 → Agr ns u ts (prs ns f ar ts)
  | 0, _, _, _, _, h, _ => absurd h (Nat.not_lt_zero _)
  | f + 1, ar, [], _, h, _, _ => absurd rfl h.ne
  | f + 1, ar, (p, w) :: r, u, he, ho, ha => by
    rw [opens_cons] at ho ha
    rw [prs, if_neg (show ¬ 20 < ar by omega)]
    by_cases h1 : w ∈ ns
    · rw [if_pos h1]
      have n1 : w ≠ wNot := fun e => N.noNot (e ▸ h1)
      have n2 : w ≠ wOp := fun e => N.noOp (e ▸ h1)
      have n3 : w ≠ wVoid := fun e => N.noVoid (e ▸ h1)
      refine ⟨he.tl n3, 1, rfl, by rw [opens_cons]; omega, ?_⟩
      rw [m1, mach_some (u' := u) (by rw [stp_E, if_neg n1, if_neg n2, if_pos h1]), Nat.add_comm]
    · rw [if_neg h1]
      by_cases h2 : w = wNot
      · rw [if_pos h2]
        have hop := isOpen_not h2
        rw [if_pos hop] at ho ha
        have ih := prs_mach N f (ar + 1) r u (he.tl (by rw [h2]; exact words_ne.1)) (by omega) (by omega)
        have st : mach ns (.E :: u) (((p, w) :: r).map (·.2)) = ((mach ns (.E :: u) (r.map (·.2))).1 + 1, (mach ns (.E :: u) (r.map (·.2))).2) := by
          rw [m1, mach_some (u' := .E :: u) (by rw [stp_E, if_pos h2])]
        cases hp : prs ns f (ar + 1) r with
        | error e =>
          rw [hp] at ih
          obtain ⟨t, h3, h4, h5⟩ := ih
          refine ⟨t, ?_, h4, ?_⟩
          · rw [st]; exact h3
          · rw [st]; exact h5
        | ok r1 =>
          rw [hp] at ih
          obtain ⟨h3, k, h4, h5, h6⟩ := ih
          refine ⟨h3, k + 1, h4, by rw [opens_cons, if_pos hop]; omega, ?_⟩
          rw [st, h6]
          exact Prod.ext (Nat.add_right_comm _ _ _) rfl
      · rw [if_neg h2]
        by_cases h3 : w = wOp
        · rw [if_neg (fun z => z h3)]
          have hop := isOpen_op h3
          rw [if_pos hop] at ho ha
          have e1 := he.tl (show w ≠ wVoid by rw [h3]; exact words_ne.2.1)
          have ih := prs_mach N f (ar + 1) r (.W :: .E :: .C :: u) e1 (by omega) (by omega)
          have st : mach ns (.E :: u) (((p, w) :: r).map (·.2)) = ((mach ns (.E :: .W :: .E :: .C :: u) (r.map (·.2))).1 + 1, (mach ns (.E :: .W :: .E :: .C :: u) (r.map (·.2))).2) := by
            rw [m1, mach_some (u' := .E :: .W :: .E :: .C :: u) (by rw [stp_E, if_neg h2, if_pos h3])]
          cases hp : prs ns f (ar + 1) r with
          | error e =>
            rw [hp] at ih
            obtain ⟨t, h4, h5, h6⟩ := ih
            refine ⟨t, ?_, h5, ?_⟩
            · rw [st]; exact h4
            · rw [st]; exact h6
          | ok r1 =>
            rw [hp] at ih
            obtain ⟨e2, k, h4, h5, h6⟩ := ih
            rw [h6] at st
            cases r1 with
            | nil => exact absurd rfl e2.ne
            | cons t2 r2 =>
              obtain ⟨p2, w2⟩ := t2
              dsimp only
              by_cases h7 : w2 ∈ joins
              · rw [if_neg (fun z => z h7)]
                have e3 := e2.tl (show w2 ≠ wVoid from fun e => words_ne.2.2.2.1 (e ▸ h7))
                have o3 : opens r2 ≤ opens ((p2, w2) :: r2) := by rw [opens_cons]; omega
                have ih2 := prs_mach N f (ar + 1) r2 (.C :: u) e3 (by omega) (by omega)
                rw [m1 (p2, w2) r2, mach_some (u' := .E :: .C :: u) (by rw [stp_W, if_pos h7])] at st
                have k2 := drop_tl h4
                cases hp2 : prs ns f (ar + 1) r2 with
                | error e =>
                  rw [hp2] at ih2
                  obtain ⟨t, h8, h9, h10⟩ := ih2
                  refine ⟨t, ?_, h9, ?_⟩
                  · rw [st]
                    have := drop_get k2 h8
                    show ((p, w) :: r)[k + (_ + 1) + 1]? = _
                    rw [List.getElem?_cons_succ, ← Nat.add_assoc, Nat.add_right_comm]
                    exact this
                  · rw [st]; exact h10
                | ok r3 =>
                  rw [hp2] at ih2
                  obtain ⟨e4, k3, h8, h9, h10⟩ := ih2
                  rw [h10] at st
                  cases r3 with
                  | nil => exact absurd rfl e4.ne
                  | cons t4 r4 =>
                    obtain ⟨p4, w4⟩ := t4
                    dsimp only
                    have k4 : (p4, w4) :: r4 = r.drop (k + 1 + k3) := by rw [h8, k2, List.drop_drop]
                    by_cases h11 : w4 = wCl
                    · rw [if_neg (fun z => z h11)]
                      rw [m1 (p4, w4) r4, mach_some (u' := u) (by rw [stp_C, if_pos h11])] at st
                      have o4 : opens r4 ≤ opens ((p4, w4) :: r4) := by rw [opens_cons]; omega
                      refine ⟨e4.tl (show w4 ≠ wVoid by rw [h11]; exact words_ne.2.2.1), k + 1 + k3 + 1 + 1, drop_tl k4, by rw [opens_cons]; omega, ?_⟩
                      rw [st]
                      refine Prod.ext ?_ rfl
                      show k + (k3 + (_ + 1) + 1) + 1 = k + 1 + k3 + 1 + 1 + _
                      omega
                    · rw [if_pos h11]
                      rw [m1 (p4, w4) r4, mach_none (by rw [stp_C, if_neg h11])] at st
                      refine ⟨(p4, w4), ?_, rfl, ?_⟩
                      · rw [st]
                        have := drop_get (n := 0) k4 rfl
                        show ((p, w) :: r)[k + (k3 + 0 + 1) + 1]? = _
                        rw [List.getElem?_cons_succ, show k + (k3 + 0 + 1) = k + 1 + k3 + 0 by omega]
                        exact this
                      · rw [st]; exact List.cons_ne_nil _ _
              · rw [if_pos h7]
                rw [m1 (p2, w2) r2, mach_none (by rw [stp_W, if_neg h7])] at st
                refine ⟨(p2, w2), ?_, rfl, ?_⟩
                · rw [st]
                  have := drop_get (n := 0) h4 rfl
                  show ((p, w) :: r)[k + 0 + 1]? = _
                  rw [List.getElem?_cons_succ]
                  exact this
                · rw [st]; exact List.cons_ne_nil _ _
        · rw [if_pos h3]
          have st : mach ns (.E :: u) (((p, w) :: r).map (·.2)) = (0, .E :: u) := by
            rw [m1, mach_none (by rw [stp_E, if_neg h2, if_neg h3, if_neg h1])]
          refine ⟨(p, w), ?_, rfl, ?_⟩
          · rw [st]; rfl
          · rw [st]; exact List.cons_ne_nil _ _
end Lt

set_option Elab.async false
set_option linter.all false
set_option maxRecDepth 100000
set_option maxHeartbeats 1000000
/-! the words of a text -/
namespace Lt
open PySem PySem.Spec PyProof.Rows L2
def runS : Str := "abcdefghijklmnopqrstuvwxyz0123456789"
/-- text[a:b] -/
def cut (T : List Nat) (a b : Nat) : Str := ⟨((T.drop a).take (b - a)).toArray⟩
def flush (T : List Nat) (st : List Tok × Nat) (p : Nat) : List Tok := if st.2 < p then st.1 ++ [(st.2, cut T st.2 p)] else st.1
def lexStep (T : List Nat) (st : List Tok × Nat) (p c : Nat) : List Tok × Nat :=
  if c ∈ runS.cps.toList then st else (if c = 32 then flush T st p else flush T st p ++ [(p, ⟨#[c]⟩)], p + 1)
def lexFrom (T : List Nat) : List Tok × Nat → Nat → List Nat → List Tok × Nat
  | st, _, [] => st
  | st, p, c :: cs => lexFrom T (lexStep T st p c) (p + 1) cs
theorem lex_nil {T : List Nat} {st : List Tok × Nat} {p : Nat} : lexFrom T st p [] = st := by rw [lexFrom]
theorem lex_cons {T : List Nat} {st : List Tok × Nat} {p c : Nat} {cs : List Nat} : lexFrom T st p (c :: cs) = lexFrom T (lexStep T st p c) (p + 1) cs := by rw [lexFrom]
theorem lex_app {T : List Nat} : ∀ {a b : List Nat} {st : List Tok × Nat} {p : Nat}, lexFrom T st p (a ++ b) = lexFrom T (lexFrom T st p a) (p + a.length) b
  | [], b, st, p => by rw [List.nil_append, lex_nil]; rfl
  | c :: a, b, st, p => by
    rw [List.cons_append, lex_cons, lex_cons, lex_app (a := a), List.length_cons, Nat.add_assoc, Nat.add_comm 1 a.length]
theorem flush_at {T : List Nat} {F : List Tok} {p : Nat} : flush T (F, p) p = F := by
  unfold flush
  rw [if_neg (Nat.lt_irrefl _)]
theorem lex_sp {T : List Nat} {st : List Tok × Nat} {p : Nat} : lexFrom T st p [32] = (flush T st p, p + 1) := by
  rw [lex_cons, lex_nil]
  unfold lexStep
  rw [if_neg (show (32 : Nat) ∉ runS.cps.toList by decide +kernel), if_pos rfl]
theorem lex_sps {T : List Nat} : ∀ {n : Nat} {st : List Tok × Nat} {p : Nat}, lexFrom T st p (List.replicate (n + 1) 32) = (flush T st p, p + (n + 1))
  | 0, st, p => lex_sp
  | n + 1, st, p => by
    rw [show List.replicate (n + 1 + 1) 32 = [32] ++ List.replicate (n + 1) 32 from rfl, lex_app, lex_sp, lex_sps, List.length_singleton, flush_at, Nat.add_assoc p, Nat.add_comm 1]
theorem lex_run {T : List Nat} : ∀ {w : List Nat} {st : List Tok × Nat} {p : Nat}, (∀ c ∈ w, c ∈ runS.cps.toList) → lexFrom T st p w = st
  | [], st, p, _ => lex_nil
  | c :: w, st, p, h => by
    rw [lex_cons]
    unfold lexStep
    rw [if_pos (h c (List.mem_cons_self ..)), lex_run fun x hx => h x (List.mem_cons_of_mem _ hx)]
def wX0 : Str := "X0"
/-- the program's words of one word of the law -/
def flat (t : Tok) : List Tok := if t.2 = wX0 then [(t.1, ("X" : Str)), (t.1 + 1, ("0" : Str))] else [t]
/-- what words there are -/
def Wd (w : Str) : Prop := (w.cps.toList ≠ [] ∧ ∀ c ∈ w.cps.toList, c ∈ runS.cps.toList) ∨ (∃ c, w = ⟨#[c]⟩ ∧ c ∉ runS.cps.toList ∧ c ≠ 32) ∨ w = wX0
theorem cut_at {A w B : List Nat} : cut (A ++ w ++ B) A.length (A.length + w.length) = ⟨w.toArray⟩ := by
  unfold cut
  rw [List.append_assoc, List.drop_left, Nat.add_sub_cancel_left, List.take_left]
theorem lex_word {A B : List Nat} {w : Str} {F : List Tok} (h : Wd w) :
    let T := A ++ w.cps.toList ++ B
    flush T (lexFrom T (F, A.length) A.length w.cps.toList) (A.length + w.cps.toList.length) = F ++ flat (A.length, w) := by
  dsimp only
  rcases h with ⟨h1, h2⟩ | ⟨c, rfl, h1, h2⟩ | rfl
  · rw [lex_run h2]
    unfold flush
    rw [if_pos (Nat.lt_add_of_pos_right (List.length_pos_iff.mpr h1)), cut_at]
    unfold flat
    have n : w ≠ wX0 := fun e => by
      subst e
      exact absurd (h2 88 (by decide +kernel)) (by decide +kernel)
    rw [if_neg n]
  · show flush (A ++ [c] ++ B) (lexFrom (A ++ [c] ++ B) (F, A.length) A.length [c]) (A.length + 1) = _
    rw [lex_cons, lex_nil]
    unfold lexStep
    rw [if_neg h1, if_neg h2, flush_at, flush_at]
    unfold flat
    have n : (⟨#[c]⟩ : Str) ≠ wX0 := fun e => by
      have h5 : (1 : Nat) = wX0.cps.size := congrArg (fun z : Str => z.cps.size) e
      exact absurd h5 (by decide +kernel)
    rw [if_neg n]
  · have e0 : wX0.cps.toList = [88, 48] := by decide +kernel
    rw [e0]
    rw [lex_cons, lex_cons, lex_nil]
    have s1 : lexStep (A ++ [88, 48] ++ B) (F, A.length) A.length 88 = (F ++ [(A.length, ⟨#[88]⟩)], A.length + 1) := by
      unfold lexStep
      rw [if_neg (show (88 : Nat) ∉ runS.cps.toList by decide +kernel), if_neg (by decide), flush_at]
    rw [s1]
    have s2 : lexStep (A ++ [88, 48] ++ B) (F ++ [(A.length, ⟨#[88]⟩)], A.length + 1) (A.length + 1) 48 = (F ++ [(A.length, ⟨#[88]⟩)], A.length + 1) := by
      unfold lexStep
      rw [if_pos (show (48 : Nat) ∈ runS.cps.toList by decide +kernel)]
    rw [s2]
    unfold flush flat
    rw [if_pos rfl, if_pos (show A.length + 1 < A.length + [88, 48].length from Nat.lt_succ_self _)]
    have c1 := cut_at (A := A ++ [88]) (w := [48]) (B := B)
    have e1 : A ++ [88] ++ [48] ++ B = A ++ [88, 48] ++ B := by simp
    rw [e1, List.length_append] at c1
    show F ++ [(A.length, ⟨#[88]⟩)] ++ [(A.length + 1, cut (A ++ [88, 48] ++ B) (A.length + [88].length) (A.length + [88].length + [48].length))] = _
    rw [c1, List.append_assoc]
    have x1 : ("X" : Str) = ⟨#[88]⟩ := by decide +kernel
    have x2 : ("0" : Str) = ⟨[48].toArray⟩ := by decide +kernel
    rw [x1, x2]
    rfl
/-- a text as the law makes it, and its words with their places -/
inductive Bt : List Nat → List Tok → Prop
  | nil : Bt [] []
  | snoc {T : List Nat} {P : List Tok} {w : Str} {n : Nat} : Bt T P → Wd w → Bt (T ++ List.replicate (n + 1) 32 ++ w.cps.toList) (P ++ [(T.length + (n + 1), w)])
theorem Bt.lex {T : List Nat} {P : List Tok} (h : Bt T P) : ∀ R, flush (T ++ R) (lexFrom (T ++ R) ([], 0) 0 T) T.length = P.flatMap flat := by
  induction h with
  | nil => intro R; rw [lex_nil]; rfl
  | @snoc T P w n h hw ih =>
    intro R
    rw [lex_app, lex_app, lex_sps]
    have e1 : T ++ List.replicate (n + 1) 32 ++ w.cps.toList ++ R = T ++ (List.replicate (n + 1) 32 ++ w.cps.toList ++ R) := by simp only [List.append_assoc]
    have e2 := ih (List.replicate (n + 1) 32 ++ w.cps.toList ++ R)
    rw [← e1] at e2
    rw [Nat.zero_add, e2]
    have l1 : (T ++ List.replicate (n + 1) 32).length = T.length + (n + 1) := by rw [List.length_append, List.length_replicate]
    have := lex_word (A := T ++ List.replicate (n + 1) 32) (B := R) (F := P.flatMap flat) hw
    dsimp only at this
    rw [l1] at this
    rw [Nat.zero_add, l1, List.length_append, l1, this, List.flatMap_append]
    rw [List.flatMap_cons, List.flatMap_nil, List.append_nil]
/-- and with one more space behind, or none -/
theorem Bt.all {T : List Nat} {P : List Tok} (h : Bt T P) (m : Nat) (hm : m < 2) : flush (T ++ List.replicate m 32) (lexFrom (T ++ List.replicate m 32) ([], 0) 0 (T ++ List.replicate m 32)) (T ++ List.replicate m 32).length = P.flatMap flat := by
  match m, hm with
  | 0, _ =>
    have := h.lex []
    rw [show List.replicate 0 32 = [] from rfl, List.append_nil] at *
    exact this
  | 1, _ =>
    have := h.lex [32]
    show flush (T ++ [32]) (lexFrom (T ++ [32]) ([], 0) 0 (T ++ [32])) (T ++ [32]).length = _
    rw [lex_app, lex_sp, Nat.zero_add, this, List.length_append]
    exact flush_at
/-! ### the law's words and the program's -/
/-- X0 and its first sign can't stand, nor the void word -/
theorem stp_bad {ns : List Str} (h1 : wX0 ∉ ns) : ∀ u, stp ns u wX0 = none
  | [] => rfl
  | .E :: r => by rw [stp_E, if_neg (by decide +kernel), if_neg (by decide +kernel), if_neg h1]
  | .W :: r => by rw [stp_W, if_neg (by decide +kernel)]
  | .C :: r => by rw [stp_C, if_neg (by decide +kernel)]
theorem stp_badX {ns : List Str} (h1 : ("X" : Str) ∉ ns) : ∀ u, stp ns u ("X" : Str) = none
  | [] => rfl
  | .E :: r => by rw [stp_E, if_neg (by decide +kernel), if_neg (by decide +kernel), if_neg h1]
  | .W :: r => by rw [stp_W, if_neg (by decide +kernel)]
  | .C :: r => by rw [stp_C, if_neg (by decide +kernel)]
theorem stp_void {ns : List Str} (h1 : wVoid ∉ ns) : ∀ u, stp ns u wVoid = none
  | [] => rfl
  | .E :: r => by rw [stp_E, if_neg (by decide +kernel), if_neg (by decide +kernel), if_neg h1]
  | .W :: r => by rw [stp_W, if_neg (by decide +kernel)]
  | .C :: r => by rw [stp_C, if_neg (by decide +kernel)]
/-- the words as the program has them -/
def toks (P : List Tok) (e : Nat) : List Tok := P.flatMap flat ++ [(e, wVoid)]
theorem toks_cons {t : Tok} {P : List Tok} {e : Nat} : toks (t :: P) e = flat t ++ toks P e := by
  unfold toks
  rw [List.flatMap_cons, List.append_assoc]
theorem toks_mach {ns : List Str} (N : Nms ns) (h1 : wX0 ∉ ns) (h2 : ("X" : Str) ∉ ns) (e : Nat) : ∀ (P : List Tok) (u : List Nd),
    mach ns u ((toks P e).map (·.2)) = mach ns u (P.map (·.2)) ∧
    (mach ns u (P.map (·.2))).1 ≤ P.length ∧
    ∀ t, (toks P e)[(mach ns u (P.map (·.2))).1]? = some t →
      if (mach ns u (P.map (·.2))).1 < P.length then P[(mach ns u (P.map (·.2))).1]?.map (·.1) = some t.1 ∧ (mach ns u (P.map (·.2))).1 < (toks P e).length - 1
      else t.1 = e ∧ (mach ns u (P.map (·.2))).1 = (toks P e).length - 1
  | [], u => by
    have a : mach ns u ((toks [] e).map (·.2)) = (0, u) := mach_none (stp_void N.noVoid u)
    have b : mach ns u (([] : List Tok).map (·.2)) = (0, u) := by rw [List.map_nil, mach]
    refine ⟨a.trans b.symm, by rw [b]; exact Nat.le_refl _, fun t ht => ?_⟩
    rw [b] at ht ⊢
    rw [if_neg (show ¬ ((0 : Nat), u).1 < ([] : List Tok).length from Nat.lt_irrefl _)]
    injection ht with ht
    exact ⟨by rw [← ht], rfl⟩
  | t0 :: P, u => by
    cases hs : stp ns u t0.2 with
    | none =>
      have b : mach ns u ((t0 :: P).map (·.2)) = (0, u) := mach_none hs
      rw [b]
      rw [toks_cons]
      unfold flat
      by_cases hx : t0.2 = wX0
      · rw [if_pos hx]
        refine ⟨mach_none (stp_badX h2 u), Nat.zero_le _, fun t ht => ?_⟩
        injection ht with ht
        rw [if_pos (show ((0 : Nat), u).1 < (t0 :: P).length from Nat.succ_pos _)]
        refine ⟨by rw [← ht]; rfl, ?_⟩
        show 0 < ([_, _] ++ toks P e).length - 1
        rw [List.length_append]
        exact Nat.lt_of_lt_of_le Nat.zero_lt_one (by simp only [List.length_cons, List.length_nil]; omega)
      · rw [if_neg hx]
        refine ⟨mach_none hs, Nat.zero_le _, fun t ht => ?_⟩
        injection ht with ht
        rw [if_pos (show ((0 : Nat), u).1 < (t0 :: P).length from Nat.succ_pos _)]
        refine ⟨by rw [← ht]; rfl, ?_⟩
        unfold toks
        simp only [List.length_append, List.length_cons, List.length_nil]
        omega
    | some u' =>
      have hx : t0.2 ≠ wX0 := fun z => by rw [z, stp_bad h1] at hs; cases hs
      obtain ⟨i1, i2, i3⟩ := toks_mach N h1 h2 e P u'
      have b : mach ns u ((t0 :: P).map (·.2)) = ((mach ns u' (P.map (·.2))).1 + 1, (mach ns u' (P.map (·.2))).2) := mach_some hs
      have ft : toks (t0 :: P) e = t0 :: toks P e := by rw [toks_cons]; unfold flat; rw [if_neg hx]; rfl
      rw [b, ft]
      refine ⟨by rw [m1, mach_some hs, i1], Nat.succ_le_succ i2, fun t ht => ?_⟩
      have ht' : (toks P e)[(mach ns u' (P.map (·.2))).1]? = some t := ht
      have i4 := i3 t ht'
      have pos : 0 < (toks P e).length := by unfold toks; simp only [List.length_append, List.length_cons, List.length_nil]; omega
      by_cases hl : (mach ns u' (P.map (·.2))).1 < P.length
      · rw [if_pos hl] at i4
        rw [if_pos (show (mach ns u' (P.map (·.2))).1 + 1 < (t0 :: P).length from Nat.succ_lt_succ hl)]
        refine ⟨i4.1, ?_⟩
        have := i4.2
        simp only [List.length_cons]
        omega
      · rw [if_neg hl] at i4
        rw [if_neg (show ¬ (mach ns u' (P.map (·.2))).1 + 1 < (t0 :: P).length from fun z => hl (Nat.lt_of_succ_lt_succ z))]
        refine ⟨i4.1, ?_⟩
        have := i4.2
        simp only [List.length_cons]
        omega
end Lt

set_option Elab.async false
set_option linter.all false
set_option maxRecDepth 100000
set_option maxHeartbeats 4000000
/-! enumerate over a str, in a for -/
namespace L2
open PySem PySem.Spec PyProof.Rows
/-- the signs of a str, each in a new pair with its place -/
def Ites (x : Str) : It :=
  ⟨fun i _ => i < x.cps.size, fun i H v H' => ∃ T c, v = .ref T ∧ H T = none ∧ H' = upd H T (.tup [.int (i : Nat), .str ⟨#[c]⟩]) ∧ x.cps[i]? = some c, fun i _ => x.cps.size = i⟩
theorem turn_enumS {P : Program} {w : World} {K : PySem.W.Frag} {elts : List Expr} {kk : Nat} {tpos : Pos} (x : Str) (t : Tok) (e it : Addr) :
    Turn P w K (.Tuple elts kk tpos) (Ites x) [e, it] e (fun i h => (∃ old, IsEnum h e it ((i : Nat) : Int) old) ∧ h.IsStrIter it (strIterType x) x t i ∧ e ≠ it) where
  mem := by simp
  obj := fun i h st b hb => by
    obtain ⟨⟨old, he⟩, ⟨o, ho, hc, hd⟩, _⟩ := st
    have e' : b = e ∨ b = it := by simpa using hb
    rcases e' with z | z
    · rw [z]; exact ⟨_, he, fun v q => nomatch q⟩
    · rw [z]; exact ⟨o, ho, fun v q => by rw [hd] at q; cases q⟩
  keep := fun i h h' st k => let ⟨⟨old, he⟩, ⟨o, ho, r⟩, hne⟩ := st; ⟨⟨old, k e (by simp) _ he⟩, ⟨o, k it (by simp) o ho, r⟩, hne⟩
  item := by
    intro X hP hw hK hc i pins s σ H E I hf st hg
    subst hP hw hK
    obtain ⟨⟨old, he⟩, hit, hne⟩ := st
    have hel : e < s.heap.objs.size := Heap.lt_size he
    have hil : it < s.heap.objs.size := by obtain ⟨_, q, _⟩ := hit; exact Heap.lt_size q
    refine wpAny_pyNext_enum_itemD (Draws.text (prog := X.prog) (w := X.w) (A := X.A.in1) (I.ok.hd hc) it x t) he hit (show i < x.cps.size from hg) hne (by simp [hne]) fun x' h' tk hP ho hst' hT hsz hk => ?_
    obtain ⟨c, u, hcx, ex⟩ := hP
    subst ex
    have hit' := hst'
    refine ⟨_, rfl, wpAny_letOwnedTupleGo_enum (s := { s with heap := h', toks := tk + 1 }) ho fun h'' he' sb => ?_⟩
    have hT2 : h''.get? s.heap.objs.size = some { cls := .type "tuple", data := .seq #[.int i tk, .str ⟨#[c]⟩ u] } := (sb.2 _ (Nat.ne_of_gt hel)).trans hT
    have new : ObjOk X.prog X.w (upd H s.heap.objs.size (.tup [.int (i : Nat), .str ⟨#[c]⟩])) h'' s.heap.objs.size (.tup [.int (i : Nat), .str ⟨#[c]⟩]) :=
      ⟨by show 2 ≤ sizeLine; decide, [.int i tk, .str ⟨#[c]⟩ u], .cons ⟨_, rfl⟩ (.cons ⟨_, rfl⟩ .nil), ⟨_, hT2, rfl, _, rfl⟩⟩
    have I1 : Inv X pins σ (upd H s.heap.objs.size (.tup [.int (i : Nat), .str ⟨#[c]⟩])) { s with heap := h'', toks := tk + 1 } :=
      I.turnedNew (ch := [e, it]) (fun b ob hb q => (sb.2 b (fun z => hb (by simp [z]))).trans (hk b ob (fun z => hb (by simp [z])) (fun z => hb (by simp [z])) q)) hf (Nat.le_refl _) new
    refine ⟨.ref s.heap.objs.size, _, I1, rfl, ⟨_, c, rfl, I.hok.fresh (Nat.le_refl _), rfl, hcx⟩, ⟨⟨.str ⟨#[c]⟩ u, ?_⟩, ?_, hne⟩, fun b hb => ?_⟩
    · have e1 : ((i + 1 : Nat) : Int) = (i : Int) + 1 := by omega
      rw [e1]; exact he'
    · obtain ⟨o, ho', r⟩ := hit'
      exact ⟨o, (sb.2 it (Ne.symm hne)).trans ho', r⟩
    · have hb' : b < s.heap.objs.size := by
        have e' : b = e ∨ b = it := by simpa using hb
        rcases e' with z | z
        · rw [z]; exact hel
        · rw [z]; exact hil
      rw [upd_ne (Nat.ne_of_lt hb')]
      exact (hf b hb).1
  done := by
    intro X hP hw hK hc i pins s σ H E I hf st hg
    subst hP hw hK
    obtain ⟨⟨old, he⟩, hit, hne⟩ := st
    obtain ⟨f0, f1, f2, f3, f4, f5⟩ := hf it (by simp)
    have hn : x.cps.size = i := hg
    exact wpAny_pyNext_enum_endD (Draws.text (prog := X.prog) (w := X.w) (A := X.A.in1) (I.ok.hd hc) it x t) he (show s.heap.IsStrIter it (strIterType x) x t x.cps.size by rw [hn]; exact hit) fun h' eb => ⟨rfl, I.turned (t' := s.toks) (fun b o hb q => eb b o hb q) f0 f1 f3 f4 f5⟩
  self := fun A i s Q E st h => let ⟨⟨_, he⟩, _⟩ := st; wpAny_pyIter_enum he h
def iEnumS (ta : TA) : TI := fun σ H R => ta σ H fun vs H1 => ∃ x, vs = [.str x] ∧ R (Ites x) H1
theorem pi_enumS {X : Cx} {e : Expr} {ta : TA} {p pos tpos : Pos} {elts : List Expr} {kk : Nat} (hg : Gl X "enumerate") (hm : X.mg "enumerate" = none) (ha : PA X [e] ta) (hs : starEach [e] X.env = [(false, eval e X.env)] := by rfl) :
    PI X (.Tuple elts kk tpos) (.Call (.Name "enumerate" p) [e] [] pos) (iEnumS ta) := by
  refine ⟨fun pins s σ H R I h => ?_⟩
  refine Call_ (ld_blt I hg hm boot_enumerate (PyProof.Rows.callWith_type1 (thn (ha.run pos pins s σ H _ I h) fun us s1 ⟨vs, H1, I1, r1, q1⟩ => ?_) hs rfl))
  obtain ⟨x, ex, q⟩ := q1
  subst ex
  cases r1 with
  | cons r rr =>
    cases rr
    obtain ⟨t, rfl⟩ := r
    refine LtR.enum1_begins (begins_text x t) trivial fun h' he hit hsz hk => wpAny_pyIter_enum he ?_
    have I2 : Inv X pins σ H1 { s1 with heap := h' } := I1.kept (t' := s1.toks) hk
    refine ⟨s1.heap.objs.size + 1, [s1.heap.objs.size + 1, s1.heap.objs.size], _, _, H1, rfl, I2, turn_enumS x t (s1.heap.objs.size + 1) s1.heap.objs.size, ⟨⟨.none, he⟩, ⟨_, hit, rfl, rfl⟩, Nat.succ_ne_self _⟩, fun b hb => ?_, q⟩
    have e' : b = s1.heap.objs.size + 1 ∨ b = s1.heap.objs.size := by simpa using hb
    have hle : s1.heap.objs.size ≤ b := by
      rcases e' with z | z
      · rw [z]; exact Nat.le_add_right _ _
      · rw [z]; exact Nat.le_refl _
    exact I1.fpOk hle (I1.hok.fresh hle)
end L2

set_option Elab.async false
set_option linter.all false
set_option maxRecDepth 100000
set_option maxHeartbeats 1000000
/-! placed_words -/
namespace Lt
open PySem PySem.Spec PyProof.Rows L2
theorem for_enumS {x : Str} {g : TG} {tb : TS} {D : Ends} {σ : L2.St} {H : Hp} (Pv : Nat → L2.St → Hp → Prop) (h0 : Pv 0 σ H)
    (hs : ∀ (i c : Nat) σ H T, x.cps[i]? = some c → Pv i σ H → H T = none → g (.ref T) σ (upd H T (.tup [nI i, .str ⟨#[c]⟩])) fun σ2 H2 => tb { D with nx := Pv (i + 1), ct := Pv (i + 1), bk := D.nx } σ2 H2) (hd : ∀ σ H, Pv x.cps.size σ H → D.nx σ H) :
    ∃ W : Nat → Nat → L2.St → Hp → Prop, (∃ m, W 0 m σ H) ∧ ∀ i m σ H, W i m σ H →
      ((Ites x).stop i H ∧ D.nx σ H) ∨ ((Ites x).go i H ∧ ∃ N : L2.St → Hp → Prop, (∀ σ' H', N σ' H' → ∃ m', m' < m ∧ W (i + 1) m' σ' H') ∧ ∀ y H', (Ites x).yld i H y H' → g y σ H' fun σ2 H2 => tb { D with nx := N, ct := N, bk := D.nx } σ2 H2) := by
  refine ⟨fun i m σ H => m = x.cps.size - i ∧ i ≤ x.cps.size ∧ Pv i σ H, ⟨x.cps.size, by simp, Nat.zero_le _, h0⟩, ?_⟩
  rintro i m σ H ⟨rfl, hi, p⟩
  by_cases hlt : i < x.cps.size
  · refine .inr ⟨hlt, Pv (i + 1), fun σ' H' p' => ⟨x.cps.size - (i + 1), by omega, rfl, hlt, p'⟩, fun y H' yl => ?_⟩
    obtain ⟨T, c, rfl, hT, rfl, hc⟩ := yl
    exact hs i c σ H T hc p hT
  · have e : x.cps.size = i := by omega
    refine .inl ⟨e, hd σ H ?_⟩
    rw [e]
    exact p
/-- a name of the module, by its value -/
theorem pe_gc2 {X : Cx} {x : Str} {v : V} {pos : Pos} (hg : Gl X x) (h : ∃ u, X.mg x = some u ∧ RelV v u) (hd : (x == ("__debug__" : Str)) = false := by decide) : PE X (.Name x pos) (tC v) := by
  obtain ⟨u, hm, r⟩ := h
  exact pe_glob hg hm r hd
/-- a placed word -/
def RTk (H : Hp) (v : V) (t : Tok) : Prop := ∃ a, v = .ref a ∧ H a = some (.tup [nI t.1, .str t.2])
theorem RTk.tm {H H' : Hp} {v : V} {t : Tok} (e : Tm H H') (h : RTk H v t) : RTk H' v t := let ⟨a, e1, h⟩ := h; ⟨a, e1, e.1 _ _ h⟩
theorem RTks.tm {H H' : Hp} (e : Tm H H') : ∀ {xs : List V} {ts : List Tok}, Paired (RTk H) xs ts → Paired (RTk H') xs ts
  | _, _, .nil => .nil
  | _, _, .cons r t => .cons (r.tm e) (RTks.tm e t)
def LTk (H : Hp) (l : Addr) (ts : List Tok) : Prop := ∃ xs, H l = some (.lst xs) ∧ Paired (RTk H) xs ts
theorem LTk.same {H H' : Hp} {l : Addr} {ts : List Tok} (e : Same H H') (h : LTk H l ts) : LTk H' l ts := let ⟨xs, h1, h2⟩ := h; ⟨xs, e _ _ h1, RTks.tm (.of e) h2⟩
/-- the words of a text, behind them the void one -/
def lexWords (x : Str) : List Tok := toks' (flush x.cps.toList (lexFrom x.cps.toList ([], 0) 0 x.cps.toList) x.cps.toList.length) x.cps.toList.length
  where toks' (F : List Tok) (e : Nat) : List Tok := F ++ [(e, wVoid)]
theorem flush_len {T : List Nat} {st : List Tok × Nat} {p : Nat} : (flush T st p).length ≤ st.1.length + 1 := by
  unfold flush
  split
  · rw [List.length_append]; exact Nat.le_refl _
  · exact Nat.le_succ _
theorem lexStep_len {T : List Nat} {st : List Tok × Nat} {p c : Nat} : (lexStep T st p c).1.length ≤ st.1.length + 2 := by
  unfold lexStep
  have := flush_len (T := T) (st := st) (p := p)
  split
  · omega
  · dsimp only
    split
    · omega
    · rw [List.length_append, List.length_singleton]; omega
theorem lexFrom_len {T : List Nat} : ∀ {cs : List Nat} {st : List Tok × Nat} {p : Nat}, (lexFrom T st p cs).1.length ≤ st.1.length + 2 * cs.length
  | [], st, p => by rw [lex_nil]; exact Nat.le_refl _
  | c :: cs, st, p => by
    rw [lex_cons]
    have := lexFrom_len (T := T) (cs := cs) (st := lexStep T st p c) (p := p + 1)
    have := lexStep_len (T := T) (st := st) (p := p) (c := c)
    rw [List.length_cons]
    omega
theorem lexStep_at {T : List Nat} {st : List Tok × Nat} {p c : Nat} (h : st.2 ≤ p) : (lexStep T st p c).2 ≤ p + 1 := by
  unfold lexStep
  split
  · omega
  · exact Nat.le_refl _
theorem lexFrom_at {T : List Nat} : ∀ {cs : List Nat} {st : List Tok × Nat} {p : Nat}, st.2 ≤ p → (lexFrom T st p cs).2 ≤ p + cs.length
  | [], st, p, h => by rw [lex_nil]; exact h
  | c :: cs, st, p, h => by
    rw [lex_cons, List.length_cons]
    have := lexFrom_at (T := T) (cs := cs) (st := lexStep T st p c) (p := p + 1) (lexStep_at h)
    omega
theorem lex_take {T : List Nat} {i c : Nat} (h : T[i]? = some c) (st : List Tok × Nat) : lexFrom T st 0 (T.take (i + 1)) = lexStep T (lexFrom T st 0 (T.take i)) i c := by
  have hlt := (List.getElem?_eq_some_iff.mp h).1
  have e : T.take (i + 1) = T.take i ++ [c] := by
    rw [List.take_add_one, h]
    rfl
  rw [e, lex_app, lex_cons, lex_nil, List.length_take, Nat.min_eq_left (Nat.le_of_lt hlt), Nat.zero_add]
theorem cutS_nat (x : Str) (a b : Nat) (hb : b ≤ x.length) : L2.cutS x (some (a : Int)) (some (b : Int)) = cut x.cps.toList a b := by
  unfold L2.cutS cut
  rw [HT.sIx_nat, HT.sIx_nat, Nat.min_eq_left hb]
  by_cases ha : a ≤ x.length
  · rw [Nat.min_eq_left ha]
  · have h1 : x.cps.toList.length = x.length := Array.length_toList
    rw [Nat.min_eq_right (by omega), List.drop_eq_nil_of_le (by omega), List.drop_eq_nil_of_le (by omega), List.take_nil, List.take_nil]
theorem cutS_end (x : Str) (a : Nat) : L2.cutS x (some (a : Int)) none = cut x.cps.toList a x.cps.toList.length := by
  have h1 : x.cps.toList.length = x.length := Array.length_toList
  rw [h1, ← cutS_nat x a x.length (Nat.le_refl _)]
  unfold L2.cutS
  rw [HT.sIx_nat _ _ x.length, HT.sIx_none, Nat.min_self]
theorem add_tok {H H' : Hp} {l Tp : Addr} {vs : List V} {ts : List Tok} (t : Tok) (h0 : H l = none) (st : Same H H') (hv : H' l = some (.lst vs)) (pr : Paired (RTk H') vs ts) (hT : H' Tp = none) :
    (upd H' Tp (.tup [nI t.1, .str t.2])) l = some (.lst vs) ∧ Same H (upd (upd H' Tp (.tup [nI t.1, .str t.2])) l (.lst (vs ++ [.ref Tp]))) ∧
    Paired (RTk (upd (upd H' Tp (.tup [nI t.1, .str t.2])) l (.lst (vs ++ [.ref Tp])))) (vs ++ [.ref Tp]) (ts ++ [t]) := by
  have sT := same_new (o := .tup [nI t.1, .str t.2]) hT
  have h1 := sT _ _ hv
  refine ⟨h1, same_mut (st.trans sT) h0, Paired.app (RTks.tm ((Tm.of sT).trans (Tm.lst h1)) pr) (.cons ⟨Tp, rfl, ?_⟩ .nil)⟩
  rw [upd_ne (ne_of_none hv hT).symm]
  exact upd_same
theorem code_eq (c : Nat) : decide (V.str ⟨#[c]⟩ = V.str (" " : Str)) = decide (c = 32) := decide_eq_decide.mpr ⟨fun h => by
    injection h with h
    have e : (" " : Str) = ⟨#[32]⟩ := by decide +kernel
    rw [e] at h
    injection h with h
    injection h with h
    injection h with h,
  fun h => by rw [h]; exact congrArg V.str (by decide +kernel)⟩
section
variable {P : Program} {w : World} {K : PySem.W.Frag} {mg : Str → Option Value} {base : Heap}
def spWords : Sp := fun vs H Q _ => ∃ (x : Str), vs = [.str x] ∧ x.length ≤ 1000 ∧ ∀ l H', Same H H' → LTk H' l (lexWords x) → Q (.ref l) H'
theorem sc_placed_words : FnScope ["text", "words", "start", "place", "sign"] ["text"] (defScope s_placed_words) := ⟨rfl, rfl, rfl, by decide +kernel, rfl, by decide +kernel, by decide +kernel⟩
theorem has_placed_words (T : Top K mg "placed_words" s_placed_words ["text"]) (B : Bi mg) (gR : ∃ u, mg "RUN_SIGNS" = some u ∧ RelV (.str runS) u) : Has P w K mg base CX0 1 "placed_words" ["text"] spWords := by
  refine T.ok sc_placed_words (fun vs H Q E h => ?_) (fun f cdv A outer s H vs Q E hr h => ?_)
  · obtain ⟨x, rfl, _⟩ := h
    rfl
  · obtain ⟨x, rfl, hx, q⟩ := h
    refine ⟨_, pss_cons (ps_set (i := 1) sc_placed_words.nd rfl (Or.inl rfl) (pe_lst pa_nil))
      (pss_cons (ps_set (i := 2) sc_placed_words.nd rfl (Or.inl rfl) pe_int)
      (pss_cons (ps_for PassesOwn.never rfl (pi_enumS (by rfl) B.enumerate (pa_cons (pv 0) pa_nil)) (pg_tup rfl (pgs_cons (pg_name (i := 3) sc_placed_words.nd rfl (Or.inl rfl)) (pgs_cons (pg_name (i := 4) sc_placed_words.nd rfl (Or.inl rfl)) pgs_nil)))
        (pss_one (ps_if (pt_cmpR op_notIn_sign (pv 4) (pe_gc2 (by rfl) gR) (by rfl))
          (C8.pss_cut (ps_if (pt_cmpR op_lt (pv 2) (pv 3) (nomark _)) (pss_one (ps_expr (pe_bm PySem.F.plainAttrs_list PySem.F.slot_list_append PySem.F.type_list_append mt_append (pv 1) (pa_cons (pe_tup (pa_cons (pv 2) (pa_cons (pe_slice sl_str (pv 0) (po_some (pv 2)) (po_some (pv 3))) pa_nil))) pa_nil)))) pss_nil)
          (C8.pss_cut (ps_if (pt_cmpR op_ne (pv 4) pe_str (nomark _)) (pss_one (ps_expr (pe_bm PySem.F.plainAttrs_list PySem.F.slot_list_append PySem.F.type_list_append mt_append (pv 1) (pa_cons (pe_tup (pa_cons (pv 3) (pa_cons (pv 4) pa_nil))) pa_nil)))) pss_nil)
          (pss_one (ps_set (i := 2) sc_placed_words.nd rfl (Or.inl rfl) (pe_op op_add (pv 3) pe_int))))) pss_nil)))
      (C8.pss_cut (ps_if (pt_cmpR op_lt (pv 2) (pe_callB call_len_str (by rfl) B.len PySem.boot_len (pa_cons (pv 0) pa_nil)) (nomark _)) (pss_one (ps_expr (pe_bm PySem.F.plainAttrs_list PySem.F.slot_list_append PySem.F.type_list_append mt_append (pv 1) (pa_cons (pe_tup (pa_cons (pv 2) (pa_cons (pe_slice sl_str (pv 0) (po_some (pv 2)) po_none) pa_nil))) pa_nil)))) pss_nil)
      (pss_cons (ps_expr (pe_bm PySem.F.plainAttrs_list PySem.F.slot_list_append PySem.F.type_list_append mt_append (pv 1) (pa_cons (pe_tup (pa_cons (pe_callB call_len_str (by rfl) B.len PySem.boot_len (pa_cons (pv 0) pa_nil)) (pa_cons pe_str pa_nil))) pa_nil)))
      (pss_one (ps_ret (pv 1))))))), ?_⟩
    refine ⟨Nat.zero_le _, fun l hl => ?_⟩
    have s1 := same_new (o := .lst []) hl
    refine ⟨_, rfl, x, rfl, for_enumS (fun i σ H' => ∃ xp xs vs, σ = [some (.str x), some (.ref l), some (nI (lexFrom x.cps.toList ([], 0) 0 (x.cps.toList.take i)).2), xp, xs] ∧ Same H H' ∧ H' l = some (.lst vs) ∧ Paired (RTk H') vs (lexFrom x.cps.toList ([], 0) 0 (x.cps.toList.take i)).1)
      ⟨none, none, [], rfl, s1, upd_same, .nil⟩ ?_ ?_⟩
    · rintro i c σ H' T hc ⟨xp, xs, vs, rfl, st, hv, pr⟩ hT
      have hc' : x.cps.toList[i]? = some c := by rw [Array.getElem?_toList]; exact hc
      have hi : i < x.cps.toList.length := (List.getElem?_eq_some_iff.mp hc').1
      have hxl : x.cps.toList.length = x.length := Array.length_toList
      have sT := same_new (o := .tup [nI i, .str ⟨#[c]⟩]) hT
      have hb := lexFrom_len (T := x.cps.toList) (cs := x.cps.toList.take i) (st := ([], 0)) (p := 0)
      have hp := lexFrom_at (T := x.cps.toList) (cs := x.cps.toList.take i) (st := ([], 0)) (p := 0) (Nat.le_refl _)
      have hvl := Paired.length pr
      rw [List.length_take, Nat.min_eq_left (by omega)] at hb hp
      rw [lex_take hc']
      generalize hS : lexFrom x.cps.toList ([], 0) 0 (x.cps.toList.take i) = S at *
      obtain ⟨F, p⟩ := S
      dsimp only at hb hp pr hvl ⊢
      refine ⟨T, _, rfl, SqT.of upd_same, rfl, nI i, _, rfl, .str ⟨#[c]⟩, _, rfl, rfl, ?_⟩
      refine ⟨_, rfl, c, runS, rfl, rfl, _, rfl, ?_⟩
      by_cases hr : c ∈ runS.cps.toList
      · have e1 : (!decide (c ∈ runS.cps.toList)) = false := by rw [decide_eq_true hr]; rfl
        rw [e1]
        refine iteF ?_
        unfold lexStep
        rw [if_pos hr]
        exact ⟨_, _, vs, rfl, st.trans sT, sT _ _ hv, RTks.tm (.of sT) pr⟩
      · have e1 : (!decide (c ∈ runS.cps.toList)) = true := by rw [decide_eq_false hr]; rfl
        rw [e1]
        refine iteT ?_
        refine ⟨fun σ2 H2 => σ2 = [some (V.str x), some (V.ref l), some (nI p), some (nI i), some (V.str ⟨#[c]⟩)] ∧ ∃ vs2, Same H H2 ∧ H2 l = some (.lst vs2) ∧ Paired (RTk H2) vs2 (flush x.cps.toList (F, p) i), ?_, ?_⟩
        · refine ⟨_, rfl, _, rfl, (p : Int), (i : Int), rfl, rfl, decide ((p : Int) < (i : Int)), rfl, ?_⟩
          by_cases hpi : p < i
          · rw [decide_eq_true (show (p : Int) < (i : Int) by omega)]
            refine iteT ?_
            have hv1 := sT _ _ hv
            refine ⟨_, rfl, .inl ⟨rfl, _, SqL.of hv1⟩, _, rfl, _, rfl, _, rfl, p, rfl, _, rfl, i, rfl, x, rfl, by rw [sizeLine_eq]; omega, ?_⟩
            rw [cutS_nat x p i (by omega)]
            refine ⟨by show 2 ≤ sizeLine; decide, fun Tp hTp => ?_⟩
            obtain ⟨a1, a2, a3⟩ := add_tok (p, cut x.cps.toList p i) hl (st.trans sT) hv1 (RTks.tm (.of sT) pr) hTp
            refine ⟨l, vs, .ref Tp, rfl, rfl, a1, by rw [hvl, sizeLine_eq]; simp only [List.length_nil] at hb; omega, rfl, _, a2, upd_same, ?_⟩
            unfold flush
            rw [if_pos hpi]
            exact a3
          · rw [decide_eq_false (show ¬ (p : Int) < (i : Int) by omega)]
            refine iteF ⟨rfl, vs, st.trans sT, sT _ _ hv, ?_⟩
            unfold flush
            rw [if_neg hpi]
            exact RTks.tm (.of sT) pr
        · rintro σ2 H2 ⟨rfl, vs2, st2, hv2, pr2⟩
          have hl2 := Paired.length pr2
          have hl3 := flush_len (T := x.cps.toList) (st := (F, p)) (p := i)
          dsimp only at hl3
          refine ⟨fun σ3 H3 => σ3 = [some (V.str x), some (V.ref l), some (nI p), some (nI i), some (V.str ⟨#[c]⟩)] ∧ ∃ vs3, Same H H3 ∧ H3 l = some (.lst vs3) ∧ Paired (RTk H3) vs3 (lexStep x.cps.toList (F, p) i c).1, ?_, ?_⟩
          · refine ⟨_, rfl, rfl, !decide (c = 32), by rw [code_eq], ?_⟩
            unfold lexStep
            rw [if_neg hr]
            by_cases h32 : c = 32
            · rw [decide_eq_true h32, if_pos h32]
              exact iteF ⟨rfl, vs2, st2, hv2, pr2⟩
            · rw [decide_eq_false h32, if_neg h32]
              refine iteT ?_
              refine ⟨_, rfl, .inl ⟨rfl, _, SqL.of hv2⟩, _, rfl, _, rfl, by show 2 ≤ sizeLine; decide, fun Tp hTp => ?_⟩
              obtain ⟨a1, a2, a3⟩ := add_tok (i, ⟨#[c]⟩) hl st2 hv2 pr2 hTp
              exact ⟨l, vs2, .ref Tp, rfl, rfl, a1, by rw [hl2, sizeLine_eq]; simp only [List.length_nil] at hb; omega, rfl, _, a2, upd_same, a3⟩
          · rintro σ3 H3 ⟨rfl, vs3, st3, hv3, pr3⟩
            refine ⟨_, rfl, (i : Int), 1, rfl, rfl, ⟨some (nI i), some (.str ⟨#[c]⟩), vs3, ?_, st3, hv3, pr3⟩⟩
            unfold lexStep
            rw [if_neg hr]
            rfl
    · rintro σ H' ⟨xp, xs, vs, rfl, st, hv, pr⟩
      have hxl : x.cps.toList.length = x.length := Array.length_toList
      have hxs : x.cps.size = x.length := rfl
      have et : x.cps.toList.take x.cps.size = x.cps.toList := List.take_of_length_le (by rw [hxl, hxs]; exact Nat.le_refl _)
      rw [et] at pr ⊢
      have hb := lexFrom_len (T := x.cps.toList) (cs := x.cps.toList) (st := ([], 0)) (p := 0)
      have hlw : lexWords x = flush x.cps.toList (lexFrom x.cps.toList ([], 0) 0 x.cps.toList) x.cps.toList.length ++ [(x.cps.toList.length, wVoid)] := rfl
      have hvl := Paired.length pr
      generalize hS : lexFrom x.cps.toList ([], 0) 0 x.cps.toList = S at *
      obtain ⟨F, p⟩ := S
      dsimp only at hb pr hvl ⊢
      have hfl := flush_len (T := x.cps.toList) (st := (F, p)) (p := x.cps.toList.length)
      dsimp only at hfl
      simp only [List.length_nil] at hb
      refine ⟨fun σ2 H2 => σ2 = [some (V.str x), some (V.ref l), some (nI p), xp, xs] ∧ ∃ vs2, Same H H2 ∧ H2 l = some (.lst vs2) ∧ Paired (RTk H2) vs2 (flush x.cps.toList (F, p) x.cps.toList.length), ?_, ?_⟩
      · refine ⟨_, rfl, _, rfl, x, rfl, by rw [sizeLine_eq]; omega, (p : Int), (x.length : Int), rfl, rfl, decide ((p : Int) < (x.length : Int)), rfl, ?_⟩
        by_cases hpi : p < x.cps.toList.length
        · rw [decide_eq_true (show (p : Int) < (x.length : Int) by omega)]
          refine iteT ?_
          refine ⟨_, rfl, .inl ⟨rfl, _, SqL.of hv⟩, _, rfl, _, rfl, _, rfl, p, rfl, x, rfl, by rw [sizeLine_eq]; omega, ?_⟩
          rw [cutS_end x p]
          refine ⟨by show 2 ≤ sizeLine; decide, fun Tp hTp => ?_⟩
          obtain ⟨a1, a2, a3⟩ := add_tok (p, cut x.cps.toList p x.cps.toList.length) hl st hv pr hTp
          refine ⟨l, vs, .ref Tp, rfl, rfl, a1, by rw [hvl, sizeLine_eq]; omega, rfl, _, a2, upd_same, ?_⟩
          unfold flush
          rw [if_pos hpi]
          exact a3
        · rw [decide_eq_false (show ¬ (p : Int) < (x.length : Int) by omega)]
          refine iteF ⟨rfl, vs, st, hv, ?_⟩
          unfold flush
          rw [if_neg hpi]
          exact pr
      · rintro σ2 H2 ⟨rfl, vs2, st2, hv2, pr2⟩
        have hl2 := Paired.length pr2
        refine ⟨_, rfl, .inl ⟨rfl, _, SqL.of hv2⟩, _, rfl, x, rfl, by rw [sizeLine_eq]; omega, by show 2 ≤ sizeLine; decide, fun Tp hTp => ?_⟩
        obtain ⟨a1, a2, a3⟩ := add_tok (x.length, wVoid) hl st2 hv2 pr2 hTp
        refine ⟨l, vs2, .ref Tp, rfl, rfl, a1, by rw [hl2, sizeLine_eq]; omega, _, rfl, q l _ a2 ⟨_, upd_same, ?_⟩⟩
        rw [hlw, hxl]
        rw [hxl] at a3
        exact a3
end
end Lt

set_option Elab.async false
set_option linter.all false
set_option maxRecDepth 100000
set_option maxHeartbeats 1000000
/-! expected, tree_from -/
namespace Lt
open PySem PySem.Spec PyProof.Rows L2
theorem flat_strs (ws : List Str) : (ws.map V.str).all flatV = true := by
  rw [List.all_map]
  exact List.all_eq_true.mpr fun _ _ => rfl
theorem inV_strs (w : Str) (ws : List Str) : inV (.str w) (ws.map V.str) = decide (w ∈ ws) := by
  unfold inV
  rw [List.any_map]
  induction ws with
  | nil => rfl
  | cons a ws ih =>
    rw [List.any_cons, ih]
    show ((a == w) || _) = _
    by_cases h : a = w
    · subst h
      rw [beq_self_eq_true, Bool.true_or, decide_eq_true (List.mem_cons_self ..)]
    · rw [beq_eq_false_iff_ne.mpr h, Bool.false_or]
      exact decide_eq_decide.mpr ⟨fun m => List.mem_cons_of_mem _ m, fun m => by
        rcases List.mem_cons.mp m with e | m
        · exact absurd e.symm h
        · exact m⟩
theorem LTk.get {H : Hp} {l : Addr} {ts : List Tok} (h : LTk H l ts) {i : Nat} {t : Tok} (g : ts[i]? = some t) : ∃ xs T, H l = some (.lst xs) ∧ xs[i]? = some (.ref T) ∧ H T = some (.tup [nI t.1, .str t.2]) := by
  obtain ⟨xs, h1, h2⟩ := h
  obtain ⟨v, h3, a, rfl, h4⟩ := Paired.getR h2 g
  exact ⟨xs, a, h1, h3, h4⟩
section
variable {P : Program} {w : World} {K : PySem.W.Frag} {mg : Str → Option Value} {base : Heap} {CB : Addr}
def spExpected (K : PySem.W.Frag) (CB : Addr) : Sp := fun vs H Q E => ∃ (l W : Addr) (at_ : Nat) (ts : List Tok) (p : Nat) (z : Str) (ws : List Str), vs = [.ref l, nI at_, .ref W] ∧ LTk H l ts ∧ ts[at_]? = some (p, z) ∧ SqT K H W (ws.map V.str) ∧ (z ∈ ws → Q (.str z) H) ∧ (z ∉ ws → BadF CB "place" (nI p) H E)
theorem sc_expected : FnScope ["words", "at", "wanted", "place", "word"] ["words", "at", "wanted"] (defScope s_expected) := ⟨rfl, rfl, rfl, by decide +kernel, rfl, by decide +kernel, by decide +kernel⟩
theorem has_expected (T : Top K mg "expected" s_expected ["words", "at", "wanted"]) (X1 : ErrI P w K mg base "BadSign" "place" CB) : Has P w K mg base (L2.CX P w) 3 "expected" ["words", "at", "wanted"] (spExpected K CB) := by
  refine T.okX sc_expected (fun vs H Q E h => ?_) (fun f cdv A outer s H vs Q E hr h => ?_)
  · obtain ⟨l, W, at_, ts, p, z, ws, rfl, _⟩ := h
    rfl
  · obtain ⟨l, W, at_, ts, p, z, ws, rfl, hl, hg, hW, qg, qb⟩ := h
    obtain ⟨xs, T, h1, h2, h3⟩ := hl.get hg
    refine ⟨_, pss_cons (ps_asg (pe_ix ix_list (pv 0) (pv 1) (fun _ _ => rfl)) (pg_tup rfl (pgs_cons (pg_name (i := 3) sc_expected.nd rfl (Or.inl rfl)) (pgs_cons (pg_name (i := 4) sc_expected.nd rfl (Or.inl rfl)) pgs_nil))))
      (pss_cons (ps_if (pt_cmpR op_notIn_seq (pv 4) (pv 2) (by rfl)) (pss_one (ps_raise rfl (takes_of rfl rfl rfl rfl) (pmk_errI X1 hr (by rfl) (pa_cons (pv 3) pa_nil)))) pss_nil)
      (pss_one (ps_ret (pv 4)))), ?_⟩
    refine ⟨_, rfl, _, rfl, l, xs, (at_ : Int), .ref T, rfl, rfl, SqL.of h1, atI_nat h2, T, _, rfl, SqT.of h3, rfl, nI p, _, rfl, .str z, _, rfl, rfl, ?_⟩
    refine ⟨_, rfl, _, rfl, W, ws.map V.str, rfl, .inr hW, rfl, flat_strs ws, !decide (z ∈ ws), ?_, ?_⟩
    · rw [inV_strs]
      rfl
    · by_cases hz : z ∈ ws
      · rw [decide_eq_true hz]
        exact iteF ⟨_, rfl, qg hz⟩
      · rw [decide_eq_false hz]
        exact iteT ⟨_, rfl, mk_read X1.oex X1.no (qb hz)⟩
end
end Lt

set_option Elab.async false
set_option linter.all false
set_option maxRecDepth 100000
set_option maxHeartbeats 1000000
/-! tree_from -/
namespace Lt
open PySem PySem.Spec PyProof.Rows L2
/-- a formula's tree over m inputs -/
inductive TreV (H : Hp) (m : Nat) : Nat → V → Prop
  | leaf {d i : Nat} : i < m → TreV H m d (nI i)
  | neg {d : Nat} {a : Addr} {v : V} : H a = some (.tup [.str wNot, v]) → TreV H m d v → TreV H m (d + 1) (.ref a)
  | two {d : Nat} {a : Addr} {j : Str} {v u : V} : H a = some (.tup [.str j, v, u]) → j ∈ joins → TreV H m d v → TreV H m d u → TreV H m (d + 1) (.ref a)
theorem TreV.same {H H' : Hp} {m d : Nat} {v : V} (e : Same H H') (h : TreV H m d v) : TreV H' m d v := by
  induction h with
  | leaf h => exact .leaf h
  | neg h _ ih => exact .neg (e _ _ h) ih
  | two h j _ _ i1 i2 => exact .two (e _ _ h) j i1 i2
theorem word_eq (a b : Str) : decide (V.str a = V.str b) = decide (a = b) := decide_eq_decide.mpr ⟨fun h => by injection h, fun h => by rw [h]⟩
theorem Ends1.get {ts : List Tok} {k : Nat} (h : Ends1 (ts.drop k)) : ∃ t, ts[k]? = some t := by
  have := List.length_pos_iff.mpr h.ne
  rw [List.length_drop] at this
  exact ⟨ts[k], List.getElem?_eq_getElem (by omega)⟩
theorem drop_at {ts : List Tok} {k : Nat} {t : Tok} (h : ts[k]? = some t) : ts.drop k = t :: ts.drop (k + 1) := by
  obtain ⟨hl, e⟩ := List.getElem?_eq_some_iff.mp h
  rw [← e, List.drop_eq_getElem_cons hl]
theorem first_ix {w : Str} : ∀ {ns : List Str}, w ∈ ns → ∃ j, j < ns.length ∧ ns[j]? = some w ∧ ∀ (m : Nat) (z : Str), m < j → ns[m]? = some z → z ≠ w
  | a :: ns, h => by
    by_cases e : a = w
    · exact ⟨0, Nat.succ_pos _, by rw [e]; rfl, fun m z hm => absurd hm (Nat.not_lt_zero _)⟩
    · have h' : w ∈ ns := by
        rcases List.mem_cons.mp h with z | z
        · exact absurd z.symm e
        · exact z
      obtain ⟨j, h1, h2, h3⟩ := first_ix h'
      refine ⟨j + 1, Nat.succ_lt_succ h1, h2, fun m z hm hz => ?_⟩
      cases m with
      | zero =>
        injection hz with hz
        rw [← hz]
        exact e
      | succ m => exact h3 m z (Nat.lt_of_succ_lt_succ hm) hz
section
variable {P : Program} {w : World} {K : PySem.W.Frag} {mg : Str → Option Value} {base : Heap} {CB : Addr}
def spTree (CB : Addr) (f : Nat) : Sp := fun vs H Q E => ∃ (n l : Addr) (at_ ar : Nat) (ns : List Str) (ts : List Tok), vs = [.ref n, .ref l, nI at_, nI ar] ∧ H n = some (.lst (ns.map V.str)) ∧ LTk H l ts ∧ Nms ns ∧
  Ends1 (ts.drop at_) ∧ opens (ts.drop at_) < f ∧ ar + opens (ts.drop at_) ≤ 20 ∧
  (∀ p, prs ns f ar (ts.drop at_) = .error p → BadF CB "place" (nI p) H E) ∧
  (∀ r, prs ns f ar (ts.drop at_) = .ok r → ∀ (a : Addr) (v : V) (k : Nat) (H' : Hp), Same H H' → H' a = some (.tup [v, nI k]) → TreV H' ns.length f v → ts.drop k = r → Q (.ref a) H')
theorem sc_tree_from : FnScope ["names", "words", "at", "around", "place", "word", "tree", "left", "joiner", "right"] ["names", "words", "at", "around"] (defScope s_tree_from) := ⟨rfl, rfl, rfl, by decide +kernel, rfl, by decide +kernel, by decide +kernel⟩
/-- the names that tree_from reads -/
structure GlT (K : PySem.W.Frag) (mg : Str → Option Value) : Prop where
  most : ∃ u, mg "MOST_AROUND" = some u ∧ RelV (.int 20) u
  join : ∃ J : Addr, mg "JOINERS" = some (.ref J) ∧ ∀ H, SqT K H J (joins.map V.str)
theorem has_tree_from (T : Top K mg "tree_from" s_tree_from ["names", "words", "at", "around"]) (X1 : ErrI P w K mg base "BadSign" "place" CB) (G : GlT K mg)
    (hX : Has P w K mg base (L2.CX P w) 3 "expected" ["words", "at", "wanted"] (spExpected K CB)) : ∀ f, Has P w K mg base (L2.CX P w) (f + 4) "tree_from" ["names", "words", "at", "around"] (spTree CB f)
  | 0 => T.okX sc_tree_from (fun vs H Q E h => by obtain ⟨n, l, at_, ar, ns, ts, rfl, _⟩ := h; rfl) (fun f cdv A outer s H vs Q E hr h => by
      obtain ⟨n, l, at_, ar, ns, ts, rfl, h1, h2, h3, h4, h5, _⟩ := h
      exact absurd h5 (Nat.not_lt_zero _))
  | fu + 1 => by
    have ih := has_tree_from T X1 G hX fu
    refine T.okX sc_tree_from (fun vs H Q E h => ?_) (fun f cdv A outer s H vs Q E hr h => ?_)
    · obtain ⟨n, l, at_, ar, ns, ts, rfl, _⟩ := h
      rfl
    · obtain ⟨n, l, at_, ar, ns, ts, rfl, hn, hl, N, he, ho, ha, bad, good⟩ := h
      have hr2 : Room 2 _ := hr.mono (by omega)
      have hr3 : Room 3 _ := hr.mono (by omega)
      obtain ⟨J, hJ, sJ⟩ := G.join
      refine ⟨_, pss_cons (ps_asg (pe_ix ix_list (pv 1) (pv 2) (fun _ _ => rfl)) (pg_tup rfl (pgs_cons (pg_name (i := 4) sc_tree_from.nd rfl (Or.inl rfl)) (pgs_cons (pg_name (i := 5) sc_tree_from.nd rfl (Or.inl rfl)) pgs_nil))))
        (pss_cons (ps_if (pt_cmpR op_gt (pv 3) (pe_gc2 (by rfl) G.most) (nomark _)) (pss_one (ps_raise rfl (takes_of rfl rfl rfl rfl) (pmk_errI X1 hr2 (by rfl) (pa_cons (pv 4) pa_nil)))) pss_nil)
        (pss_cons (ps_if (pt_cmpR op_in_seq (pv 5) (pv 0) (by rfl)) (pss_one (ps_ret (pe_tup (pa_cons (pe_bm PySem.F.plainAttrs_list PySem.F.slot_list_index PySem.F.type_list_index mt_index (pv 0) (pa_cons (pv 5) pa_nil)) (pa_cons (pe_op op_add (pv 2) pe_int) pa_nil))))) pss_nil)
        (pss_cons (ps_if (pt_cmpR op_eq (pv 5) pe_str (nomark _))
          (pss_cons (ps_asg (pe_hasX (E := E) ih hr (by rfl) (passes_call (takes_of rfl rfl rfl rfl) (fun _ _ _ _ h => h)) (pa_cons (pv 0) (pa_cons (pv 1) (pa_cons (pe_op op_add (pv 2) pe_int) (pa_cons (pe_op op_add (pv 3) pe_int) pa_nil))))) (pg_tup rfl (pgs_cons (pg_name (i := 6) sc_tree_from.nd rfl (Or.inl rfl)) (pgs_cons (pg_name (i := 2) sc_tree_from.nd rfl (Or.inl rfl)) pgs_nil))))
          (pss_one (ps_ret (pe_tup (pa_cons (pe_tup (pa_cons (pv 5) (pa_cons (pv 6) pa_nil))) (pa_cons (pv 2) pa_nil)))))) pss_nil)
        (pss_cons (ps_if (pt_cmpR op_ne (pv 5) pe_str (nomark _)) (pss_one (ps_raise rfl (takes_of rfl rfl rfl rfl) (pmk_errI X1 hr2 (by rfl) (pa_cons (pv 4) pa_nil)))) pss_nil)
        (pss_cons (ps_asg (pe_hasX (E := E) ih hr (by rfl) (passes_call (takes_of rfl rfl rfl rfl) (fun _ _ _ _ h => h)) (pa_cons (pv 0) (pa_cons (pv 1) (pa_cons (pe_op op_add (pv 2) pe_int) (pa_cons (pe_op op_add (pv 3) pe_int) pa_nil))))) (pg_tup rfl (pgs_cons (pg_name (i := 7) sc_tree_from.nd rfl (Or.inl rfl)) (pgs_cons (pg_name (i := 2) sc_tree_from.nd rfl (Or.inl rfl)) pgs_nil))))
        (pss_cons (ps_set (i := 8) sc_tree_from.nd rfl (Or.inl rfl) (pe_hasX (E := E) hX hr3 (by rfl) (passes_call (takes_of rfl rfl rfl rfl) (fun _ _ _ _ h => h)) (pa_cons (pv 1) (pa_cons (pv 2) (pa_cons (pe_glob (v := .ref J) (by rfl) hJ rfl) pa_nil)))))
        (pss_cons (ps_asg (pe_hasX (E := E) ih hr (by rfl) (passes_call (takes_of rfl rfl rfl rfl) (fun _ _ _ _ h => h)) (pa_cons (pv 0) (pa_cons (pv 1) (pa_cons (pe_op op_add (pv 2) pe_int) (pa_cons (pe_op op_add (pv 3) pe_int) pa_nil))))) (pg_tup rfl (pgs_cons (pg_name (i := 9) sc_tree_from.nd rfl (Or.inl rfl)) (pgs_cons (pg_name (i := 2) sc_tree_from.nd rfl (Or.inl rfl)) pgs_nil))))
        (pss_cons (ps_expr (pe_hasX (E := E) hX hr3 (by rfl) (passes_call (takes_of rfl rfl rfl rfl) (fun _ _ _ _ h => h)) (pa_cons (pv 1) (pa_cons (pv 2) (pa_cons (pe_tup (pa_cons pe_str pa_nil)) pa_nil)))))
        (pss_one (ps_ret (pe_tup (pa_cons (pe_tup (pa_cons (pv 8) (pa_cons (pv 7) (pa_cons (pv 9) pa_nil)))) (pa_cons (pe_op op_add (pv 2) pe_int) pa_nil))))))))))))), ?_⟩
      obtain ⟨⟨p, w0⟩, hg⟩ := he.get
      obtain ⟨xs, T0, h1, h2, h3⟩ := hl.get hg
      have PM := prs_mach N (fu + 1) ar (ts.drop at_) [] he ho ha
      rw [drop_at hg] at he ho ha bad good
      rw [opens_cons] at ho ha
      have har : ¬ 20 < ar := by omega
      refine ⟨_, rfl, _, rfl, l, xs, (at_ : Int), .ref T0, rfl, rfl, SqL.of h1, atI_nat h2, T0, _, rfl, SqT.of h3, rfl, nI p, _, rfl, .str w0, _, rfl, rfl, ?_⟩
      refine ⟨_, rfl, (ar : Int), 20, rfl, rfl, decide ((20 : Int) < (ar : Int)), rfl, ?_⟩
      rw [decide_eq_false (show ¬ (20 : Int) < (ar : Int) by omega)]
      refine iteF ?_
      refine ⟨_, rfl, _, rfl, n, ns.map V.str, rfl, .inl (SqL.of hn), rfl, flat_strs ns, decide (w0 ∈ ns), congrArg V.bl (inV_strs w0 ns), ?_⟩
      rw [prs, if_neg har] at bad good
      by_cases m1 : w0 ∈ ns
      · rw [decide_eq_true m1]
        rw [if_pos m1] at bad good
        obtain ⟨j, j1, j2, j3⟩ := first_ix m1
        refine iteT ⟨_, rfl, .inl ⟨rfl, _, SqL.of hn⟩, _, rfl, n, ns.map V.str, .str w0, j, .str w0, rfl, rfl, SqL.of hn, rfl, flat_strs ns, by rw [List.getElem?_map, j2]; rfl, beq_self_eq_true _, fun m z' hm hz => ?_, _, rfl, (at_ : Int), 1, rfl, rfl, by show 2 ≤ sizeLine; decide, fun a ha0 => ?_⟩
        · rw [List.getElem?_map] at hz
          obtain ⟨z, hz1, rfl⟩ := Option.map_eq_some_iff.mp hz
          exact beq_eq_false_iff_ne.mpr (j3 m z hm hz1)
        · exact good _ rfl a (nI j) (at_ + 1) _ (same_new ha0) upd_same (.leaf j1) rfl
      · rw [decide_eq_false m1]
        rw [if_neg m1] at bad good
        refine iteF ?_
        refine ⟨_, rfl, rfl, decide (w0 = wNot), congrArg V.bl (word_eq w0 wNot), ?_⟩
        by_cases m2 : w0 = wNot
        · rw [decide_eq_true m2]
          rw [if_pos m2] at bad good
          rw [if_pos (isOpen_not m2)] at ho ha
          refine iteT ⟨_, rfl, _, rfl, _, rfl, (at_ : Int), 1, rfl, rfl, _, rfl, (ar : Int), 1, rfl, rfl, n, l, at_ + 1, ar + 1, ns, ts, rfl, hn, hl, N, he.tl (show w0 ≠ wVoid by rw [m2]; exact words_ne.1), by omega, by omega, bad, fun r hp a v k H1 s1 ha1 tv hk => ?_⟩
          refine ⟨a, _, rfl, SqT.of ha1, rfl, v, _, rfl, nI k, _, rfl, rfl, ?_⟩
          refine ⟨_, rfl, _, rfl, by show 2 ≤ sizeLine; decide, fun T2 hT2 => ⟨_, rfl, by show 2 ≤ sizeLine; decide, fun T3 hT3 => ?_⟩⟩
          have s2 := same_new (o := .tup [V.str w0, v]) hT2
          have s3 := same_new (o := .tup [V.ref T2, nI k]) hT3
          refine good r hp T3 (.ref T2) k _ (s1.trans (s2.trans s3)) upd_same (.neg (v := v) ?_ (tv.same (s2.trans s3))) hk
          rw [← m2]
          exact s3 _ _ upd_same
        · rw [decide_eq_false m2]
          rw [if_neg m2] at bad good
          refine iteF ?_
          refine ⟨_, rfl, rfl, !decide (w0 = wOp), congrArg (fun b => V.bl (!b)) (word_eq w0 wOp), ?_⟩
          by_cases m3 : w0 = wOp
          · rw [decide_eq_true m3]
            rw [if_neg (fun z => z m3)] at bad good
            rw [if_pos (isOpen_op m3)] at ho ha
            have e1 := he.tl (show w0 ≠ wVoid by rw [m3]; exact words_ne.2.1)
            have A1 := prs_mach N fu (ar + 1) (ts.drop (at_ + 1)) [] e1 (by omega) (by omega)
            refine iteF ⟨_, rfl, _, rfl, _, rfl, (at_ : Int), 1, rfl, rfl, _, rfl, (ar : Int), 1, rfl, rfl, n, l, at_ + 1, ar + 1, ns, ts, rfl, hn, hl, N, e1, by omega, by omega, fun p hp => ?_, fun r hp a v k H1 s1 ha1 tv hk => ?_⟩
            · rw [hp] at bad
              exact bad p rfl
            · rw [hp] at bad good A1
              obtain ⟨e2, k1, a2, a3, _⟩ := A1
              rw [← hk] at e2 a3 bad good
              obtain ⟨⟨p2, w2⟩, g2⟩ := e2.get
              rw [drop_at g2] at e2 a3 bad good
              dsimp only at bad good
              rw [opens_cons] at a3
              refine ⟨a, _, rfl, SqT.of ha1, rfl, v, _, rfl, nI k, _, rfl, rfl, ?_⟩
              have hl1 := hl.same s1
              refine ⟨_, rfl, _, rfl, l, J, k, ts, p2, w2, joins, rfl, hl1, g2, sJ _, fun m4 => ?_, fun m4 => ?_⟩
              · rw [if_neg (fun z => z m4)] at bad good
                have e3 := e2.tl (show w2 ≠ wVoid from fun e => words_ne.2.2.2.1 (e ▸ m4))
                have A2 := prs_mach N fu (ar + 1) (ts.drop (k + 1)) [] e3 (by omega) (by omega)
                refine ⟨_, rfl, _, rfl, _, rfl, (k : Int), 1, rfl, rfl, _, rfl, (ar : Int), 1, rfl, rfl, n, l, k + 1, ar + 1, ns, ts, rfl, s1 _ _ hn, hl1, N, e3, by omega, by omega, fun p hp => ?_, fun r2 hp2 a' u k2 H2 s2 ha2 tu hk2 => ?_⟩
                · rw [hp] at bad
                  exact (bad p rfl).same s1
                · rw [hp2] at bad good A2
                  obtain ⟨e4, _, _, a4, _⟩ := A2
                  rw [← hk2] at e4 bad good
                  obtain ⟨⟨p4, w4⟩, g4⟩ := e4.get
                  rw [drop_at g4] at e4 bad good
                  dsimp only at bad good
                  refine ⟨a', _, rfl, SqT.of ha2, rfl, u, _, rfl, nI k2, _, rfl, rfl, ?_⟩
                  have s12 := s1.trans s2
                  refine ⟨_, rfl, _, rfl, by show 1 ≤ sizeLine; decide, fun T4 hT4 => ?_⟩
                  have s3 := same_new (o := .tup [V.str wCl]) hT4
                  refine ⟨l, T4, k2, ts, p4, w4, [wCl], rfl, (hl.same s12).same s3, g4, SqT.of upd_same, fun m5 => ?_, fun m5 => ?_⟩
                  · have m5' : w4 = wCl := List.mem_singleton.mp m5
                    rw [if_neg (fun z => z m5')] at good
                    refine ⟨_, rfl, _, rfl, _, rfl, by show 3 ≤ sizeLine; decide, fun T5 hT5 => ⟨_, rfl, (k2 : Int), 1, rfl, rfl, by show 2 ≤ sizeLine; decide, fun T6 hT6 => ?_⟩⟩
                    have s5 := same_new (o := .tup [V.str w2, v, u]) hT5
                    have s6 := same_new (o := .tup [V.ref T5, V.int ((k2 : Int) + 1)]) hT6
                    exact good _ rfl T6 (.ref T5) (k2 + 1) _ (s12.trans (s3.trans (s5.trans s6))) upd_same (.two (s6 _ _ upd_same) m4 (tv.same (s2.trans (s3.trans (s5.trans s6)))) (tu.same (s3.trans (s5.trans s6)))) rfl
                  · have m5' : w4 ≠ wCl := fun z => m5 (List.mem_singleton.mpr z)
                    rw [if_pos m5'] at bad
                    exact ((bad p4 rfl).same s12).same s3
              · rw [if_pos m4] at bad
                exact (bad p2 rfl).same s1
          · rw [decide_eq_false m3]
            rw [if_pos m3] at bad good
            exact iteT ⟨_, rfl, mk_read X1.oex X1.no (bad p rfl)⟩
end
end Lt

set_option Elab.async false
set_option linter.all false
set_option maxRecDepth 100000
set_option maxHeartbeats 1000000
/-! check_inputs, formula_tree -/
namespace Lt
open PySem PySem.Spec PyProof.Rows L2
/-- the name of an input -/
def xN (i : Nat) : Str := Str.empty ++ ("x" : Str) ++ Str.ofString (toString ((i : Nat) : Int))
def nmL (m : Nat) : List Str := (List.range m).map xN
theorem lexWords_ends (x : Str) : Ends1 (lexWords x) := ⟨_, _, rfl⟩
def RStr (_ : Hp) (v : V) (z : Str) : Prop := v = .str z
theorem RStr.all {H : Hp} : ∀ {zs : List V} {t : List Str}, Paired (RStr H) zs t → zs = t.map V.str
  | _, _, .nil => rfl
  | _, _, .cons r t => by rw [(show _ = V.str _ from r), RStr.all t]; rfl
theorem log_small {i : Nat} (h : i < 1000) : ((i : Nat) : Int).natAbs.log2 < 1920 := by
  rw [Int.natAbs_natCast]
  by_cases z : i = 0
  · subst z; decide +kernel
  · exact (Nat.log2_lt z).mpr (Nat.lt_of_lt_of_le h (by decide +kernel))
def tXn : TE := fun σ H Q => tJs [tC (.str "x"), tFmt (tVar 6)] Str.empty σ H fun out H1 => Q (.str out) H1
theorem xN_len : ∀ i, i < 6 → (Str.empty ++ ("x" : Str)).length ≤ 16777216 ∧ (xN i).length ≤ 16777216 := by decide +kernel
section
variable {P : Program} {w : World} {K : PySem.W.Frag} {mg : Str → Option Value} {base : Heap} {CB CN CS : Addr}
def spCheckIn : Sp := fun vs H Q _ => ∃ m : Nat, vs = [nI m] ∧ 1 ≤ m ∧ m ≤ 6 ∧ Q .non H
theorem sc_check_inputs : FnScope ["inputs"] ["inputs"] (defScope s_check_inputs) := ⟨rfl, rfl, rfl, by decide +kernel, rfl, by decide +kernel, by decide +kernel⟩
theorem has_check_inputs (T : Top K mg "check_inputs" s_check_inputs ["inputs"]) (G : ∃ u, mg "MOST_INPUTS" = some u ∧ RelV (.int 6) u) (X0 : Err0 K mg "BadNumber" CN) (hN : Has P w K mg base CX0 1 "is_number" ["value"] spNum) : Has P w K mg base (L2.CX P w) 3 "check_inputs" ["inputs"] spCheckIn := by
  refine T.okX sc_check_inputs (fun vs H Q E h => ?_) (fun f cdv A outer s H vs Q E hr h => ?_)
  · obtain ⟨m, rfl, _⟩ := h
    rfl
  · obtain ⟨m, rfl, h1, h6, q⟩ := h
    have hr1 : Room 1 _ := hr.mono (by decide)
    refine ⟨_, pss_one (ps_if (PW.pt (pw_or (pt_not (pt_val (pe_has hN hr1 (by rfl) (pa_cons (pv 0) pa_nil)))) (pw_or1 (pt_not (pt_chain op_le op_le pe_int (pv 0) (pe_gc2 (by rfl) G)))))) (pss_one (ps_raise rfl (takes_of rfl rfl rfl rfl) (pmk_err0 X0 (by rfl)))) pss_nil), ?_⟩
    refine ⟨_, rfl, nI m, .int m, rfl, .int _, true, rfl, iteF ⟨_, rfl, 1, (m : Int), rfl, rfl, true, congrArg V.bl (decide_eq_true (show (1 : Int) ≤ (m : Int) by omega)), iteT ⟨(m : Int), 6, rfl, rfl, true, congrArg V.bl (decide_eq_true (show (m : Int) ≤ 6 by omega)), iteF q⟩⟩⟩
def spFT (CB : Addr) : Sp := fun vs H Q E => ∃ (m : Nat) (x : Str), vs = [nI m, .str x] ∧ 1 ≤ m ∧ m ≤ 6 ∧ x.length ≤ 1000 ∧ Nms (nmL m) ∧ opens (lexWords x) ≤ 20 ∧
  (∀ p, prs (nmL m) 21 0 (lexWords x) = .error p → BadF CB "place" (nI p) H E) ∧
  (∀ r, prs (nmL m) 21 0 (lexWords x) = .ok r → (r.length < 2 → ∀ v H', Same H H' → TreV H' m 21 v → Q v H') ∧ ∀ t r', r = t :: r' → 2 ≤ r.length → BadF CB "place" (nI t.1) H E)
theorem sc_formula_tree : FnScope ["inputs", "text", "words", "names", "tree", "at", "own"] ["inputs", "text"] (defScope s_formula_tree) := ⟨rfl, rfl, rfl, by decide +kernel, rfl, by decide +kernel, by decide +kernel⟩
theorem has_formula_tree (T : Top K mg "formula_tree" s_formula_tree ["inputs", "text"]) (B : Bi mg) (X1 : ErrI P w K mg base "BadSign" "place" CB) (X2 : Err0 K mg "BadString" CS)
    (hC : Has P w K mg base (L2.CX P w) 3 "check_inputs" ["inputs"] spCheckIn) (hW : Has P w K mg base CX0 1 "placed_words" ["text"] spWords)
    (hT : Has P w K mg base (L2.CX P w) 25 "tree_from" ["names", "words", "at", "around"] (spTree CB 21)) : Has P w K mg base (L2.CX P w) 26 "formula_tree" ["inputs", "text"] (spFT CB) := by
  refine T.okX sc_formula_tree (fun vs H Q E h => ?_) (fun f cdv A outer s H vs Q E hr h => ?_)
  · obtain ⟨m, x, rfl, _⟩ := h
    rfl
  · obtain ⟨m, x, rfl, h1, h6, hx, N, ho, bad, good⟩ := h
    have hr1 : Room 1 _ := hr.mono (by decide)
    have hr2 : Room 2 _ := hr.mono (by decide)
    have hr3 : Room 3 _ := hr.mono (by decide)
    refine ⟨_, pss_cons (ps_expr (pe_hasL hC hr3 (by rfl) (pa_cons (pv 0) pa_nil)))
      (pss_cons (ps_if (pt_not (pt_val (pe_callB call_isi (by rfl) B.isinstance PyProof.Rows.boot_isinstance (pa_cons (pv 1) (pa_cons (pe_bltn (by rfl) B.str PyProof.Rows.boot_str (rr_ty "str")) pa_nil))))) (pss_one (ps_raise rfl (takes_of rfl rfl rfl rfl) (pmk_err0 X2 (by rfl)))) pss_nil)
      (pss_cons (ps_set (i := 2) sc_formula_tree.nd rfl (Or.inl rfl) (pe_has hW hr1 (by rfl) (pa_cons (pv 1) pa_nil)))
      (pss_cons (ps_setLc (i := 3) (own := [("own", 6)]) (g := gName 6) (te := tXn) (by rfl) sc_formula_tree.nd rfl rfl (sw_true rfl rfl rfl (by decide +kernel)) (pi_range1 (by rfl) B.range (pa_cons (pv 0) pa_nil)) (blkOk_by (own := [("own", 6)]) (N := ["inputs", "text", "words", "names", "tree", "at", "own"]) (sc := defScope s_formula_tree) (by decide +kernel))
        (fun _ _ _ _ _ => pg_name (i := 6) sc_formula_tree.nd rfl (Or.inl rfl)) (fun _ _ _ _ _ => pts_nil) (fun _ _ _ _ _ => pe_joined (.cons pe_str (.cons (pe_fmt (pv 6)) .nil))))
      (pss_cons (ps_asg (pe_hasX (E := E) hT hr (by rfl) (passes_call (takes_of rfl rfl rfl rfl) (fun _ _ _ _ h => h)) (pa_cons (pv 3) (pa_cons (pv 2) (pa_cons pe_int (pa_cons pe_int pa_nil))))) (pg_tup rfl (pgs_cons (pg_name (i := 4) sc_formula_tree.nd rfl (Or.inl rfl)) (pgs_cons (pg_name (i := 5) sc_formula_tree.nd rfl (Or.inl rfl)) pgs_nil))))
      (pss_cons (ps_if (pt_cmpR op_lt (pv 5) (pe_op op_sub (pe_callB call_len_seq (by rfl) B.len PySem.boot_len (pa_cons (pv 2) pa_nil)) pe_int) (nomark _)) (pss_one (ps_raise rfl (takes_of rfl rfl rfl rfl) (pmk_errI X1 hr2 (by rfl) (pa_cons (pe_ix ix_tup (pe_ix ix_list (pv 2) (pv 5) (fun _ _ => rfl)) pe_int (fun _ _ => rfl)) pa_nil)))) pss_nil)
      (pss_one (ps_ret (pv 4)))))))), ?_⟩
    refine ⟨_, rfl, m, rfl, h1, h6, ?_⟩
    refine ⟨_, rfl, .str x, .ty "str", _, _, true, rfl, .ty _, rp_ty (.str x), kit_ty (kit_str (.str x)), true, rfl, iteF ?_⟩
    refine ⟨_, rfl, x, rfl, hx, fun l H1 s1 hl => ?_⟩
    refine ⟨_, rfl, (m : Int), rfl, by omega, by omega, fun D hD => lc_rangeM (n := (m : Int).toNat) RStr (nmL m) (fun _ _ _ _ _ r => r) (by omega) (by unfold nmL; rw [List.length_map, List.length_range, Int.toNat_natCast]) hD (fun x => rfl) (fun i z hi hz H' sm Q' q' => ?_) (fun H2 zs s2 hz pr => ?_)⟩
    · have hi6 : i < 6 := by omega
      have ez : z = xN i := by
        unfold nmL at hz
        rw [List.getElem?_map, List.getElem?_range (by omega)] at hz
        exact (Option.some.inj hz).symm
      obtain ⟨l1, l2⟩ := xN_len i hi6
      refine ⟨("x" : Str), rfl, by rw [sizeLine_eq]; exact l1, _, rfl, .inr ⟨((i : Nat) : Int), congrArg V.int (Int.zero_add _), log_small (by omega), _, rfl, by rw [sizeLine_eq]; exact l2, q' _ H' (Same.refl _) ?_⟩⟩
      rw [ez]
      rfl
    · rw [RStr.all pr] at hz
      have sD : Same H H2 := s1.trans s2
      have hl2 := hl.same s2
      refine ⟨_, rfl, _, rfl, D, l, 0, 0, nmL m, lexWords x, rfl, hz, hl2, N, lexWords_ends x, by show opens (lexWords x) < 21; omega, by show 0 + opens (lexWords x) ≤ 20; omega, fun p hp => (bad p hp).same sD, fun r hp a v k H3 s3 ha tv hk => ?_⟩
      obtain ⟨g1, g2⟩ := good r hp
      have PM := prs_mach N 21 0 (lexWords x) [] (lexWords_ends x) (by omega) (by omega)
      rw [show prs (nmL m) 21 0 (lexWords x) = .ok r from hp] at PM
      have hne := PM.1.ne
      have hl3 := hl2.same s3
      obtain ⟨xs, hx1, hx2⟩ := hl3
      have hxl := Paired.length hx2
      have hrl : r.length = (lexWords x).length - k := by rw [← hk, List.length_drop]
      have hrp : 0 < r.length := List.length_pos_iff.mpr hne
      refine ⟨a, _, rfl, SqT.of ha, rfl, v, _, rfl, nI k, _, rfl, rfl, ?_⟩
      refine ⟨_, rfl, _, rfl, l, xs, rfl, .inl (SqL.of hx1), (xs.length : Int), 1, rfl, rfl, (k : Int), (xs.length : Int) - 1, rfl, rfl, decide ((k : Int) < (xs.length : Int) - 1), rfl, ?_⟩
      by_cases h2 : r.length < 2
      · rw [decide_eq_false (show ¬ (k : Int) < (xs.length : Int) - 1 by omega)]
        refine iteF ⟨_, rfl, g1 h2 _ _ (sD.trans s3) ?_⟩
        have el : (nmL m).length = m := by unfold nmL; rw [List.length_map, List.length_range]
        rw [el] at tv
        exact tv
      · rw [decide_eq_true (show (k : Int) < (xs.length : Int) - 1 by omega)]
        cases r with
        | nil => exact absurd rfl hne
        | cons t r' =>
          have hgt : (lexWords x)[k]? = some t := by
            have := drop_get (n := 0) hk.symm rfl
            exact this
          obtain ⟨xs', T, k1, k2, k3⟩ := (LTk.get ⟨xs, hx1, hx2⟩ hgt)
          refine iteT ⟨_, rfl, _, rfl, l, xs', (k : Int), .ref T, rfl, rfl, SqL.of k1, atI_nat k2, T, _, 0, nI t.1, rfl, rfl, SqT.of k3, rfl, ?_⟩
          exact mk_read X1.oex X1.no (((g2 t r' rfl (by omega)).same sD).same s3)
end
end Lt

set_option Elab.async false
set_option linter.all false
set_option maxRecDepth 100000
set_option maxHeartbeats 1000000
/-! a comprehension over enumerate of a tuple -/
namespace Lt
open PySem PySem.Spec PyProof.Rows L2
theorem lc_enumM {K : PySem.W.Frag} {te : TE} {g : TG} {vs : List Nat} {σ : L2.St} {H1 : Hp} {D : Addr} {Qd : Hp → Prop} {β : Type} {j1 j2 : Nat} {a : Addr} {xs : List V} (R : Hp → V → β → Prop) (ys : List β)
    (mono : ∀ H H' v b, Tm H H' → R H v b → R H' v b) (hxK : ∀ H, Same H1 H → SqT K H a xs) (hz : xs.length ≤ 100000) (hy : ys.length = xs.length) (hD : H1 D = none)
    (hg : ∀ T x (i : Nat) σ H Q, H T = some (.tup [nI i, x]) → Q ((σ.set j1 (some (nI i))).set j2 (some x)) H → g (.ref T) σ H Q)
    (hw : ∀ x y, wipe (((wipe σ vs).set j1 x).set j2 y) vs = wipe σ vs)
    (he : ∀ (i : Nat) (x : V) (b : β), xs[i]? = some x → ys[i]? = some b → ∀ H, Same H1 H → ∀ Q : VK, (∀ v H', Same H H' → R H' v b → Q v H') → te (((wipe σ vs).set j1 (some (nI i))).set j2 (some x)) H Q)
    (hd : ∀ H zs, Same H1 H → H D = some (.lst zs) → Paired (R H) zs ys → Qd H) :
    ∃ W : Nat → Nat → Hp → Prop, (∃ m, W 0 m (upd H1 D (.lst []))) ∧ ∀ i m H, W i m H →
      ((Itet K a).stop i H ∧ Qd H) ∨ ((Itet K a).go i H ∧ ∃ Nx : Hp → Prop, (∀ H', Nx H' → ∃ m', m' < m ∧ W (i + 1) m' H') ∧ ∀ x H', (Itet K a).yld i H x H' → g x (wipe σ vs) H' fun σ2 H2 => wipe σ2 vs = wipe σ vs ∧ tYes σ2 H2 fun b H3 =>
        if b = true then te σ2 H3 fun y H4 => ∃ acc, H4 D = some (.lst acc) ∧ acc.length < sizeLine ∧ Nx (upd H4 D (.lst (acc ++ [y]))) else Nx H3) := by
  refine ⟨fun i m H => m = xs.length - i ∧ i ≤ xs.length ∧ Cm H1 D R ys i H, ⟨xs.length, by simp, Nat.zero_le _, same_new hD, [], upd_same, .nil, Nat.le_refl _⟩, ?_⟩
  rintro i m H ⟨rfl, hi, p⟩
  have q := hxK H p.1
  by_cases hlt : i < xs.length
  · refine .inr ⟨⟨xs, xs[i], q, by simp [hlt]⟩, Cm H1 D R ys (i + 1), fun H' p' => ⟨xs.length - (i + 1), by omega, rfl, hlt, p'⟩, fun y H' yl => ?_⟩
    obtain ⟨T, x, rfl, hT, rfl, hx⟩ := yl
    have hx := hx xs q
    have sT := same_new (o := .tup [V.int (i : Nat), x]) hT
    refine hg T x i _ _ _ upd_same ⟨hw _ _, iteT (B := Cm H1 D R ys (i + 1) (upd H T (.tup [V.int (i : Nat), x]))) ?_⟩
    have hb : ys[i]? = some (ys[i]'(by omega)) := List.getElem?_eq_getElem (by omega)
    obtain ⟨sm, zs, h1, pr, hl⟩ := p
    exact cm_turn mono hD ⟨sm.trans sT, zs, sT _ _ h1, paired_mono (fun a b r => mono _ _ _ _ (Tm.of sT) r) pr, hl⟩ (by omega) hb (he i x _ hx hb)
  · have e : i = xs.length := by omega
    subst e
    refine .inl ⟨⟨xs, q, rfl⟩, ?_⟩
    obtain ⟨sm, zs, h1, pr, _⟩ := p
    rw [← hy, List.take_length] at pr
    exact hd H zs sm h1 pr
end Lt

set_option Elab.async false
set_option linter.all false
set_option maxRecDepth 100000
set_option maxHeartbeats 1000000
/-! input_table, bits_of, worth_of -/
namespace Lt
open PySem PySem.Spec PyProof.Rows L2
def itab (m own : Nat) : List Nat := (List.range (2 ^ m)).map fun p => p / 2 ^ own % 2
theorem itab_len (m own : Nat) : (itab m own).length = 2 ^ m := by unfold itab; rw [List.length_map, List.length_range]
theorem itab_le {m own b : Nat} (h : b ∈ itab m own) : b ≤ 1 := by
  unfold itab at h
  obtain ⟨p, _, rfl⟩ := List.mem_map.mp h
  omega
/-- the numbers whose sum is a table's -/
def bitL (bs : List Nat) : List Int := (List.range bs.length).map fun i => (bs.getD i 0 : Int) * 2 ^ i
def RI (_ : Hp) (v : V) (n : Int) : Prop := v = .int n
theorem RI.all {H : Hp} : ∀ {zs : List V} {t : List Int}, Paired (RI H) zs t → zs = t.map V.int
  | _, _, .nil => rfl
  | _, _, .cons r t => by rw [(show _ = V.int _ from r), RI.all t]; rfl
theorem pow6 {m : Nat} (h : m ≤ 6) : 2 ^ m ≤ 64 := Nat.le_trans (Nat.pow_le_pow_right (by decide) h) (by decide)
section
variable {P : Program} {w : World} {K : PySem.W.Frag} {mg : Str → Option Value} {base : Heap}
def spITab : Sp := fun vs H Q _ => ∃ (m own : Nat), vs = [nI m, nI own] ∧ m ≤ 6 ∧ ∀ v H', Same H H' → TK H' v (itab m own) → Q v H'
theorem sc_input_table : FnScope ["inputs", "own", "place"] ["inputs", "own"] (defScope s_input_table) := ⟨rfl, rfl, rfl, by decide +kernel, rfl, by decide +kernel, by decide +kernel⟩
theorem has_input_table (T : Top K mg "input_table" s_input_table ["inputs", "own"]) (B : Bi mg) : Has P w K mg base CX0 1 "input_table" ["inputs", "own"] spITab := by
  refine T.ok sc_input_table (fun vs H Q E h => ?_) (fun f cdv A outer s H vs Q E hr h => ?_)
  · obtain ⟨m, own, rfl, _⟩ := h
    rfl
  · obtain ⟨m, own, rfl, hm, q⟩ := h
    have h64 := pow6 hm
    refine ⟨_, pss_one (ps_ret (pe_tupleOf (by rfl) B.tuple (pe_lc (own := [("place", 2)]) (g := gName 2) (te := tOp (fun x y H Q => ∃ (i : Int) (k : Nat), x = .int i ∧ y = .int (2 ^ k - 1) ∧ Q (.int (i % 2 ^ k)) H) (tOp (fun x y H Q => ∃ (i : Int) (k : Nat), x = .int i ∧ y = .int (k : Int) ∧ Q (.int (i / 2 ^ k)) H) (tVar 2) (tVar 1)) (tC (.int 1))) (by rfl) sc_input_table.nd (pi_range1 (by rfl) B.range (pa_cons (pe_op op_shl pe_int (pv 0)) pa_nil)) (blkOk_by (own := [("place", 2)]) (N := ["inputs", "own", "place"]) (sc := defScope s_input_table) (by decide +kernel))
      (fun _ _ _ _ _ => pg_name (i := 2) sc_input_table.nd rfl (Or.inl rfl)) (fun _ _ _ _ _ => pts_nil) (fun _ _ _ _ _ => pe_op op_andM (pe_op op_shrN (pv 2) (pv 1)) pe_int)))), ?_⟩
    have e1 : (1 : Int) * 2 ^ (m : Int).toNat = ((2 ^ m : Nat) : Int) := by rw [Int.toNat_natCast, Int.one_mul, Int.natCast_pow]; rfl
    refine ⟨_, rfl, 1, (m : Int), rfl, rfl, ⟨by omega, by omega, by decide⟩, ?_⟩
    obtain ⟨k, hk⟩ : ∃ k, k = 2 ^ m := ⟨_, rfl⟩
    rw [← hk] at e1 h64
    refine ⟨(k : Int), congrArg (fun z : Int => [V.int z]) e1, by omega, by omega, fun D hD => lc_rangeM (n := (k : Int).toNat) RN (itab m own) (fun _ _ _ _ _ r => r) (by omega) (by rw [itab_len, ← hk]; omega) hD (fun x => rfl) (fun i b hi hb H' sm Q' q' => ?_) (fun H' zs sm hz pr => ?_)⟩
    · have eb : b = i / 2 ^ own % 2 := by
        unfold itab at hb
        rw [List.getElem?_map, List.getElem?_range (by omega)] at hb
        exact (Option.some.inj hb).symm
      refine ⟨_, rfl, _, rfl, ((0 : Int) + (i : Nat)), own, rfl, rfl, _, 1, rfl, rfl, q' _ H' (Same.refl _) ?_⟩
      show V.int _ = nI b
      rw [eb, Int.zero_add]
      unfold nI
      rw [Int.natCast_emod, Int.natCast_ediv, Int.natCast_pow]
      rfl
    · exact .inl ⟨D, zs, rfl, SqL.of hz, fun p hp => q _ _ (sm.trans (same_new hp)) (tn_of upd_same (RN.all pr))⟩
def spBits : Sp := fun vs H Q _ => ∃ (v : V) (bs : List Nat), vs = [v] ∧ TK H v bs ∧ bs.length ≤ 64 ∧ (∀ b ∈ bs, b ≤ 1) ∧ ∀ H', Same H H' → Q (.int (bitL bs).sum) H'
theorem sc_bits_of : FnScope ["table", "place", "bit"] ["table"] (defScope s_bits_of) := ⟨rfl, rfl, rfl, by decide +kernel, rfl, by decide +kernel, by decide +kernel⟩
theorem has_bits_of (T : Top K mg "bits_of" s_bits_of ["table"]) (B : Bi mg) (hs : mg "sum" = none) : Has P w K mg base CX0 1 "bits_of" ["table"] spBits := by
  refine T.ok sc_bits_of (fun vs H Q E h => ?_) (fun f cdv A outer s H vs Q E hr h => ?_)
  · obtain ⟨v, bs, rfl, _⟩ := h
    rfl
  · obtain ⟨v, bs, rfl, ⟨a, rfl, ha⟩, hl, hb, q⟩ := h
    refine ⟨_, pss_one (ps_ret (pe_callB (cr_sum rfl) (by rfl) hs PyProof.Rows.boot_sum (pa_cons (pe_lc (own := [("place", 1), ("bit", 2)]) (g := gTup K 2 (gCons (gName 1) (gCons (gName 2) gNil))) (te := tOp (rI CPow fun i j => .int (i * 2 ^ j.toNat)) (tVar 2) (tVar 1)) (by rfl) sc_bits_of.nd (pi_enumT (by rfl) B.enumerate (pa_cons (pv 0) pa_nil)) (blkOk_by (own := [("place", 1), ("bit", 2)]) (N := ["table", "place", "bit"]) (sc := defScope s_bits_of) (by decide +kernel))
      (fun _ _ _ _ _ => pg_tup rfl (pgs_cons (pg_name (i := 1) sc_bits_of.nd rfl (Or.inl rfl)) (pgs_cons (pg_name (i := 2) sc_bits_of.nd rfl (Or.inl rfl)) pgs_nil))) (fun _ _ _ _ _ => pts_nil) (fun _ _ _ _ _ => pe_op op_shl (pv 2) (pv 1))) pa_nil))), ?_⟩
    refine ⟨_, rfl, a, nIs bs, rfl, SqT.of ha, fun D hD => lc_enumM (K := K) (j1 := 1) (j2 := 2) (xs := nIs bs) RI (bitL bs) (fun _ _ _ _ _ r => r) (fun H' s => SqT.of (s _ _ ha)) (by rw [nIs_len]; omega) (by unfold bitL; rw [List.length_map, List.length_range, nIs_len]) hD (fun T x i σ H Q hT q => ⟨T, _, rfl, SqT.of hT, rfl, nI i, _, rfl, x, _, rfl, rfl, q⟩) (fun x y => rfl) (fun i x n hx hn H' sm Q' q' => ?_) (fun H' zs sm hz pr => ?_)⟩
    · rw [nIs_get] at hx
      obtain ⟨b, hb1, rfl⟩ := Option.map_eq_some_iff.mp hx
      have hib : i < bs.length := (List.getElem?_eq_some_iff.mp hb1).1
      have hb2 := hb b (List.mem_of_getElem? hb1)
      have en : n = (b : Int) * 2 ^ i := by
        unfold bitL at hn
        rw [List.getElem?_map, List.getElem?_range hib] at hn
        have e2 : bs.getD i 0 = b := by rw [List.getD_eq_getElem?_getD, hb1]; rfl
        rw [← Option.some.inj hn]
        show ((bs.getD i 0 : Nat) : Int) * 2 ^ i = _
        rw [e2]
      refine ⟨_, rfl, _, rfl, (b : Int), (i : Int), rfl, rfl, ⟨by omega, by omega, ?_⟩, q' _ H' (Same.refl _) ?_⟩
      · rw [Int.natAbs_natCast]
        exact Nat.lt_of_le_of_lt hb2 (by decide)
      · show V.int _ = V.int n
        rw [en, Int.toNat_natCast]
    · rw [RI.all pr] at hz
      exact ⟨D, bitL bs, rfl, SqL.of hz, q _ sm⟩
def spWorth (m f : Nat) : Sp := fun vs H Q _ => ∃ (v : V) (l : Addr) (ns : List Int) (e : Int) (d : Nat), vs = [v, .ref l, .int e] ∧ TreV H m d v ∧ d < f ∧ H l = some (.lst (ns.map V.int)) ∧ ns.length = m ∧ ∀ i : Int, Q (.int i) H
theorem sc_worth_of : FnScope ["tree", "leaves", "every", "one", "other"] ["tree", "leaves", "every"] (defScope s_worth_of) := ⟨rfl, rfl, rfl, by decide +kernel, rfl, by decide +kernel, by decide +kernel⟩
theorem has_worth_of (T : Top K mg "worth_of" s_worth_of ["tree", "leaves", "every"]) (B : Bi mg) {m : Nat} : ∀ f, Has P w K mg base CX0 (f + 1) "worth_of" ["tree", "leaves", "every"] (spWorth m f)
  | 0 => T.ok sc_worth_of (fun vs H Q E h => by obtain ⟨v, l, ns, e, d, rfl, _⟩ := h; rfl) (fun f cdv A outer s H vs Q E hr h => by
      obtain ⟨v, l, ns, e, d, rfl, _, h5, _⟩ := h
      exact absurd h5 (Nat.not_lt_zero _))
  | fu + 1 => by
    have ih := has_worth_of T B (m := m) fu
    refine T.ok sc_worth_of (fun vs H Q E h => ?_) (fun f cdv A outer s H vs Q E hr h => ?_)
    · obtain ⟨v, l, ns, e, d, rfl, _⟩ := h
      rfl
    · obtain ⟨v, l, ns, e, d, rfl, tv, hd, hl, hn, q⟩ := h
      refine ⟨_, pss_cons (ps_if (pt_val (pe_callB call_isi (by rfl) B.isinstance PyProof.Rows.boot_isinstance (pa_cons (pv 0) (pa_cons (pe_bltn (by rfl) B.int PyProof.Rows.boot_int (rr_ty "int")) pa_nil)))) (pss_one (ps_ret (pe_ix ix_list (pv 1) (pv 0) (fun _ _ => rfl)))) pss_nil)
        (pss_cons (ps_set (i := 3) sc_worth_of.nd rfl (Or.inl rfl) (pe_has ih hr (by rfl) (pa_cons (pe_ix ix_tup (pv 0) pe_int (fun _ _ => rfl)) (pa_cons (pv 1) (pa_cons (pv 2) pa_nil)))))
        (pss_cons (ps_if (pt_cmpR op_eq (pe_ix ix_tup (pv 0) pe_int (fun _ _ => rfl)) pe_str (nomark _)) (pss_one (ps_ret (pe_op op_xor (pv 2) (pv 3)))) pss_nil)
        (pss_cons (ps_set (i := 4) sc_worth_of.nd rfl (Or.inl rfl) (pe_has ih hr (by rfl) (pa_cons (pe_ix ix_tup (pv 0) pe_int (fun _ _ => rfl)) (pa_cons (pv 1) (pa_cons (pv 2) pa_nil)))))
        (pss_cons (ps_if (pt_cmpR op_eq (pe_ix ix_tup (pv 0) pe_int (fun _ _ => rfl)) pe_str (nomark _)) (pss_one (ps_ret (pe_op op_and (pv 3) (pv 4)))) pss_nil)
        (pss_cons (ps_if (pt_cmpR op_eq (pe_ix ix_tup (pv 0) pe_int (fun _ _ => rfl)) pe_str (nomark _)) (pss_one (ps_ret (pe_op op_or (pv 3) (pv 4)))) pss_nil)
        (pss_one (ps_ret (pe_op op_xor (pv 3) (pv 4))))))))), ?_⟩
      cases tv with
      | @leaf d i hi =>
        have hx : (ns.map V.int)[i]? = some (V.int (ns[i]'(by omega))) := by rw [List.getElem?_map, List.getElem?_eq_getElem (by omega)]; rfl
        exact ⟨_, rfl, nI i, .ty "int", _, _, true, rfl, .ty _, rp_ty (.int (i : Int)), kit_ty (kit_int (.int (i : Int))), true, rfl, iteT ⟨_, rfl, _, rfl, l, _, (i : Int), _, rfl, rfl, SqL.of hl, atI_nat hx, q _⟩⟩
      | @neg d a u ha hu =>
        refine ⟨_, rfl, .ref a, .ty "int", _, _, false, rfl, .ty _, .base (.tup ha), kit_ty (kit_int (.tuple [])), false, rfl, iteF ?_⟩
        refine ⟨_, rfl, a, _, 1, u, rfl, rfl, SqT.of ha, rfl, _, rfl, _, rfl, u, l, ns, e, d, rfl, hu, by omega, hl, hn, fun i => ?_⟩
        refine ⟨_, rfl, a, _, 0, .str wNot, rfl, rfl, SqT.of ha, rfl, rfl, true, rfl, iteT ⟨_, rfl, _, rfl, e, i, rfl, rfl, q _⟩⟩
      | @two d a j u u2 ha hj hu hu2 =>
        refine ⟨_, rfl, .ref a, .ty "int", _, _, false, rfl, .ty _, .base (.tup ha), kit_ty (kit_int (.tuple [])), false, rfl, iteF ?_⟩
        refine ⟨_, rfl, a, _, 1, u, rfl, rfl, SqT.of ha, rfl, _, rfl, _, rfl, u, l, ns, e, d, rfl, hu, by omega, hl, hn, fun i => ?_⟩
        have hjn : j ≠ wNot := fun z => by rw [z] at hj; exact absurd hj (by decide +kernel)
        refine ⟨_, rfl, a, _, 0, .str j, rfl, rfl, SqT.of ha, rfl, rfl, false, congrArg V.bl ((word_eq j wNot).trans (decide_eq_false hjn)), iteF ?_⟩
        refine ⟨_, rfl, a, _, 2, u2, rfl, rfl, SqT.of ha, rfl, _, rfl, _, rfl, u2, l, ns, e, d, rfl, hu2, by omega, hl, hn, fun i2 => ?_⟩
        refine ⟨_, rfl, a, _, 0, .str j, rfl, rfl, SqT.of ha, rfl, rfl, decide (j = ("and" : Str)), congrArg V.bl (word_eq j _), ite2 (fun _ => ⟨_, rfl, _, rfl, i, i2, rfl, rfl, q _⟩) (fun _ => ?_)⟩
        refine ⟨_, rfl, a, _, 0, .str j, rfl, rfl, SqT.of ha, rfl, rfl, decide (j = ("or" : Str)), congrArg V.bl (word_eq j _), ite2 (fun _ => ⟨_, rfl, _, rfl, i, i2, rfl, rfl, q _⟩) (fun _ => ⟨_, rfl, _, rfl, i, i2, rfl, rfl, q _⟩)⟩
end
end Lt

set_option Elab.async false
set_option linter.all false
set_option maxRecDepth 100000
set_option maxHeartbeats 1000000
/-! the law's formulas: _law_tree, _law_spelled -/
namespace Lt
open PySem PySem.Spec PyProof.Rows L2
/-- the law's name of an input -/
def xL (i : Nat) : Str := ("x" : Str) ++ Str.ofString (toString ((i : Nat) : Int))
theorem xL_xN : ∀ i, i < 6 → xL i = xN i := by decide +kernel
/-- a tree of the law's, and its words -/
inductive LTr (H : Hp) (m : Nat) : Nat → V → List Str → Prop
  | leaf {d i : Nat} {a : Addr} : H a = some (.tup [.str "x", nI i]) → i < m → LTr H m d (.ref a) [xL i]
  | neg {d : Nat} {a : Addr} {v : V} {ws : List Str} : H a = some (.tup [.str wNot, v]) → LTr H m d v ws → LTr H m (d + 1) (.ref a) (wNot :: ws)
  | two {d : Nat} {a : Addr} {j : Str} {v u : V} {ws us : List Str} : H a = some (.tup [.str j, v, u]) → j ∈ joins → LTr H m d v ws → LTr H m d u us → LTr H m (d + 1) (.ref a) ([wOp] ++ ws ++ [j] ++ us ++ [wCl])
theorem LTr.tm {H H' : Hp} {m d : Nat} {v : V} {ws : List Str} (e : Tm H H') (h : LTr H m d v ws) : LTr H' m d v ws := by
  induction h with
  | leaf h i => exact .leaf (e.1 _ _ h) i
  | neg h _ ih => exact .neg (e.1 _ _ h) ih
  | two h j _ _ i1 i2 => exact .two (e.1 _ _ h) j i1 i2
theorem Str_len (a b : Str) : (a ++ b).length = a.length + b.length := by
  show (a.cps ++ b.cps).size = _
  rw [Array.size_append]
  rfl
theorem ltr_len {H : Hp} {m d : Nat} {v : V} {ws : List Str} (h : LTr H m d v ws) : ws.length + 3 ≤ 2 ^ (d + 2) := by
  induction h with
  | @leaf d i a h hi =>
    have : 2 ^ 2 ≤ 2 ^ (d + 2) := Nat.pow_le_pow_right (by decide) (by omega)
    show 1 + 3 ≤ _
    omega
  | @neg d a v ws h _ ih =>
    have : 2 ^ (d + 1 + 2) = 2 * 2 ^ (d + 2) := by rw [Nat.pow_succ, Nat.mul_comm]
    rw [List.length_cons]
    omega
  | @two d a j v u ws us h j' _ _ i1 i2 =>
    have : 2 ^ (d + 1 + 2) = 2 * 2 ^ (d + 2) := by rw [Nat.pow_succ, Nat.mul_comm]
    simp only [List.length_append, List.length_cons, List.length_nil]
    omega
section
variable {P : Program} {w : World} {K : PySem.W.Frag} {mg : Str → Option Value} {base : Heap}
def spLTree (K : PySem.W.Frag) (f : Nat) : Sp := fun vs H Q _ => ∃ (r sc : Addr) (ns : List Int) (m d : Nat), vs = [.ref r, nI m, nI d] ∧ RowAt K H r sc ns ∧ 1 ≤ m ∧ m ≤ 6 ∧ d < f ∧ d ≤ 10 ∧ ∀ v ws H', StepR r H H' → RowAt K H' r sc ns → LTr H' m d v ws → Q v H'
theorem sc_law_tree : FnScope ["row", "inputs", "deep", "way"] ["row", "inputs", "deep"] (defScope s_law_tree) := ⟨rfl, rfl, rfl, by decide +kernel, rfl, by decide +kernel, by decide +kernel⟩
theorem has_law_tree (T : Top K mg "_law_tree" s_law_tree ["row", "inputs", "deep"]) (hT : Has P w K mg base CX0 1 "_law_taken" ["row", "many"] (spTaken K)) : ∀ f, Has P w K mg base CX0 (f + 2) "_law_tree" ["row", "inputs", "deep"] (spLTree K f)
  | 0 => T.ok sc_law_tree (fun vs H Q E h => by obtain ⟨r, sc, ns, m, d, rfl, _⟩ := h; rfl) (fun f cdv A outer s H vs Q E hr h => by
      obtain ⟨r, sc, ns, m, d, rfl, _, _, _, h5, _⟩ := h
      exact absurd h5 (Nat.not_lt_zero _))
  | fu + 1 => by
    have ih := has_law_tree T hT fu
    refine T.ok sc_law_tree (fun vs H Q E h => ?_) (fun f cdv A outer s H vs Q E hr h => ?_)
    · obtain ⟨r, sc, ns, m, d, rfl, _⟩ := h
      rfl
    · obtain ⟨r, sc, ns, m, d, rfl, ra, h1, h6, hd, hd10, q⟩ := h
      have hr1 : Room 1 _ := hr.mono (by omega)
      refine ⟨_, C8.pss_cut (ps_set (i := 3) sc_law_tree.nd rfl (Or.inl rfl) (pe_ifExp (pt_cmpR op_gt (pv 2) pe_int (nomark _)) (pe_has hT hr1 (by rfl) (pa_cons (pv 0) (pa_cons pe_int pa_nil))) pe_int))
        (pss_cons (ps_if (pt_cmpR op_lt (pv 3) pe_int (nomark _)) (pss_one (ps_ret (pe_tup (pa_cons pe_str (pa_cons (pe_has hT hr1 (by rfl) (pa_cons (pv 0) (pa_cons (pv 1) pa_nil))) pa_nil))))) pss_nil)
        (pss_cons (ps_if (pt_cmpR op_eq (pv 3) pe_int (nomark _)) (pss_one (ps_ret (pe_tup (pa_cons pe_str (pa_cons (pe_has ih hr (by rfl) (pa_cons (pv 0) (pa_cons (pv 1) (pa_cons (pe_op op_sub (pv 2) pe_int) pa_nil)))) pa_nil))))) pss_nil)
        (pss_one (ps_ret (pe_tup (pa_cons (pe_ix ix_list (pe_lst (pa_cons pe_str (pa_cons pe_str (pa_cons pe_str pa_nil)))) (pe_op op_sub (pv 3) pe_int) (fun _ _ => rfl)) (pa_cons (pe_has ih hr (by rfl) (pa_cons (pv 0) (pa_cons (pv 1) (pa_cons (pe_op op_sub (pv 2) pe_int) pa_nil)))) (pa_cons (pe_has ih hr (by rfl) (pa_cons (pv 0) (pa_cons (pv 1) (pa_cons (pe_op op_sub (pv 2) pe_int) pa_nil)))) pa_nil)))))))), ?_⟩
      refine ⟨fun σ1 H1 => ∃ y : Nat, σ1 = [some (.ref r), some (nI m), some (nI d), some (nI y)] ∧ y < 6 ∧ (0 < d ∨ y = 0) ∧ StepR r H H1 ∧ RowAt K H1 r sc ns, ?_, ?_⟩
      · refine ⟨_, rfl, (d : Int), 0, rfl, rfl, decide ((0 : Int) < (d : Int)), rfl, ite2 (fun h => ⟨_, rfl, r, sc, ns, 6, rfl, ra, by decide, by decide, fun x H' hx st ra' => ⟨x, rfl, hx, .inl ?_, st, ra'⟩⟩) (fun h => ⟨0, rfl, by decide, .inr rfl, .refl _ _, ra⟩)⟩
        have := of_decide_eq_true h
        omega
      · rintro σ1 H1 ⟨y, rfl, hy, hyd, st, ra1⟩
        refine ⟨_, rfl, (y : Int), 2, rfl, rfl, decide ((y : Int) < 2), rfl, ite2 (fun h => ⟨_, rfl, _, rfl, r, sc, ns, m, rfl, ra1, h1, by omega, fun x H2 hx st2 ra2 => ⟨by show 2 ≤ sizeLine; decide, fun p hp => q _ _ _ (st.trans (st2.trans (StepR.of (same_new hp)))) (ra2.step (same_new hp)) (.leaf upd_same hx)⟩⟩) (fun h => ?_)⟩
        have h2 : ¬ (y : Int) < 2 := fun z => h (decide_eq_true z)
        cases d with
        | zero => omega
        | succ d =>
          have ed : (((d + 1 : Nat) : Int) - 1) = (d : Int) := by omega
          refine ⟨_, rfl, rfl, _, rfl, ite2 (fun h3 => ?_) (fun h3 => ?_)⟩
          · refine ⟨_, rfl, _, rfl, _, rfl, ((d + 1 : Nat) : Int), 1, rfl, rfl, r, sc, ns, m, d, congrArg (fun z : Int => [V.ref r, nI m, V.int z]) ed, ra1, h1, h6, by omega, by omega, fun v ws H2 st2 ra2 lt => ⟨by show 2 ≤ sizeLine; decide, fun p hp => ?_⟩⟩
            exact q _ _ _ (st.trans (st2.trans (StepR.of (same_new hp)))) (ra2.step (same_new hp)) (.neg upd_same (lt.tm (.of (same_new hp))))
          · have h4 : (y : Int) ≠ 2 := fun z => h3 (decide_eq_true (congrArg V.int z))
            obtain ⟨j, hj, hat⟩ : ∃ j, j ∈ joins ∧ atI [V.str "and", V.str "or", V.str "xor"] ((y : Int) - 3) = some (V.str j) := by
              have : y = 3 ∨ y = 4 ∨ y = 5 := by omega
              rcases this with rfl | rfl | rfl
              · exact ⟨"and", by decide +kernel, rfl⟩
              · exact ⟨"or", by decide +kernel, rfl⟩
              · exact ⟨"xor", by decide +kernel, rfl⟩
            refine ⟨by show 3 ≤ sizeLine; decide, fun pl hpl => ⟨_, rfl, (y : Int), 3, rfl, rfl, pl, _, (y : Int) - 3, .str j, rfl, rfl, SqL.of upd_same, hat, ?_⟩⟩
            have s1 := same_new (o := .lst [V.str "and", V.str "or", V.str "xor"]) hpl
            refine ⟨_, rfl, _, rfl, _, rfl, ((d + 1 : Nat) : Int), 1, rfl, rfl, r, sc, ns, m, d, congrArg (fun z : Int => [V.ref r, nI m, V.int z]) ed, ra1.step s1, h1, h6, by omega, by omega, fun v ws H2 st2 ra2 lt => ?_⟩
            refine ⟨_, rfl, _, rfl, _, rfl, ((d + 1 : Nat) : Int), 1, rfl, rfl, r, sc, ns, m, d, congrArg (fun z : Int => [V.ref r, nI m, V.int z]) ed, ra2, h1, h6, by omega, by omega, fun u us H3 st3 ra3 lu => ⟨by show 3 ≤ sizeLine; decide, fun p hp => ?_⟩⟩
            exact q _ _ _ (st.trans ((StepR.of s1).trans (st2.trans (st3.trans (StepR.of (same_new hp)))))) (ra3.step (same_new hp)) (.two upd_same hj (lt.tm ((st3.tm ra2).trans (.of (same_new hp)))) (lu.tm (.of (same_new hp))))
def spSpell (f : Nat) : Sp := fun vs H Q _ => ∃ (z v : V) (m d : Nat) (ws : List Str), vs = [z, v] ∧ LTr H m d v ws ∧ m ≤ 6 ∧ d < f ∧ d ≤ 10 ∧ ∀ l H', Same H H' → H' l = some (.lst (ws.map V.str)) → Q (.ref l) H'
theorem sc_law_spelled : FnScope ["row", "tree"] ["row", "tree"] (defScope s_law_spelled) := ⟨rfl, rfl, rfl, by decide +kernel, rfl, by decide +kernel, by decide +kernel⟩
theorem has_law_spelled (T : Top K mg "_law_spelled" s_law_spelled ["row", "tree"]) (B : Bi mg) : ∀ f, Has P w K mg base CX0 (f + 1) "_law_spelled" ["row", "tree"] (spSpell f)
  | 0 => T.ok sc_law_spelled (fun vs H Q E h => by obtain ⟨z, v, m, d, ws, rfl, _⟩ := h; rfl) (fun f cdv A outer s H vs Q E hr h => by
      obtain ⟨z, v, m, d, ws, rfl, _, _, h5, _⟩ := h
      exact absurd h5 (Nat.not_lt_zero _))
  | fu + 1 => by
    have ih := has_law_spelled T B fu
    refine T.ok sc_law_spelled (fun vs H Q E h => ?_) (fun f cdv A outer s H vs Q E hr h => ?_)
    · obtain ⟨z, v, m, d, ws, rfl, _⟩ := h
      rfl
    · obtain ⟨z, v, m, d, ws, rfl, lt, hm, hd, hd10, q⟩ := h
      refine ⟨_, pss_cons (ps_if (pt_cmpR op_eq (pe_ix ix_tup (pv 1) pe_int (fun _ _ => rfl)) pe_str (nomark _)) (pss_one (ps_ret (pe_lst (pa_cons (pe_op op_add_str pe_str (pe_callTy call_str_int (by rfl) B.str PyProof.Rows.boot_str (pa_cons (pe_ix ix_tup (pv 1) pe_int (fun _ _ => rfl)) pa_nil))) pa_nil)))) pss_nil)
        (pss_cons (ps_if (pt_cmpR op_eq (pe_ix ix_tup (pv 1) pe_int (fun _ _ => rfl)) pe_str (nomark _)) (pss_one (ps_ret (pe_op op_cat (pe_lst (pa_cons pe_str pa_nil)) (pe_has ih hr (by rfl) (pa_cons (pv 0) (pa_cons (pe_ix ix_tup (pv 1) pe_int (fun _ _ => rfl)) pa_nil)))))) pss_nil)
        (pss_one (ps_ret (pe_op op_cat (pe_op op_cat (pe_op op_cat (pe_op op_cat (pe_lst (pa_cons pe_str pa_nil)) (pe_has ih hr (by rfl) (pa_cons (pv 0) (pa_cons (pe_ix ix_tup (pv 1) pe_int (fun _ _ => rfl)) pa_nil)))) (pe_lst (pa_cons (pe_ix ix_tup (pv 1) pe_int (fun _ _ => rfl)) pa_nil))) (pe_has ih hr (by rfl) (pa_cons (pv 0) (pa_cons (pe_ix ix_tup (pv 1) pe_int (fun _ _ => rfl)) pa_nil)))) (pe_lst (pa_cons pe_str pa_nil)))))), ?_⟩
      have len : ∀ {d : Nat} {v : V} {ws : List Str} {H : Hp}, LTr H m d v ws → ws.length + 3 ≤ 2 ^ (d + 2) := fun h => ltr_len h
      have p10 : 2 ^ (d + 2) ≤ 4096 := Nat.le_trans (Nat.pow_le_pow_right (by decide) (by omega)) (by decide : 2 ^ 12 ≤ 4096)
      cases lt with
      | @leaf d i a ha hi =>
        obtain ⟨l1, l2⟩ := xN_len i (by omega)
        refine ⟨_, rfl, a, _, 0, .str "x", rfl, rfl, SqT.of ha, rfl, rfl, true, rfl, iteT ⟨_, rfl, a, _, 1, nI i, rfl, rfl, SqT.of ha, rfl, (i : Int), rfl, log_small (by omega), ("x" : Str), _, rfl, rfl, ?_, by show 1 ≤ sizeLine; decide, fun p hp => q p _ (same_new hp) upd_same⟩⟩
        have e : (xL i).length ≤ 16777216 := by rw [xL_xN i (by omega)]; exact l2
        rw [sizeLine_eq]
        have e2 : (xL i).length = ("x" : Str).length + (Str.ofString (toString ((i : Nat) : Int))).length := Str_len _ _
        omega
      | @neg d a u us ha hu =>
        have ll := len hu
        have pd : 2 ^ (d + 1 + 2) = 2 * 2 ^ (d + 2) := by rw [Nat.pow_succ, Nat.mul_comm]
        refine ⟨_, rfl, a, _, 0, .str wNot, rfl, rfl, SqT.of ha, rfl, rfl, false, rfl, iteF ⟨_, rfl, a, _, 0, .str wNot, rfl, rfl, SqT.of ha, rfl, rfl, true, rfl, iteT ⟨by show 1 ≤ sizeLine; decide, fun p1 hp1 => ?_⟩⟩⟩
        have s1 := same_new (o := .lst [V.str wNot]) hp1
        refine ⟨_, rfl, _, rfl, a, _, 1, u, rfl, rfl, SqT.of (s1 _ _ ha), rfl, z, u, m, d, us, rfl, hu.tm (.of s1), hm, by omega, by omega, fun l H2 s2 hl => ?_⟩
        refine ⟨p1, l, _, _, rfl, rfl, s2 _ _ upd_same, hl, by rw [List.length_map, sizeLine_eq]; show 1 + _ ≤ _; omega, fun p hp => q p _ (s1.trans (s2.trans (same_new hp))) upd_same⟩
      | @two d a j u u2 us us2 ha hj hu hu2 =>
        have ll := len hu
        have ll2 := len hu2
        have pd : 2 ^ (d + 1 + 2) = 2 * 2 ^ (d + 2) := by rw [Nat.pow_succ, Nat.mul_comm]
        have hjn : j ≠ wNot := fun z => by rw [z] at hj; exact absurd hj (by decide +kernel)
        have hjx : j ≠ ("x" : Str) := fun z => by rw [z] at hj; exact absurd hj (by decide +kernel)
        refine ⟨_, rfl, a, _, 0, .str j, rfl, rfl, SqT.of ha, rfl, rfl, false, congrArg V.bl ((word_eq j _).trans (decide_eq_false hjx)), iteF ⟨_, rfl, a, _, 0, .str j, rfl, rfl, SqT.of ha, rfl, rfl, false, congrArg V.bl ((word_eq j wNot).trans (decide_eq_false hjn)), iteF ⟨by show 1 ≤ sizeLine; decide, fun p1 hp1 => ?_⟩⟩⟩
        have s1 := same_new (o := .lst [V.str wOp]) hp1
        refine ⟨_, rfl, _, rfl, a, _, 1, u, rfl, rfl, SqT.of (s1 _ _ ha), rfl, z, u, m, d, us, rfl, hu.tm (.of s1), hm, by omega, by omega, fun l H2 s2 hl => ?_⟩
        refine ⟨p1, l, [V.str wOp], us.map V.str, rfl, rfl, s2 _ _ upd_same, hl, by rw [List.length_map, sizeLine_eq]; show 1 + _ ≤ _; omega, fun p2 hp2 => ?_⟩
        have s3 := same_new (o := .lst ([V.str wOp] ++ us.map V.str)) hp2
        have s123 := s1.trans (s2.trans s3)
        refine ⟨_, rfl, a, _, 0, .str j, rfl, rfl, SqT.of (s123 _ _ ha), rfl, by show 1 ≤ sizeLine; decide, fun p3 hp3 => ?_⟩
        have s4 := same_new (o := .lst [V.str j]) hp3
        refine ⟨p2, p3, [V.str wOp] ++ us.map V.str, [V.str j], rfl, rfl, s4 _ _ upd_same, upd_same, by rw [List.length_append, List.length_map, sizeLine_eq]; show 1 + _ + 1 ≤ _; omega, fun p4 hp4 => ?_⟩
        have s5 := same_new (o := .lst ([V.str wOp] ++ us.map V.str ++ [V.str j])) hp4
        have s15 := s123.trans (s4.trans s5)
        refine ⟨_, rfl, _, rfl, a, _, 2, u2, rfl, rfl, SqT.of (s15 _ _ ha), rfl, z, u2, m, d, us2, rfl, hu2.tm (.of s15), hm, by omega, by omega, fun l2 H3 s6 hl2 => ?_⟩
        refine ⟨p4, l2, [V.str wOp] ++ us.map V.str ++ [V.str j], us2.map V.str, rfl, rfl, s6 _ _ upd_same, hl2, by rw [List.length_append, List.length_append, List.length_map, List.length_map, sizeLine_eq]; show 1 + _ + 1 + _ ≤ _; omega, fun p5 hp5 => ?_⟩
        have s7 := same_new (o := .lst ([V.str wOp] ++ us.map V.str ++ [V.str j] ++ us2.map V.str)) hp5
        refine ⟨by show 1 ≤ sizeLine; decide, fun p6 hp6 => ?_⟩
        have s8 := same_new (o := .lst [V.str wCl]) hp6
        refine ⟨p5, p6, [V.str wOp] ++ us.map V.str ++ [V.str j] ++ us2.map V.str, [V.str wCl], rfl, rfl, s8 _ _ upd_same, upd_same, by rw [List.length_append, List.length_append, List.length_append, List.length_map, List.length_map, sizeLine_eq]; show 1 + _ + 1 + _ + 1 ≤ _; omega, fun p hp => q p _ (s15.trans (s6.trans (s7.trans (s8.trans (same_new hp))))) ?_⟩
        rw [upd_same]
        simp only [List.map_append, List.map_cons, List.map_nil]
end
end Lt

set_option Elab.async false
set_option linter.all false
set_option maxRecDepth 100000
set_option maxHeartbeats 1000000
/-! _law_first -/
namespace Lt
open PySem PySem.Spec PyProof.Rows L2
theorem for_enumL {K : PySem.W.Frag} {a : Addr} {xs : List V} {g : TG} {tb : TS} {D : Ends} {σ : L2.St} {H : Hp} (Pv : Nat → L2.St → Hp → Prop) (h0 : Pv 0 σ H) (hl : ∀ i σ H, i ≤ xs.length → Pv i σ H → SqL K H a xs)
    (hs : ∀ (i : Nat) (x : V) σ H T, xs[i]? = some x → Pv i σ H → H T = none → g (.ref T) σ (upd H T (.tup [nI i, x])) fun σ2 H2 => tb { D with nx := Pv (i + 1), ct := Pv (i + 1), bk := D.nx } σ2 H2) (hd : ∀ σ H, Pv xs.length σ H → D.nx σ H) :
    ∃ W : Nat → Nat → L2.St → Hp → Prop, (∃ m, W 0 m σ H) ∧ ∀ i m σ H, W i m σ H →
      ((Ite K a).stop i H ∧ D.nx σ H) ∨ ((Ite K a).go i H ∧ ∃ N : L2.St → Hp → Prop, (∀ σ' H', N σ' H' → ∃ m', m' < m ∧ W (i + 1) m' σ' H') ∧ ∀ x H', (Ite K a).yld i H x H' → g x σ H' fun σ2 H2 => tb { D with nx := N, ct := N, bk := D.nx } σ2 H2) := by
  refine ⟨fun i m σ H => m = xs.length - i ∧ i ≤ xs.length ∧ Pv i σ H, ⟨xs.length, by simp, Nat.zero_le _, h0⟩, ?_⟩
  rintro i m σ H ⟨rfl, hi, p⟩
  have q := hl i σ H hi p
  by_cases hlt : i < xs.length
  · refine .inr ⟨⟨xs, xs[i], q, by simp [hlt]⟩, Pv (i + 1), fun σ' H' p' => ⟨xs.length - (i + 1), by omega, rfl, hlt, p'⟩, fun x H' y => ?_⟩
    obtain ⟨T, z, rfl, hT, rfl, hz⟩ := y
    exact hs i z σ H T (hz xs q) p hT
  · have e : i = xs.length := by omega
    subst e
    exact .inl ⟨⟨xs, q, Nat.le_refl _⟩, hd σ H p⟩
def ndS : Nd → Str
  | .E => "E"
  | .W => "W"
  | .C => ")"
theorem dp_strs {K : PySem.W.Frag} {H : Hp} : ∀ ss : List Str, DpAll K H (ss.map V.str) (ss.map PyData.str)
  | [] => .nil
  | s :: ss => .cons (.str s) (dp_strs ss)
theorem depth_strs : ∀ ss : List Str, PyData.depthAll (ss.map PyData.str) = 0
  | [] => rfl
  | s :: ss => by
    show max (PyData.depth (.str s)) (PyData.depthAll (ss.map PyData.str)) = 0
    rw [depth_strs ss]
    rfl
theorem can_nds : ∀ u : List Nd, PyData.canLayAll0 ((u.map ndS).map PyData.str) = true
  | [] => rfl
  | n :: u => by
    show (PyData.canLay0 (.str (ndS n)) && PyData.canLayAll0 ((u.map ndS).map PyData.str)) = true
    rw [can_nds u, Bool.and_true]
    cases n <;> decide +kernel
theorem sh_nds (u : List Nd) : SeqAt.shaped (.list ((u.map ndS).map PyData.str)) = true := by
  show (PyData.canLayAll0 ((u.map ndS).map PyData.str) && decide (PyData.depthAll ((u.map ndS).map PyData.str) + 1 ≤ 64)) = true
  rw [can_nds, depth_strs]
  rfl
theorem eqv_nil (ss : List Str) : PyData.eqv (.list (ss.map PyData.str)) (.list []) = decide (ss = []) := by
  cases ss with
  | nil => rfl
  | cons s ss => rfl
theorem cut_tl (x : V) (xs : List V) : cutV (x :: xs) (some 1) none = xs := by
  unfold cutV
  rw [show (1 : Int) = ((1 : Nat) : Int) from rfl, HT.sIx_nat, HT.sIx_none, List.length_cons, Nat.min_eq_left (by omega)]
  show List.take (xs.length + 1 - 1) xs = xs
  rw [Nat.add_sub_cancel, List.take_length]
/-- what the law says of words -/
def dueAt (ns : List Str) (ws : List Str) : V := if (mach ns [.E] ws).1 < ws.length then nI (mach ns [.E] ws).1 else if (mach ns [.E] ws).2 = [] then .non else nI ws.length
section
variable {P : Program} {w : World} {K : PySem.W.Frag} {mg : Str → Option Value} {base : Heap}
def spFirst : Sp := fun vs H Q _ => ∃ (l : Addr) (m : Nat) (ws : List Str), vs = [.ref l, nI m] ∧ H l = some (.lst (ws.map V.str)) ∧ m ≤ 6 ∧ ws.length ≤ 1000 ∧ ∀ H', Same H H' → Q (dueAt (nmL m) ws) H'
theorem sc_law_first : FnScope ["words", "inputs", "want", "at", "word", "need", "own"] ["words", "inputs"] (defScope s_law_first) := ⟨rfl, rfl, rfl, by decide +kernel, rfl, by decide +kernel, by decide +kernel⟩
theorem has_law_first (T : Top K mg "_law_first" s_law_first ["words", "inputs"]) (B : Bi mg) : Has P w K mg base CX0 1 "_law_first" ["words", "inputs"] spFirst := by
  refine T.ok sc_law_first (fun vs H Q E h => ?_) (fun f cdv A outer s H vs Q E hr h => ?_)
  · obtain ⟨l, m, ws, rfl, _⟩ := h
    rfl
  · obtain ⟨l, m, ws, rfl, hl, hm, hw, q⟩ := h
    have hu := hr.units
    refine ⟨_, pss_cons (ps_set (i := 2) sc_law_first.nd rfl (Or.inl rfl) (pe_lst (pa_cons pe_str pa_nil)))
      (pss_cons (ps_for PassesOwn.never rfl (pi_enum (by rfl) B.enumerate (pa_cons (pv 0) pa_nil)) (pg_tup rfl (pgs_cons (pg_name (i := 3) sc_law_first.nd rfl (Or.inl rfl)) (pgs_cons (pg_name (i := 4) sc_law_first.nd rfl (Or.inl rfl)) pgs_nil)))
        (pss_cons (ps_if (pt_cmpR (by refine op_eqD ?_; exact hu) (pv 2) (pe_lst pa_nil) (nomark _)) (pss_one (ps_ret (pv 3))) pss_nil)
        (pss_cons (ps_par (i := 5) (j := 2) (by rfl) sc_law_first.nd rfl rfl (by decide) rfl rfl (pa_cons (pe_ix ix_list (pv 2) pe_int (fun _ _ => rfl)) (pa_cons (pe_slice sl_list (pv 2) (po_some pe_int) po_none) pa_nil)) (by rfl))
        (pss_one (ps_if (pt_cmpR op_eq (pv 5) pe_str (nomark _))
          (pss_one (ps_if (pt_cmpR op_eq (pv 4) pe_str (nomark _)) (pss_one (ps_set (i := 2) sc_law_first.nd rfl (Or.inl rfl) (pe_op op_cat (pe_lst (pa_cons pe_str pa_nil)) (pv 2))))
            (pss_one (ps_if (pt_cmpR op_eq (pv 4) pe_str (nomark _)) (pss_one (ps_set (i := 2) sc_law_first.nd rfl (Or.inl rfl) (pe_op op_cat (pe_lst (pa_cons pe_str (pa_cons pe_str (pa_cons pe_str (pa_cons pe_str pa_nil))))) (pv 2))))
              (pss_one (ps_if (pt_cmpR op_notIn_seq (pv 4) (pe_lc (own := [("own", 6)]) (g := gName 6) (te := tOp (fun x y H Q => ∃ i j, x = .str i ∧ y = .str j ∧ i.length + j.length ≤ sizeLine ∧ Q (.str (i ++ j)) H) (tC (.str "x")) (tCB (fun xs H Q => ∃ i, xs = [.int i] ∧ i.natAbs.log2 < 1920 ∧ Q (.str (toString i)) H) (tCons (tVar 6) tNil))) (by rfl) sc_law_first.nd (pi_range1 (by rfl) B.range (pa_cons (pv 1) pa_nil)) (blkOk_by (own := [("own", 6)]) (N := ["words", "inputs", "want", "at", "word", "need", "own"]) (sc := defScope s_law_first) (by decide +kernel))
                (fun _ _ _ _ _ => pg_name (i := 6) sc_law_first.nd rfl (Or.inl rfl)) (fun _ _ _ _ _ => pts_nil) (fun _ _ _ _ _ => pe_op op_add_str pe_str (pe_callTy call_str_int (by rfl) B.str PyProof.Rows.boot_str (pa_cons (pv 6) pa_nil)))) (by rfl)) (pss_one (ps_ret (pv 3))) pss_nil))))))
          (pss_one (ps_if (PW.pt (pw_or (PW.pt (pw_and (pt_cmpR op_eq (pv 5) pe_str (nomark _)) (pw_and1 (pt_cmpR op_notIn_seq (pv 4) (pe_lst (pa_cons pe_str (pa_cons pe_str (pa_cons pe_str pa_nil)))) (by rfl))))) (pw_or1 (PW.pt (pw_and (pt_cmpR op_eq (pv 5) pe_str (nomark _)) (pw_and1 (pt_cmpR op_ne (pv 4) pe_str (nomark _)))))))) (pss_one (ps_ret (pv 3))) pss_nil)))))))
      (pss_one (ps_ret (pe_ifExp (pt_cmpR (by refine op_neD ?_; exact hu) (pv 2) (pe_lst pa_nil) (nomark _)) (pe_callB call_len_seq (by rfl) B.len PySem.boot_len (pa_cons (pv 0) pa_nil)) pe_non)))), ?_⟩
    have nm : (nmL m) = (List.range m).map xL := by
      unfold nmL
      refine List.map_congr_left fun i hi => ?_
      exact (xL_xN i (by have := List.mem_range.mp hi; omega)).symm
    refine ⟨by show 1 ≤ sizeLine; decide, fun p0 hp0 => ?_⟩
    have s0 := same_new (o := .lst [V.str "E"]) hp0
    refine ⟨_, rfl, l, ws.map V.str, rfl, SqL.of (s0 _ _ hl), for_enumL (K := K) (xs := ws.map V.str)
      (fun i σ H' => ∃ (u : List Nd) (p : Addr) (x3 x4 x5 : Option V), σ = [some (.ref l), some (nI m), some (.ref p), x3, x4, x5, none] ∧ Same H H' ∧ H' p = some (.lst ((u.map ndS).map V.str)) ∧ u.length ≤ 1 + 4 * i ∧
        mach (nmL m) [.E] ws = ((mach (nmL m) u (ws.drop i)).1 + i, (mach (nmL m) u (ws.drop i)).2))
      ⟨[.E], p0, none, none, none, rfl, s0, upd_same, Nat.le_refl _, rfl⟩ (fun i σ H' _ ⟨_, _, _, _, _, _, st, _⟩ => SqL.of (st _ _ hl)) ?_ ?_⟩
    · rintro i x σ H' T0 hi ⟨u, p, x3, x4, x5, rfl, st, hp, hul, hm1⟩ hT0
      rw [List.getElem?_map] at hi
      obtain ⟨z, hz, rfl⟩ := Option.map_eq_some_iff.mp hi
      have hiw : i < ws.length := (List.getElem?_eq_some_iff.mp hz).1
      have ed : ws.drop i = z :: ws.drop (i + 1) := by
        obtain ⟨hl', e⟩ := List.getElem?_eq_some_iff.mp hz
        rw [← e, List.drop_eq_getElem_cons hl']
      rw [ed] at hm1
      have sT := same_new (o := .tup [nI i, V.str z]) hT0
      have stop : stp (nmL m) u z = none → ∀ H2, Same H H2 → Q (nI i) H2 := fun h H2 s2 => by
        have q2 := q H2 s2
        rw [mach_none h] at hm1
        unfold dueAt at q2
        rw [hm1] at q2
        dsimp only at q2
        rw [Nat.zero_add, if_pos hiw] at q2
        exact q2
      have go : ∀ {u2 : List Nd} {p2 : Addr} {H2 : Hp} {y3 y4 y5 : Option V}, stp (nmL m) u z = some u2 → Same H H2 → H2 p2 = some (.lst ((u2.map ndS).map V.str)) → u2.length ≤ u.length + 4 → ∃ (u : List Nd) (p : Addr) (x3 x4 x5 : Option V), [some (V.ref l), some (nI m), some (.ref p2), y3, y4, y5, none] = [some (.ref l), some (nI m), some (.ref p), x3, x4, x5, none] ∧ Same H H2 ∧ H2 p = some (.lst ((u.map ndS).map V.str)) ∧ u.length ≤ 1 + 4 * (i + 1) ∧
          mach (nmL m) [.E] ws = ((mach (nmL m) u (ws.drop (i + 1))).1 + (i + 1), (mach (nmL m) u (ws.drop (i + 1))).2) := fun {u2 p2 H2 y3 y4 y5} h s2 h2 hl2 => by
        rw [mach_some h] at hm1
        refine ⟨u2, p2, y3, y4, y5, rfl, s2, h2, by omega, ?_⟩
        rw [hm1]
        refine Prod.ext ?_ rfl
        show _ + 1 + i = _ + (i + 1)
        omega
      refine ⟨T0, _, rfl, SqT.of upd_same, rfl, nI i, _, rfl, .str z, _, rfl, rfl, ?_⟩
      refine ⟨_, rfl, Nat.zero_le _, fun pe hpe => ?_⟩
      have s1 := sT.trans (same_new (o := .lst []) hpe)
      have stS := st.trans s1
      refine ⟨_, _, .lst (SqL.of (s1 _ _ hp)) (dp_strs _), .lst (SqL.of upd_same) .nil, sh_nds u, rfl, decide (u.map ndS = []), congrArg V.bl (eqv_nil _), ?_⟩
      cases u with
      | nil => exact iteT ⟨_, rfl, stop rfl _ stS⟩
      | cons n u =>
        refine iteF ?_
        have hp1 := s1 _ _ hp
        refine ⟨_, rfl, p, _, 0, .str (ndS n), rfl, rfl, SqL.of hp1, (show atI (((n :: u).map ndS).map V.str) ((0 : Nat) : Int) = _ from atI_nat rfl), _, rfl, 1, rfl, p, _, rfl, SqL.of hp1, fun p1 hpn => ?_⟩
        rw [show cutV (((n :: u).map ndS).map V.str) (some 1) none = (u.map ndS).map V.str from cut_tl _ _]
        have s2 := same_new (o := .lst ((u.map ndS).map V.str)) hpn
        have stS2 := stS.trans s2
        refine ⟨_, _, rfl, ?_⟩
        rw [List.length_cons] at hul
        have hul2 : ((u.map ndS).map V.str).length + 4 ≤ 16777216 := by rw [List.length_map, List.length_map]; omega
        cases n with
        | E =>
          refine ⟨_, rfl, rfl, true, rfl, iteT ⟨_, rfl, rfl, decide (z = wNot), congrArg V.bl (word_eq z wNot), ?_⟩⟩
          by_cases e1 : z = wNot
          · rw [decide_eq_true e1]
            refine iteT ⟨by show 1 ≤ sizeLine; decide, fun p2 hp2 => ?_⟩
            have s3 := same_new (o := .lst [V.str "E"]) hp2
            refine ⟨_, rfl, p2, p1, [V.str "E"], _, rfl, rfl, upd_same, s3 _ _ upd_same, by rw [sizeLine_eq]; show 1 + _ ≤ _; omega, fun p3 hp3 => ?_⟩
            exact go (u2 := .E :: u) (by rw [stp_E, if_pos e1]) (stS2.trans (s3.trans (same_new hp3))) upd_same (Nat.le_add_right _ _)
          · rw [decide_eq_false e1]
            refine iteF ⟨_, rfl, rfl, decide (z = wOp), congrArg V.bl (word_eq z wOp), ?_⟩
            by_cases e2 : z = wOp
            · rw [decide_eq_true e2]
              refine iteT ⟨by show 4 ≤ sizeLine; decide, fun p2 hp2 => ?_⟩
              have s3 := same_new (o := .lst [V.str "E", V.str "W", V.str "E", V.str ")"]) hp2
              refine ⟨_, rfl, p2, p1, [V.str "E", V.str "W", V.str "E", V.str ")"], _, rfl, rfl, upd_same, s3 _ _ upd_same, by rw [sizeLine_eq]; show 4 + _ ≤ _; omega, fun p3 hp3 => ?_⟩
              exact go (u2 := .E :: .W :: .E :: .C :: u) (by rw [stp_E, if_neg e1, if_pos e2]) (stS2.trans (s3.trans (same_new hp3))) upd_same (by simp only [List.length_cons]; omega)
            · rw [decide_eq_false e2]
              refine iteF ?_
              refine ⟨_, rfl, _, rfl, (m : Int), rfl, by omega, by omega, fun D hD => lc_rangeM (n := (m : Int).toNat) RStr (nmL m) (fun _ _ _ _ _ r => r) (by omega) (by unfold nmL; rw [List.length_map, List.length_range, Int.toNat_natCast]) hD (fun x => rfl) (fun j b hj hb H4 sm Q' q' => ?_) (fun H4 zs s4 hz4 pr => ?_)⟩
              · have hj6 : j < 6 := by omega
                have eb : b = xL j := by
                  rw [nm, List.getElem?_map, List.getElem?_range (by omega)] at hb
                  exact (Option.some.inj hb).symm
                have hle : ("x" : Str).length + (Str.ofString (toString ((0 : Int) + ((j : Nat) : Int)))).length ≤ sizeLine := by
                  rw [Int.zero_add, ← Str_len, sizeLine_eq]
                  have := (xN_len j hj6).2
                  rw [← xL_xN j hj6] at this
                  exact this
                refine ⟨_, rfl, _, rfl, by rw [Int.zero_add]; exact log_small (by omega), _, _, rfl, rfl, hle, q' _ H4 (Same.refl _) ?_⟩
                rw [eb, Int.zero_add]
                rfl
              · rw [RStr.all pr] at hz4
                refine ⟨D, (nmL m).map V.str, rfl, .inl (SqL.of hz4), rfl, flat_strs _, !decide (z ∈ nmL m), ?_, ?_⟩
                · rw [inV_strs]
                  rfl
                · by_cases e3 : z ∈ nmL m
                  · rw [decide_eq_true e3]
                    exact iteF (go (u2 := u) (by rw [stp_E, if_neg e1, if_neg e2, if_pos e3]) (stS2.trans s4) (s4 _ _ upd_same) (by rw [List.length_cons]; omega))
                  · rw [decide_eq_false e3]
                    exact iteT ⟨_, rfl, stop (by rw [stp_E, if_neg e1, if_neg e2, if_neg e3]) _ (stS2.trans s4)⟩
        | W =>
          refine ⟨_, rfl, rfl, false, rfl, iteF ?_⟩
          refine ⟨_, rfl, rfl, true, rfl, iteT ⟨_, rfl, by show 3 ≤ sizeLine; decide, fun p2 hp2 => ?_⟩⟩
          have s3 := same_new (o := .lst (joins.map V.str)) hp2
          refine ⟨p2, joins.map V.str, rfl, .inl (SqL.of upd_same), rfl, flat_strs _, !decide (z ∈ joins), ?_, ?_⟩
          · rw [inV_strs]
            rfl
          · by_cases e3 : z ∈ joins
            · rw [decide_eq_true e3]
              refine iteF ⟨_, rfl, rfl, false, rfl, iteF (iteF ?_)⟩
              exact go (u2 := u) (by rw [stp_W, if_pos e3]) (stS2.trans s3) (s3 _ _ upd_same) (by rw [List.length_cons]; omega)
            · rw [decide_eq_false e3]
              exact iteT (iteT ⟨_, rfl, stop (by rw [stp_W, if_neg e3]) _ (stS2.trans s3)⟩)
        | C =>
          refine ⟨_, rfl, rfl, false, rfl, iteF ?_⟩
          refine ⟨_, rfl, rfl, false, rfl, iteF (iteF ⟨_, rfl, rfl, true, rfl, iteT ⟨_, rfl, rfl, !decide (z = wCl), congrArg (fun b => V.bl (!b)) (word_eq z wCl), ?_⟩⟩)⟩
          by_cases e3 : z = wCl
          · rw [decide_eq_true e3]
            exact iteF (go (u2 := u) (by rw [stp_C, if_pos e3]) stS2 upd_same (by rw [List.length_cons]; omega))
          · rw [decide_eq_false e3]
            exact iteT ⟨_, rfl, stop (by rw [stp_C, if_neg e3]) _ stS2⟩
    · rintro σ H' ⟨u, p, x3, x4, x5, rfl, st, hp, hul, hm1⟩
      rw [List.length_map, List.drop_length, mach] at hm1
      dsimp only at hm1
      refine ⟨_, rfl, Nat.zero_le _, fun pe hpe => ?_⟩
      have s1 := same_new (o := .lst []) hpe
      refine ⟨_, _, .lst (SqL.of (s1 _ _ hp)) (dp_strs _), .lst (SqL.of upd_same) .nil, sh_nds u, rfl, !decide (u.map ndS = []), congrArg (fun b => V.bl (!b)) (eqv_nil _), ?_⟩
      have q2 := q _ (st.trans s1)
      unfold dueAt at q2
      rw [hm1] at q2
      dsimp only at q2
      rw [Nat.zero_add, if_neg (Nat.lt_irrefl _)] at q2
      cases u with
      | nil => exact iteF q2
      | cons n u =>
        rw [if_neg (List.cons_ne_nil _ _)] at q2
        refine iteT ⟨_, rfl, l, ws.map V.str, rfl, .inl (SqL.of (s1 _ _ (st _ _ hl))), ?_⟩
        rw [List.length_map]
        exact q2
end
end Lt

set_option Elab.async false
set_option linter.all false
set_option maxRecDepth 100000
set_option maxHeartbeats 1000000
/-! table_of -/
namespace Lt
open PySem PySem.Spec PyProof.Rows L2
def leafL (m : Nat) : List Int := (List.range m).map fun own => (bitL (itab m own)).sum
section
variable {P : Program} {w : World} {K : PySem.W.Frag} {mg : Str → Option Value} {base : Heap} {CB : Addr}
def spTab (CB : Addr) : Sp := fun vs H Q E => ∃ (m : Nat) (x : Str), vs = [nI m, .str x] ∧ 1 ≤ m ∧ m ≤ 6 ∧ x.length ≤ 1000 ∧ Nms (nmL m) ∧ opens (lexWords x) ≤ 20 ∧
  (∀ p, prs (nmL m) 21 0 (lexWords x) = .error p → BadF CB "place" (nI p) H E) ∧
  (∀ r, prs (nmL m) 21 0 (lexWords x) = .ok r → (r.length < 2 → ∀ v H', Same H H' → Q v H') ∧ ∀ t r', r = t :: r' → 2 ≤ r.length → BadF CB "place" (nI t.1) H E)
theorem sc_table_of : FnScope ["inputs", "text", "tree", "many", "leaves", "bits", "own", "place"] ["inputs", "text"] (defScope s_table_of) := ⟨rfl, rfl, rfl, by decide +kernel, rfl, by decide +kernel, by decide +kernel⟩
theorem has_table_of (T : Top K mg "table_of" s_table_of ["inputs", "text"]) (B : Bi mg) (hF : Has P w K mg base (L2.CX P w) 26 "formula_tree" ["inputs", "text"] (spFT CB)) (hI : Has P w K mg base CX0 1 "input_table" ["inputs", "own"] spITab)
    (hB : Has P w K mg base CX0 1 "bits_of" ["table"] spBits) (hW : ∀ m, Has P w K mg base CX0 23 "worth_of" ["tree", "leaves", "every"] (spWorth m 22)) : Has P w K mg base (L2.CX P w) 27 "table_of" ["inputs", "text"] (spTab CB) := by
  refine T.okX sc_table_of (fun vs H Q E h => ?_) (fun f cdv A outer s H vs Q E hr h => ?_)
  · obtain ⟨m, x, rfl, _⟩ := h
    rfl
  · obtain ⟨m, x, rfl, h1, h6, hx, N, ho, bad, good⟩ := h
    have hr1 : Room 1 _ := hr.mono (by decide)
    have hr23 : Room 23 _ := hr.mono (by decide)
    have h64 := pow6 h6
    refine ⟨_, pss_cons (ps_set (i := 2) sc_table_of.nd rfl (Or.inl rfl) (pe_hasX (E := E) hF hr (by rfl) (passes_call (takes_of rfl rfl rfl rfl) (fun _ _ _ _ h => h)) (pa_cons (pv 0) (pa_cons (pv 1) pa_nil))))
      (pss_cons (ps_set (i := 3) sc_table_of.nd rfl (Or.inl rfl) (pe_op op_shl pe_int (pv 0)))
      (pss_cons (ps_setLc (i := 4) (own := [("own", 6)]) (g := gName 6) (te := tCall spBits [] E0 (tCons (tCall spITab [] E0 (tCons (tVar 0) (tCons (tVar 6) tNil))) tNil)) (by rfl) sc_table_of.nd rfl rfl (sw_true rfl rfl rfl (by decide +kernel)) (pi_range1 (by rfl) B.range (pa_cons (pv 0) pa_nil)) (blkOk_by (own := [("own", 6)]) (N := ["inputs", "text", "tree", "many", "leaves", "bits", "own", "place"]) (sc := defScope s_table_of) (by decide +kernel))
        (fun _ _ _ _ _ => pg_name (i := 6) sc_table_of.nd rfl (Or.inl rfl)) (fun _ _ _ _ _ => pts_nil) (fun _ _ _ _ _ => pe_has hB hr1 (by rfl) (pa_cons (pe_has hI hr1 (by rfl) (pa_cons (pv 0) (pa_cons (pv 6) pa_nil))) pa_nil)))
      (pss_cons (ps_set (i := 5) sc_table_of.nd rfl (Or.inr rfl) (pe_has (hW m) hr23 (by rfl) (pa_cons (pv 2) (pa_cons (pv 4) (pa_cons (pe_op op_sub (pe_op op_shl pe_int (pv 3)) pe_int) pa_nil)))))
      (pss_one (ps_ret (pe_tupleOf (by rfl) B.tuple (pe_lc (own := [("place", 7)]) (g := gName 7) (te := tOp (rI0 fun i j => .int (Builtin.bitAnd i j)) (tOp (fun x y H Q => ∃ (i : Int) (k : Nat), x = .int i ∧ y = .int (k : Int) ∧ Q (.int (i / 2 ^ k)) H) (tVar 5) (tVar 7)) (tC (.int 1))) (by rfl) sc_table_of.nd (pi_range1 (by rfl) B.range (pa_cons (pv 3) pa_nil)) (blkOk_by (own := [("place", 7)]) (N := ["inputs", "text", "tree", "many", "leaves", "bits", "own", "place"]) (sc := defScope s_table_of) (by decide +kernel))
        (fun _ _ _ _ _ => pg_name (i := 7) sc_table_of.nd rfl (Or.inl rfl)) (fun _ _ _ _ _ => pts_nil) (fun _ _ _ _ _ => pe_op op_and (pe_op op_shrN (pv 5) (pv 7)) pe_int)))))))), ?_⟩
    refine ⟨_, rfl, _, rfl, m, x, rfl, h1, h6, hx, N, ho, bad, fun r hp => ⟨fun hl v H1 s1 tv => ?_, fun t r' e hl => (good r hp).2 t r' e hl⟩⟩
    have q := (good r hp).1 hl
    have e1 : (1 : Int) * 2 ^ (m : Int).toNat = ((2 ^ m : Nat) : Int) := by rw [Int.toNat_natCast, Int.one_mul, Int.natCast_pow]; rfl
    obtain ⟨k, hk⟩ : ∃ k, k = 2 ^ m := ⟨_, rfl⟩
    rw [← hk] at e1 h64
    refine ⟨_, rfl, 1, (m : Int), rfl, rfl, ⟨by omega, by omega, by decide⟩, ?_⟩
    show gName 3 (V.int ((1 : Int) * 2 ^ (m : Int).toNat)) _ _ _
    rw [e1]
    refine ⟨_, rfl, (m : Int), rfl, by omega, by omega, fun D hD => lc_rangeM (n := (m : Int).toNat) RI (leafL m) (fun _ _ _ _ _ r => r) (by omega) (by unfold leafL; rw [List.length_map, List.length_range, Int.toNat_natCast]) hD (fun x => rfl) (fun i n hi hn H' sm Q' q' => ?_) (fun H2 zs s2 hz pr => ?_)⟩
    · have en : n = (bitL (itab m i)).sum := by
        unfold leafL at hn
        rw [List.getElem?_map, List.getElem?_range (by omega)] at hn
        exact (Option.some.inj hn).symm
      refine ⟨_, rfl, _, rfl, m, i, by rw [Int.zero_add]; rfl, h6, fun u H3 s3 tk => ⟨u, itab m i, rfl, tk, by rw [itab_len]; exact pow6 h6, fun b hb => itab_le hb, fun H4 s4 => q' _ H4 (s3.trans s4) (by rw [en]; rfl)⟩⟩
    · rw [RI.all pr] at hz
      refine ⟨_, rfl, _, rfl, _, rfl, 1, (k : Int), rfl, rfl, ⟨by omega, by omega, by decide⟩, _, 1, rfl, rfl, v, D, leafL m, _, 21, rfl, tv.same s2, by decide, hz, by unfold leafL; rw [List.length_map, List.length_range], fun i => ?_⟩
      refine ⟨_, rfl, (k : Int), rfl, by omega, by omega, fun D2 hD2 => lc_rangeM (n := (k : Int).toNat) (fun _ _ _ => True) (List.replicate k ()) (fun _ _ _ _ _ r => r) (by omega) (by rw [List.length_replicate]; omega) hD2 (fun x => rfl) (fun j b hj hb H' sm Q' q' => ?_) (fun H3 zs3 s3 hz3 pr3 => ?_)⟩
      · exact ⟨_, rfl, _, rfl, i, j, rfl, by rw [Int.zero_add], _, 1, rfl, rfl, q' _ H' (Same.refl _) trivial⟩
      · exact .inl ⟨D2, zs3, rfl, SqL.of hz3, fun p hp => q _ _ (s1.trans (s2.trans (s3.trans (same_new hp))))⟩
end
end Lt

set_option Elab.async false
set_option linter.all false
set_option maxRecDepth 100000
set_option maxHeartbeats 1000000
/-! the law's words -/
namespace Lt
open PySem PySem.Spec PyProof.Rows L2
def sps (n : Nat) : Str := ⟨(List.replicate n 32).toArray⟩
theorem mul_sp : ∀ n : Nat, n ≤ 2 → Txt.mul (" " : Str) (n : Int) = sps n := by decide +kernel
theorem mulOk_sp (n : Nat) (h : n ≤ 2) : MulOk (" " : Str) (n : Int) := by
  have : n = 0 ∨ n = 1 ∨ n = 2 := by omega
  rcases this with rfl | rfl | rfl
  · exact ⟨by decide +kernel, fun h => absurd (by decide) h, fun h => absurd (by decide) h⟩
  · exact ⟨by decide +kernel, fun _ h => absurd h (by decide +kernel), fun _ h => absurd h (by decide +kernel)⟩
  · exact ⟨by decide +kernel, fun _ _ => by decide +kernel, fun _ _ => by decide +kernel⟩
def rSp : R2 := fun x y H Q => ∃ n : Nat, x = .str " " ∧ y = .int (n : Int) ∧ n ≤ 2 ∧ Q (.str (sps n)) H
theorem op_sp {X : Cx} : OpR X (binaryOp .Mult) rSp := by
  intro pins s σ H x y v u Q I rx ry h
  obtain ⟨n, rfl, rfl, hn, q⟩ := h
  obtain ⟨t, rfl⟩ := rx
  obtain ⟨t', rfl⟩ := ry
  refine SB.mul (mulOk_sp n hn) fun t' k => ⟨.str (sps n), H, I.tok _, ⟨t', ?_⟩, q⟩
  rw [mul_sp n hn]
/-- all words that the law can write -/
def allW : List Str := ["not", "and", "or", "xor", "(", ")", "x9", "x", "nor", "x00", "0", "+", "X0", xL 0, xL 1, xL 2, xL 3, xL 4, xL 5]
def wdB (w : Str) : Bool := (decide (w.cps.toList ≠ []) && w.cps.toList.all fun c => decide (c ∈ runS.cps.toList)) || (decide (w.cps.size = 1) && w.cps.toList.all fun c => decide (c ∉ runS.cps.toList) && decide (c ≠ 32)) || decide (w = wX0)
theorem wd_of {w : Str} (h : wdB w = true) : Wd w := by
  unfold wdB at h
  rw [Bool.or_eq_true, Bool.or_eq_true, Bool.and_eq_true, Bool.and_eq_true] at h
  rcases h with (⟨h1, h2⟩ | ⟨h1, h2⟩) | h
  · exact .inl ⟨of_decide_eq_true h1, fun c hc => of_decide_eq_true (List.all_eq_true.mp h2 c hc)⟩
  · obtain ⟨⟨a⟩⟩ := w
    have h1 : a.length = 1 := of_decide_eq_true h1
    match a, h1 with
    | [c], _ =>
      have h3 := List.all_eq_true.mp h2 c List.mem_cons_self
      rw [Bool.and_eq_true] at h3
      exact .inr (.inl ⟨c, rfl, of_decide_eq_true h3.1, of_decide_eq_true h3.2⟩)
  · exact .inr (.inr (of_decide_eq_true h))
theorem allW_ok : ∀ w ∈ allW, wdB w = true ∧ w.length ≤ 3 := by decide +kernel
theorem allW_x : ∀ i, i < 6 → xL i ∈ allW := by decide +kernel
def opW (ws : List Str) : Nat := (ws.filter isOpen).length
theorem opW_app (a b : List Str) : opW (a ++ b) = opW a + opW b := by unfold opW; rw [List.filter_append, List.length_append]
theorem opW_one (w : Str) : opW [w] ≤ 1 := by unfold opW; exact List.length_filter_le _ _
theorem opW_td (ws : List Str) (i : Nat) : opW (ws.take i) + opW (ws.drop i) = opW ws := by rw [← opW_app, List.take_append_drop]
theorem opW_dr (ws : List Str) (i : Nat) : opW (ws.drop (i + 1)) ≤ opW (ws.drop i) := by
  have := opW_td (ws.drop i) 1
  rw [List.drop_drop] at this
  omega
theorem xL_open : ∀ i, i < 6 → isOpen (xL i) = false := by decide +kernel
theorem ltr_all {H : Hp} {m d : Nat} {v : V} {ws : List Str} (hm : m ≤ 6) (h : LTr H m d v ws) : opW ws + 1 ≤ 2 ^ d ∧ ∀ w ∈ ws, w ∈ allW := by
  induction h with
  | @leaf d i a h hi =>
    have h1 : 1 ≤ 2 ^ d := Nat.one_le_two_pow
    refine ⟨?_, fun w hw => ?_⟩
    · have : opW [xL i] = 0 := by unfold opW; rw [List.filter_cons, xL_open i (by omega)]; rfl
      omega
    · rw [List.mem_singleton.mp hw]
      exact allW_x i (by omega)
  | @neg d a v ws h _ ih =>
    have : 2 ^ (d + 1) = 2 * 2 ^ d := by rw [Nat.pow_succ, Nat.mul_comm]
    have h1 : 1 ≤ 2 ^ d := Nat.one_le_two_pow
    have h2 := opW_app [wNot] ws
    have h3 := opW_one wNot
    refine ⟨?_, fun w hw => ?_⟩
    · show opW ([wNot] ++ ws) + 1 ≤ _
      omega
    · rcases List.mem_cons.mp hw with rfl | hw
      · exact by decide +kernel
      · exact ih.2 w hw
  | @two d a j v u ws us h hj _ _ i1 i2 =>
    have : 2 ^ (d + 1) = 2 * 2 ^ d := by rw [Nat.pow_succ, Nat.mul_comm]
    have h3 := opW_one wOp
    have h4 : opW [j] = 0 := by
      have : ∀ j ∈ joins, opW [j] = 0 := by decide +kernel
      exact this j hj
    have h5 : opW [wCl] = 0 := by decide +kernel
    refine ⟨?_, fun w hw => ?_⟩
    · simp only [opW_app]
      omega
    · simp only [List.mem_append, List.mem_singleton] at hw
      rcases hw with (((rfl | hw) | rfl) | hw) | rfl
      · exact by decide +kernel
      · exact i1.2 w hw
      · have : ∀ j ∈ joins, j ∈ allW := by decide +kernel
        exact this _ hj
      · exact i2.2 w hw
      · exact by decide +kernel
theorem open_no : ¬ isOpen ("X" : Str) = true ∧ ¬ isOpen ("0" : Str) = true ∧ ¬ isOpen wVoid = true := by decide +kernel
theorem opens_flat : ∀ P : List Tok, opens (P.flatMap flat) ≤ opW (P.map (·.2))
  | [] => Nat.le_refl _
  | t :: P => by
    have ih := opens_flat P
    rw [List.flatMap_cons, List.map_cons]
    have h1 := opW_app [t.2] (P.map (·.2))
    have h2 : opens (flat t ++ P.flatMap flat) = opens (flat t) + opens (P.flatMap flat) := by unfold opens; rw [List.filter_append, List.length_append]
    have h3 : opens (flat t) ≤ opW [t.2] := by
      unfold flat
      split
      · have e : opens [(t.1, ("X" : Str)), (t.1 + 1, ("0" : Str))] = 0 := by
          unfold opens
          rw [List.filter_cons, List.filter_cons, if_neg open_no.1, if_neg open_no.2.1]
          rfl
        omega
      · unfold opens opW
        rw [List.filter_cons, List.filter_cons]
        split <;> exact Nat.le_refl _
    show _ ≤ opW ([t.2] ++ P.map (·.2))
    omega
theorem opens_toks (P : List Tok) (e : Nat) : opens (toks P e) ≤ opW (P.map (·.2)) := by
  have h := opens_flat P
  have h2 : opens (toks P e) = opens (P.flatMap flat) + opens [(e, wVoid)] := by unfold toks opens; rw [List.filter_append, List.length_append]
  have h3 : opens [(e, wVoid)] = 0 := by unfold opens; rw [List.filter_cons, if_neg open_no.2.2]; rfl
  omega
theorem nms_ok : ∀ m, m ≤ 6 → (wNot ∉ nmL m ∧ wOp ∉ nmL m ∧ wVoid ∉ nmL m) ∧ wX0 ∉ nmL m ∧ ("X" : Str) ∉ nmL m := by decide +kernel
theorem lex_bt {T : List Nat} {P : List Tok} (h : Bt T P) (n : Nat) (hn : n < 2) {x : Str} (hx : x.cps.toList = T ++ List.replicate n 32) : lexWords x = toks P x.length := by
  have e : x.cps.toList.length = x.length := Array.length_toList
  unfold lexWords lexWords.toks'
  rw [hx, h.all n hn, ← hx, e]
  rfl
/-- what the program does with the law's text -/
theorem prog_law {m : Nat} (hm : m ≤ 6) {T : List Nat} {P : List Tok} (h : Bt T P) (n : Nat) (hn : n < 2) {x : Str} (hx : x.cps.toList = T ++ List.replicate n 32) (ho : opW (P.map (·.2)) ≤ 20) :
    let k := (mach (nmL m) [.E] (P.map (·.2))).1
    let u := (mach (nmL m) [.E] (P.map (·.2))).2
    let due : Option Nat := if k < P.length then P[k]?.map (·.1) else if u = [] then none else some x.length
    (∀ p, prs (nmL m) 21 0 (lexWords x) = .error p → due = some p) ∧
    (∀ r, prs (nmL m) 21 0 (lexWords x) = .ok r → (r.length < 2 → due = none) ∧ ∀ t r', r = t :: r' → 2 ≤ r.length → due = some t.1) := by
  dsimp only
  obtain ⟨⟨a1, a2, a3⟩, a4, a5⟩ := nms_ok m hm
  have N : Nms (nmL m) := ⟨a1, a2, a3⟩
  have eL := lex_bt h n hn hx
  have hop := opens_toks P x.length
  have A := prs_mach N 21 0 (lexWords x) [] (lexWords_ends x) (by rw [eL]; omega) (by rw [eL]; omega)
  obtain ⟨b1, b2, b3⟩ := toks_mach N a4 a5 x.length P [.E]
  rw [eL] at A ⊢
  refine ⟨fun p hp => ?_, fun r hp => ?_⟩
  · rw [hp] at A
    obtain ⟨t, c1, c2, c3⟩ := A
    rw [b1] at c1 c3
    have b4 := b3 t c1
    by_cases hl : (mach (nmL m) [.E] (P.map (·.2))).1 < P.length
    · rw [if_pos hl] at b4 ⊢
      rw [b4.1, c2]
    · rw [if_neg hl] at b4 ⊢
      rw [if_neg c3, ← b4.1, c2]
  · rw [hp] at A
    obtain ⟨c0, k, c1, _, c2⟩ := A
    have c3 : mach (nmL m) [] (r.map (·.2)) = (0, []) := by
      cases r with
      | nil => exact absurd rfl c0.ne
      | cons t r => exact mach_none rfl
    rw [c3, b1] at c2
    have ek : (mach (nmL m) [.E] (P.map (·.2))).1 = k := by rw [c2]; rfl
    have eu : (mach (nmL m) [.E] (P.map (·.2))).2 = [] := by rw [c2]
    have hr : r.length = (toks P x.length).length - k := by rw [c1, List.length_drop]
    have hpos := List.length_pos_iff.mpr c0.ne
    obtain ⟨t0, r0, er⟩ : ∃ t r', r = t :: r' := by
      cases r with
      | nil => exact absurd rfl c0.ne
      | cons t r => exact ⟨t, r, rfl⟩
    have hg : (toks P x.length)[k]? = some t0 := by
      rw [er] at c1
      exact drop_get (n := 0) c1 rfl
    rw [ek] at b3 ⊢
    have b4 := b3 t0 hg
    refine ⟨fun h2 => ?_, fun t r' e h2 => ?_⟩
    · by_cases hl : k < P.length
      · rw [if_pos hl] at b4
        have := b4.2
        omega
      · rw [if_neg hl, if_pos eu]
    · have et : t = t0 := by rw [er] at e; injection e with e _; exact e.symm
      by_cases hl : k < P.length
      · rw [if_pos hl] at b4 ⊢
        rw [b4.1, et]
      · rw [if_neg hl] at b4
        have := b4.2
        omega
end Lt

set_option Elab.async false
set_option linter.all false
set_option maxRecDepth 100000
set_option maxHeartbeats 1000000
/-! k05: the law -/
namespace Lt
open PySem PySem.Spec PyProof.Rows L2
def lawN : List Str := ["script", "row", "inputs", "words", "at", "way", "odd", "text", "places", "word", "due", "e"]
section
variable (P : Program) (w : World) (K : PySem.W.Frag) (mg : Str → Option Value) (base : Heap)
structure LawHas5 (CB : Addr) : Prop where
  bi : Bi mg
  taken : Has P w K mg base CX0 1 "_law_taken" ["row", "many"] (spTaken K)
  pick : Has P w K mg base CX0 2 "_law_pick" ["row", "things"] (spPick K)
  tree : Has P w K mg base CX0 6 "_law_tree" ["row", "inputs", "deep"] (spLTree K 4)
  spell : Has P w K mg base CX0 5 "_law_spelled" ["row", "tree"] (spSpell 4)
  first : Has P w K mg base CX0 1 "_law_first" ["words", "inputs"] spFirst
  tab : Has P w K mg base (L2.CX P w) 27 "table_of" ["inputs", "text"] (spTab CB)
  err : ErrI P w K mg base "BadSign" "place" CB
end
theorem row_ne {K : PySem.W.Frag} {H : Hp} {r sc l : Addr} {ns : List Int} {ws : List Str} (h : RowAt K H r sc ns) (hl : H l = some (.lst (ws.map V.str))) : l ≠ r := fun e => by
  obtain ⟨a, b, c, R⟩ := h
  rw [e, R.at_] at hl
  have h2 := Option.some.inj hl
  injection h2 with h2
  cases ws with
  | nil => cases h2
  | cons w ws =>
    injection h2 with h2 _
    cases h2
theorem ltr_ne {H : Hp} {m d : Nat} {v : V} {ws : List Str} (h : LTr H m d v ws) : 1 ≤ ws.length := by
  cases h with
  | leaf h i => exact Nat.le_refl _
  | neg h _ => exact Nat.succ_pos _
  | two h j _ _ => simp only [List.length_append, List.length_cons]; omega
theorem cut_to (xs : List V) (a : Nat) : cutV xs none (some (a : Int)) = xs.take a := by
  unfold cutV
  rw [HT.sIx_nat, HT.sIx_none]
  show List.take (min a xs.length - 0) xs = _
  rw [Nat.sub_zero, ← List.take_take, List.take_length]
theorem cut_from (xs : List V) (a : Nat) : cutV xs (some (a : Int)) none = xs.drop a := by
  unfold cutV
  rw [HT.sIx_nat, HT.sIx_none]
  by_cases h : a ≤ xs.length
  · rw [Nat.min_eq_left h]
    exact List.take_of_length_le (by rw [List.length_drop]; exact Nat.le_refl _)
  · rw [Nat.min_eq_right (by omega), List.drop_length, List.drop_eq_nil_of_le (by omega), List.take_nil]
def oddL (m : Nat) : List Str := ["x9", "x", "not", "and", "(", ")", "xor", "nor", "x00", "0", "+", xL m, "X0"]
theorem oddL_ok : ∀ i, i < 6 → ∀ z ∈ oddL i, z ∈ allW := by decide +kernel
/-- what the law's words are to be -/
structure WsOk (ws : List Str) (b : Nat) : Prop where
  all : ∀ w ∈ ws, w ∈ allW
  op : opW ws ≤ b
  len : ws.length ≤ 22 + b
theorem WsOk.mono {ws : List Str} {b c : Nat} (h : WsOk ws b) (l : b ≤ c) : WsOk ws c := ⟨h.all, Nat.le_trans h.op l, by have := h.len; omega⟩
theorem WsOk.put {ws : List Str} {b i : Nat} {z : Str} (h : WsOk ws b) (hz : z ∈ allW) {j : Nat} (hj : j = i ∨ j = i + 1) : WsOk (ws.take i ++ [z] ++ ws.drop j) (b + 1) := by
  have h1 := opW_td ws i
  have h2 := opW_dr ws i
  have h3 := opW_one z
  have h4 := h.op
  have h5 := h.len
  refine ⟨fun w hw => ?_, ?_, ?_⟩
  · simp only [List.mem_append, List.mem_singleton] at hw
    rcases hw with (hw | rfl) | hw
    · exact h.all w (List.mem_of_mem_take hw)
    · exact hz
    · exact h.all w (List.mem_of_mem_drop hw)
  · rw [opW_app, opW_app]
    rcases hj with rfl | rfl <;> omega
  · rw [List.length_append, List.length_append, List.length_take, List.length_drop, List.length_singleton]
    rcases hj with rfl | rfl <;> omega
theorem WsOk.out {ws : List Str} {b i : Nat} (h : WsOk ws b) : WsOk (ws.take i ++ ws.drop (i + 1)) b := by
  have h1 := opW_td ws i
  have h2 := opW_dr ws i
  have h4 := h.op
  have h5 := h.len
  refine ⟨fun w hw => ?_, ?_, ?_⟩
  · simp only [List.mem_append] at hw
    rcases hw with hw | hw
    · exact h.all w (List.mem_of_mem_take hw)
    · exact h.all w (List.mem_of_mem_drop hw)
  · rw [opW_app]; omega
  · rw [List.length_append, List.length_take, List.length_drop]; omega
def dueV : Option Nat → V
  | none => .non
  | some p => nI p
theorem sc_law : FnScope lawN ["script"] (defScope s_law) := ⟨rfl, rfl, rfl, by decide +kernel, rfl, by decide +kernel, by decide +kernel⟩
def spLaw (K : PySem.W.Frag) : Sp := fun vs H Q _ => ∃ (l : Addr) (ns : List Int), vs = [.ref l] ∧ SqL K H l (ns.map V.int) ∧ ∀ H', Q (.bl true) H'
theorem law_len {K : PySem.W.Frag} : ∀ vs H Q E, spLaw K vs H Q E → vs.length = (["script"] : List Str).length := fun vs H Q E h => by
  obtain ⟨l, ns, rfl, _⟩ := h
  rfl
section
variable {P : Program} {w : World} {K : PySem.W.Frag} {mg : Str → Option Value} {base : Heap} {CB : Addr}
theorem law_body (L : LawHas5 P w K mg base CB) (f : Addr) (cdv : Value) (A : Around) (outer : List Env) (s : Shared) (H : Hp) (vs : List V) (Q : VK) (E : XK) (hr : Room 27 (A.deeper (envOfC "law" (defScope s_law) s.heap.objs.size f cdv))) (h : spLaw K vs H Q E) :
    ∃ t, PSs (cxOf CX0 P w K mg base lawN "law" (defScope s_law) f cdv A outer s H E).nox (defBody s_law) t ∧ t { nx := fun _ H' => Q .non H', rt := Q } (start lawN vs) H := by
  obtain ⟨sc, ns, rfl, hsc, q⟩ := h
  have B := L.bi
  have hr1 : Room 1 _ := hr.mono (by decide)
  have hr2 : Room 2 _ := hr.mono (by decide)
  have hr5 : Room 5 _ := hr.mono (by decide)
  have hr6 : Room 6 _ := hr.mono (by decide)
  refine ⟨_, pss_cons (ps_set (i := 1) sc_law.nd rfl (Or.inl rfl) (pe_lst (pa_cons (pv 0) (pa_cons pe_int (pa_cons pe_int (pa_cons pe_int pa_nil))))))
    (C8.pss_cut (ps_set (i := 2) sc_law.nd rfl (Or.inl rfl) (pe_op op_add pe_int (pe_has L.taken hr1 (by rfl) (pa_cons (pv 1) (pa_cons pe_int pa_nil)))))
    (pss_cons (ps_set (i := 3) sc_law.nd rfl (Or.inl rfl) (pe_has L.spell hr5 (by rfl) (pa_cons (pv 1) (pa_cons (pe_has L.tree hr6 (by rfl) (pa_cons (pv 1) (pa_cons (pv 2) (pa_cons pe_int pa_nil)))) pa_nil))))
    (pss_cons (ps_par (i := 4) (j := 5) (by rfl) sc_law.nd rfl rfl (by decide) rfl rfl (pa_cons (pe_has L.taken hr1 (by rfl) (pa_cons (pv 1) (pa_cons (pe_callB call_len_seq (by rfl) B.len PySem.boot_len (pa_cons (pv 3) pa_nil)) pa_nil))) (pa_cons (pe_has L.taken hr1 (by rfl) (pa_cons (pv 1) (pa_cons pe_int pa_nil))) pa_nil)) (by rfl))
    (C8.pss_cut (ps_set (i := 6) sc_law.nd rfl (Or.inl rfl) (pe_has L.pick hr2 (by rfl) (pa_cons (pv 1) (pa_cons (pe_lst (pa_cons pe_str (pa_cons pe_str (pa_cons pe_str (pa_cons pe_str (pa_cons pe_str (pa_cons pe_str (pa_cons pe_str (pa_cons pe_str (pa_cons pe_str (pa_cons pe_str (pa_cons pe_str (pa_cons (pe_op op_add_str pe_str (pe_callTy call_str_int (by rfl) B.str PyProof.Rows.boot_str (pa_cons (pv 2) pa_nil))) (pa_cons pe_str pa_nil)))))))))))))) pa_nil))))
    (C8.pss_cut (ps_if (pt_cmpR op_eq (pv 5) pe_int (nomark _)) (pss_one (ps_set (i := 3) sc_law.nd rfl (Or.inl rfl) (pe_op op_cat (pe_op op_cat (pe_slice sl_list (pv 3) po_none (po_some (pv 4))) (pe_lst (pa_cons (pv 6) pa_nil))) (pe_slice sl_list (pv 3) (po_some (pe_op op_add (pv 4) pe_int)) po_none)))) pss_nil)
    (C8.pss_cut (ps_if (pt_cmpR op_eq (pv 5) pe_int (nomark _)) (pss_one (ps_set (i := 3) sc_law.nd rfl (Or.inl rfl) (pe_op op_cat (pe_slice sl_list (pv 3) po_none (po_some (pv 4))) (pe_slice sl_list (pv 3) (po_some (pe_op op_add (pv 4) pe_int)) po_none)))) pss_nil)
    (C8.pss_cut (ps_if (pt_cmpR op_eq (pv 5) pe_int (nomark _)) (pss_one (ps_set (i := 3) sc_law.nd rfl (Or.inl rfl) (pe_op op_cat (pe_op op_cat (pe_slice sl_list (pv 3) po_none (po_some (pv 4))) (pe_lst (pa_cons (pv 6) pa_nil))) (pe_slice sl_list (pv 3) (po_some (pv 4)) po_none)))) pss_nil)
    (pss_cons (ps_par (i := 7) (j := 8) (by rfl) sc_law.nd rfl rfl (by decide) rfl rfl (pa_cons pe_str (pa_cons (pe_lst pa_nil) pa_nil)) (by rfl))
    (pss_cons (ps_for PassesOwn.never rfl (pi_list (pv 3)) (pg_name (i := 9) sc_law.nd rfl (Or.inl rfl))
      (pss_cons (ps_set (i := 7) sc_law.nd rfl (Or.inl rfl) (pe_op op_add_str (pv 7) (pe_op op_sp pe_str (pe_op op_add pe_int (pe_has L.taken hr1 (by rfl) (pa_cons (pv 1) (pa_cons pe_int pa_nil)))))))
      (pss_cons (ps_expr (pe_bm PySem.F.plainAttrs_list PySem.F.slot_list_append PySem.F.type_list_append mt_append (pv 8) (pa_cons (pe_callB call_len_str (by rfl) B.len PySem.boot_len (pa_cons (pv 7) pa_nil)) pa_nil)))
      (pss_one (ps_set (i := 7) sc_law.nd rfl (Or.inl rfl) (pe_op op_add_str (pv 7) (pv 9)))))))
    (pss_cons (ps_set (i := 7) sc_law.nd rfl (Or.inl rfl) (pe_op op_add_str (pv 7) (pe_op op_sp pe_str (pe_has L.taken hr1 (by rfl) (pa_cons (pv 1) (pa_cons pe_int pa_nil))))))
    (pss_cons (ps_set (i := 10) sc_law.nd rfl (Or.inl rfl) (pe_has L.first hr1 (by rfl) (pa_cons (pv 3) (pa_cons (pv 2) pa_nil))))
    (C8.pss_cut (ps_if (pt_cmp (pc_notN (pv 10)) (by rfl)) (pss_one (ps_set (i := 10) sc_law.nd rfl (Or.inl rfl) (pe_ifExp (pt_cmpR op_lt (pv 10) (pe_callB call_len_seq (by rfl) B.len PySem.boot_len (pa_cons (pv 3) pa_nil)) (nomark _)) (pe_ix ix_list (pv 8) (pv 10) (fun _ _ => rfl)) (pe_callB call_len_str (by rfl) B.len PySem.boot_len (pa_cons (pv 7) pa_nil))))) pss_nil)
    (pss_one (ps_try_as (i := 11) (tb := fun W => tSeq (tDrop (tCallS (spTab CB) (WE W) (tCons (tVar 2) (tCons (tVar 7) tNil)))) (tRet (tIsN (tVar 10)))) (ts := fun a cls d => tRet (tOp rEq (tXf a cls d CB "place" (tVar 11)) (tVar 10))) (Wout := fun _ _ _ _ => False) rfl rfl sc_law.nd rfl rfl ⟨rfl, by decide, Or.inl L.err.g⟩ L2.takes0
        (fun W pn xe tk _ => pss_cons (ps_expr (pe_hasS L.tab hr (by rfl) (fun σ => passAt tk σ) (pa_cons (pv 2) (pa_cons (pv 7) pa_nil)))) (pss_one (ps_ret (pe_cmp (pc_isN (pv 10)) (by rfl)))))
        (fun a oe cls d pn hz hf => pss_one (ps_ret (pe_cmpR op_eq (pe_xf L.err.xf L.err.no hz hf (pv 11)) (pv 10) (nomark _)))))))))))))))))), ?_⟩
  refine ⟨_, rfl, by show 4 ≤ sizeLine; decide, fun r hrn => ?_⟩
  have s0 := same_new (o := .lst [V.ref sc, V.int 0, V.int 7705, V.int 0]) hrn
  have ra : RowAt K (upd H r (.lst [V.ref sc, V.int 0, V.int 7705, V.int 0])) r sc ns := ⟨0, 7705, 0, ⟨upd_same, Same.seq s0 hsc, by decide, by decide, by decide⟩⟩
  refine ⟨fun σ1 H1 => ∃ m : Nat, σ1 = [some (.ref sc), some (.ref r), some (nI m), none, none, none, none, none, none, none, none, none] ∧ 1 ≤ m ∧ m ≤ 4 ∧ RowAt K H1 r sc ns, ?_, ?_⟩
  · refine ⟨_, rfl, r, sc, ns, 4, rfl, ra, by decide, by decide, fun x H1 hx st ra1 => ⟨1, (x : Int), rfl, rfl, x + 1, ?_, by omega, by omega, ra1⟩⟩
    have em : (1 : Int) + (x : Int) = ((x + 1 : Nat) : Int) := by omega
    show ([some (V.ref sc), some (V.ref r), none, none, none, none, none, none, none, none, none, none].set 2 (some (V.int (1 + (x : Int))))) = _
    rw [em]
    rfl
  rintro σ1 H1 ⟨m, rfl, hm1, hm4, ra1⟩
  refine ⟨_, rfl, _, rfl, _, rfl, r, sc, ns, m, 3, rfl, ra1, hm1, by omega, by decide, by decide, fun v ws H2 st2 ra2 lt => ⟨.ref r, v, m, 3, ws, rfl, lt, by omega, by decide, by decide, fun l H3 s3 hl => ?_⟩⟩
  have ra3 := ra2.step s3
  have w1 := ltr_ne lt
  have w2 := ltr_len lt
  obtain ⟨w3, w4⟩ := ltr_all (by omega) lt
  have wok : WsOk ws 7 := ⟨w4, by omega, by omega⟩
  have hne := row_ne ra3 hl
  refine ⟨_, rfl, _, rfl, l, ws.map V.str, rfl, .inl (SqL.of hl), r, sc, ns, (ws.map V.str).length, rfl, ra3, by rw [List.length_map]; omega, by rw [List.length_map]; omega, fun at_ H4 hat st4 ra4 => ?_⟩
  refine ⟨_, rfl, r, sc, ns, 4, rfl, ra4, by decide, by decide, fun way H5 hway st5 ra5 => ⟨_, _, rfl, ?_⟩⟩
  have hl5 := st5 _ _ hne (st4 _ _ hne hl)
  refine ⟨fun σ6 H6 => ∃ z : Str, σ6 = [some (.ref sc), some (.ref r), some (nI m), some (.ref l), some (nI at_), some (nI way), some (.str z), none, none, none, none, none] ∧ z ∈ allW ∧ RowAt K H6 r sc ns ∧ H6 l = some (.lst (ws.map V.str)), ?_, ?_⟩
  · have hle : ("x" : Str).length + (Str.ofString (toString ((m : Nat) : Int))).length ≤ sizeLine := by
      rw [← Str_len, sizeLine_eq]
      have := (xN_len m (by omega)).2
      rw [← xL_xN m (by omega)] at this
      exact this
    refine ⟨_, rfl, _, rfl, (m : Int), rfl, log_small (by omega), ("x" : Str), _, rfl, rfl, hle, by show 13 ≤ sizeLine; decide, fun p hp => ?_⟩
    have s6 := same_new (o := .lst ((oddL m).map V.str)) hp
    refine ⟨r, p, sc, ns, (oddL m).map V.str, rfl, ra5.step s6, upd_same, (ra5.ne hp).symm, by show 1 ≤ 13; decide, by show 13 ≤ 1000; decide, fun x H6 hx st6 ra6 => ?_⟩
    obtain ⟨z, hz, rfl⟩ := List.mem_map.mp hx
    exact ⟨z, rfl, oddL_ok m (by omega) z hz, ra6, st6 _ _ hne (s6 _ _ hl5)⟩
  rintro σ6 H6 ⟨z, rfl, hz, ra6, hl6⟩
  have catLen : ∀ {us : List Str} {b : Nat}, WsOk us b → b ≤ 100 → (us.map V.str).length ≤ 122 := fun h hb => by
    have := h.len
    rw [List.length_map]
    omega
  refine ⟨fun σ7 H7 => ∃ (l : Addr) (ws : List Str), σ7 = [some (.ref sc), some (.ref r), some (nI m), some (.ref l), some (nI at_), some (nI way), some (.str z), none, none, none, none, none] ∧ WsOk ws 8 ∧ RowAt K H7 r sc ns ∧ H7 l = some (.lst (ws.map V.str)), ?_, ?_⟩
  · refine ⟨_, rfl, rfl, _, rfl, ite2 (fun _ => ?_) (fun _ => ⟨l, ws, rfl, wok.mono (by decide), ra6, hl6⟩)⟩
    have wo := wok.put (i := at_) (j := at_ + 1) hz (.inr rfl)
    have wl := catLen wok (by decide)
    refine ⟨_, rfl, _, rfl, (at_ : Int), rfl, l, ws.map V.str, rfl, SqL.of hl6, fun p1 hp1 => ?_⟩
    rw [cut_to, ← List.map_take]
    have s1 := same_new (o := .lst ((ws.take at_).map V.str)) hp1
    refine ⟨_, rfl, by show 1 ≤ sizeLine; decide, fun p2 hp2 => ?_⟩
    have s2 := same_new (o := .lst [V.str z]) hp2
    have t1 : ((ws.take at_).map V.str).length ≤ 122 := by rw [List.length_map, List.length_take]; rw [List.length_map] at wl; omega
    refine ⟨p1, p2, (ws.take at_).map V.str, [V.str z], rfl, rfl, s2 _ _ upd_same, upd_same, by rw [sizeLine_eq]; show _ + 1 ≤ _; omega, fun p3 hp3 => ?_⟩
    have s3 := same_new (o := .lst ((ws.take at_).map V.str ++ [V.str z])) hp3
    have s13 := s1.trans (s2.trans s3)
    refine ⟨_, rfl, _, rfl, (at_ : Int), 1, rfl, rfl, ((at_ + 1 : Nat) : Int), rfl, l, ws.map V.str, rfl, SqL.of (s13 _ _ hl6), fun p4 hp4 => ?_⟩
    rw [cut_from, ← List.map_drop]
    have s4 := same_new (o := .lst ((ws.drop (at_ + 1)).map V.str)) hp4
    have t2 : ((ws.drop (at_ + 1)).map V.str).length ≤ 122 := by rw [List.length_map, List.length_drop]; rw [List.length_map] at wl; omega
    refine ⟨p3, p4, (ws.take at_).map V.str ++ [V.str z], (ws.drop (at_ + 1)).map V.str, rfl, rfl, s4 _ _ upd_same, upd_same, by rw [List.length_append, sizeLine_eq]; show _ + 1 + _ ≤ _; omega, fun p5 hp5 => ?_⟩
    refine ⟨p5, _, rfl, wo, ra6.step (s13.trans (s4.trans (same_new hp5))), ?_⟩
    rw [upd_same]
    simp only [List.map_append, List.map_cons, List.map_nil]
  rintro σ7 H7 ⟨l, ws, rfl, wok, ra7, hl7⟩
  refine ⟨fun σ7 H7 => ∃ (l : Addr) (ws : List Str), σ7 = [some (.ref sc), some (.ref r), some (nI m), some (.ref l), some (nI at_), some (nI way), some (.str z), none, none, none, none, none] ∧ WsOk ws 9 ∧ RowAt K H7 r sc ns ∧ H7 l = some (.lst (ws.map V.str)), ?_, ?_⟩
  · refine ⟨_, rfl, rfl, _, rfl, ite2 (fun _ => ?_) (fun _ => ⟨l, ws, rfl, wok.mono (by decide), ra7, hl7⟩)⟩
    have wo := wok.out (i := at_)
    have wl := catLen wok (by decide)
    refine ⟨_, rfl, _, rfl, (at_ : Int), rfl, l, ws.map V.str, rfl, SqL.of hl7, fun p1 hp1 => ?_⟩
    rw [cut_to, ← List.map_take]
    have s1 := same_new (o := .lst ((ws.take at_).map V.str)) hp1
    have t1 : ((ws.take at_).map V.str).length ≤ 122 := by rw [List.length_map, List.length_take]; rw [List.length_map] at wl; omega
    refine ⟨_, rfl, _, rfl, (at_ : Int), 1, rfl, rfl, ((at_ + 1 : Nat) : Int), rfl, l, ws.map V.str, rfl, SqL.of (s1 _ _ hl7), fun p4 hp4 => ?_⟩
    rw [cut_from, ← List.map_drop]
    have s4 := same_new (o := .lst ((ws.drop (at_ + 1)).map V.str)) hp4
    have t2 : ((ws.drop (at_ + 1)).map V.str).length ≤ 122 := by rw [List.length_map, List.length_drop]; rw [List.length_map] at wl; omega
    refine ⟨p1, p4, (ws.take at_).map V.str, (ws.drop (at_ + 1)).map V.str, rfl, rfl, s4 _ _ upd_same, upd_same, by rw [sizeLine_eq]; omega, fun p5 hp5 => ?_⟩
    refine ⟨p5, _, rfl, wo.mono (by decide), ra7.step (s1.trans (s4.trans (same_new hp5))), ?_⟩
    rw [upd_same]
    simp only [List.map_append]
  clear hl7 ra7 wok
  rintro σ7 H7 ⟨l, ws, rfl, wok, ra7, hl7⟩
  refine ⟨fun σ7 H7 => ∃ (l : Addr) (ws : List Str), σ7 = [some (.ref sc), some (.ref r), some (nI m), some (.ref l), some (nI at_), some (nI way), some (.str z), none, none, none, none, none] ∧ WsOk ws 10 ∧ RowAt K H7 r sc ns ∧ H7 l = some (.lst (ws.map V.str)), ?_, ?_⟩
  · refine ⟨_, rfl, rfl, _, rfl, ite2 (fun _ => ?_) (fun _ => ⟨l, ws, rfl, wok.mono (by decide), ra7, hl7⟩)⟩
    have wo := wok.put (i := at_) (j := at_) hz (.inl rfl)
    have wl := catLen wok (by decide)
    refine ⟨_, rfl, _, rfl, (at_ : Int), rfl, l, ws.map V.str, rfl, SqL.of hl7, fun p1 hp1 => ?_⟩
    rw [cut_to, ← List.map_take]
    have s1 := same_new (o := .lst ((ws.take at_).map V.str)) hp1
    refine ⟨_, rfl, by show 1 ≤ sizeLine; decide, fun p2 hp2 => ?_⟩
    have s2 := same_new (o := .lst [V.str z]) hp2
    have t1 : ((ws.take at_).map V.str).length ≤ 122 := by rw [List.length_map, List.length_take]; rw [List.length_map] at wl; omega
    refine ⟨p1, p2, (ws.take at_).map V.str, [V.str z], rfl, rfl, s2 _ _ upd_same, upd_same, by rw [sizeLine_eq]; show _ + 1 ≤ _; omega, fun p3 hp3 => ?_⟩
    have s3 := same_new (o := .lst ((ws.take at_).map V.str ++ [V.str z])) hp3
    have s13 := s1.trans (s2.trans s3)
    refine ⟨_, rfl, _, rfl, (at_ : Int), rfl, l, ws.map V.str, rfl, SqL.of (s13 _ _ hl7), fun p4 hp4 => ?_⟩
    rw [cut_from, ← List.map_drop]
    have s4 := same_new (o := .lst ((ws.drop at_).map V.str)) hp4
    have t2 : ((ws.drop at_).map V.str).length ≤ 122 := by rw [List.length_map, List.length_drop]; rw [List.length_map] at wl; omega
    refine ⟨p3, p4, (ws.take at_).map V.str ++ [V.str z], (ws.drop at_).map V.str, rfl, rfl, s4 _ _ upd_same, upd_same, by rw [List.length_append, sizeLine_eq]; show _ + 1 + _ ≤ _; omega, fun p5 hp5 => ?_⟩
    refine ⟨p5, _, rfl, wo, ra7.step (s13.trans (s4.trans (same_new hp5))), ?_⟩
    rw [upd_same]
    simp only [List.map_append, List.map_cons, List.map_nil]
  clear hl7 ra7 wok
  rintro σ7 H7 ⟨l, ws, rfl, wok, ra7, hl7⟩
  have hwl : ws.length ≤ 32 := wok.len
  refine ⟨Nat.zero_le _, fun pl hpl => ⟨_, _, rfl, ?_⟩⟩
  have s8 := same_new (o := .lst []) hpl
  have hlp : l ≠ pl := ne_of_none hl7 hpl
  have hrp : r ≠ pl := ra7.ne hpl
  have hlr : l ≠ r := row_ne ra7 hl7
  have hw4 : ∀ {w : Str}, w ∈ ws → Wd w ∧ w.length ≤ 3 := fun h => ⟨wd_of (allW_ok _ (wok.all _ h)).1, (allW_ok _ (wok.all _ h)).2⟩
  refine ⟨_, rfl, l, rfl, ⟨_, SqL.of (s8 _ _ hl7)⟩, for_list (K := K) (a := l) (xs := ws.map V.str)
    (fun i σ H' => ∃ (T : List Nat) (Pt : List Tok) (x : Str) (xw : Option V), σ = [some (.ref sc), some (.ref r), some (nI m), some (.ref l), some (nI at_), some (nI way), some (.str z), some (.str x), some (.ref pl), xw, none, none] ∧ x.cps.toList = T ∧ Bt T Pt ∧ Pt.map (·.2) = ws.take i ∧ T.length ≤ 5 * i ∧ RowAt K H' r sc ns ∧ H' l = some (.lst (ws.map V.str)) ∧ H' pl = some (.lst (Pt.map fun t => nI t.1)))
    ⟨[], [], "", none, rfl, by decide +kernel, .nil, rfl, Nat.zero_le _, ra7.step s8, s8 _ _ hl7, upd_same⟩ (fun i σ H' _ ⟨_, _, _, _, _, _, _, _, _, _, h, _⟩ => SqL.of h) ?_ ?_⟩
  · rintro i x0 σ H' hi ⟨T, Pt, x, xw, rfl, rfl, bt, hpm, htl, ra', hl', hpl'⟩
    rw [List.getElem?_map] at hi
    obtain ⟨w0, hw0, rfl⟩ := Option.map_eq_some_iff.mp hi
    have hiw : i < ws.length := (List.getElem?_eq_some_iff.mp hw0).1
    obtain ⟨wd, w3'⟩ := hw4 (List.mem_of_getElem? hw0)
    have exl : x.cps.toList.length = x.length := Array.length_toList
    have hpp : Pt.length ≤ i := by
      have := congrArg List.length hpm
      rw [List.length_map, List.length_take] at this
      omega
    refine ⟨_, rfl, _, rfl, r, sc, ns, 2, rfl, ra', by decide, by decide, fun y H1 hy st1 ra1 => ⟨1, (y : Int), rfl, rfl, y + 1, rfl, congrArg V.int (show (1 : Int) + (y : Int) = ((y + 1 : Nat) : Int) by omega), by omega, x, sps (y + 1), rfl, rfl, ?_, ?_⟩⟩
    · have e : (sps (y + 1)).length = y + 1 := by unfold sps; exact List.length_replicate ..
      rw [e, sizeLine_eq]
      omega
    have e1 : (sps (y + 1)).length = y + 1 := by unfold sps; exact List.length_replicate ..
    have e2 : (x ++ sps (y + 1)).length = x.length + (y + 1) := by rw [Str_len, e1]
    have hpl1 := st1 _ _ (Ne.symm hrp) hpl'
    have hl1 := st1 _ _ hlr hl'
    refine ⟨_, rfl, .inl ⟨rfl, _, SqL.of hpl1⟩, _, rfl, x ++ sps (y + 1), rfl, by rw [e2, sizeLine_eq]; omega, pl, _, _, rfl, rfl, hpl1, by rw [List.length_map, sizeLine_eq]; omega, ?_⟩
    refine ⟨_, rfl, _, rfl, x ++ sps (y + 1), w0, rfl, rfl, by rw [e2, sizeLine_eq]; omega, ?_⟩
    have et : (x ++ sps (y + 1) ++ w0).cps.toList = x.cps.toList ++ List.replicate (y + 1) 32 ++ w0.cps.toList := by
      show (x.cps ++ (List.replicate (y + 1) 32).toArray ++ w0.cps).toList = _
      rw [Array.toList_append, Array.toList_append]
    refine ⟨_, Pt ++ [(x.cps.toList.length + (y + 1), w0)], x ++ sps (y + 1) ++ w0, _, rfl, et, bt.snoc wd, ?_, ?_, ?_, (upd_ne hlp).trans hl1, ?_⟩
    · rw [List.map_append, hpm, List.take_add_one, hw0]
      rfl
    · rw [List.length_append, List.length_append, List.length_replicate]
      have : w0.cps.toList.length = w0.length := Array.length_toList
      omega
    · obtain ⟨a, b, c, R⟩ := ra1
      refine ⟨a, b, c, (upd_ne hrp).trans R.at_, ?_, R.a0, R.b0, R.b1⟩
      exact (RowAt.mut ra7 hpl ⟨a, b, c, R⟩).sq
    · rw [upd_same, List.map_append, e2, exl]
      rfl
  rintro σ H' ⟨T, Pt, x, xw, rfl, rfl, bt, hpm, htl, ra', hl', hpl'⟩
  rw [List.length_map] at hpm htl
  rw [List.take_length] at hpm
  have exl : x.cps.toList.length = x.length := Array.length_toList
  refine ⟨_, rfl, _, rfl, r, sc, ns, 2, rfl, ra', by decide, by decide, fun y H1 hy st1 ra1 => ⟨y, rfl, rfl, by omega, x, sps y, rfl, rfl, ?_, ?_⟩⟩
  · have e : (sps y).length = y := by unfold sps; exact List.length_replicate ..
    rw [e, sizeLine_eq]
    omega
  have e1 : (sps y).length = y := by unfold sps; exact List.length_replicate ..
  have e2 : (x ++ sps y).length = x.length + y := by rw [Str_len, e1]
  have hpl1 := st1 _ _ (Ne.symm hrp) hpl'
  have hl1 := st1 _ _ hlr hl'
  have et : (x ++ sps y).cps.toList = x.cps.toList ++ List.replicate y 32 := by
    show (x.cps ++ (List.replicate y 32).toArray).toList = _
    rw [Array.toList_append]
  have PL := prog_law (m := m) (by omega) bt y (by omega) et (by rw [hpm]; have := wok.op; omega)
  have opk : opens (lexWords (x ++ sps y)) ≤ 20 := by
    rw [lex_bt bt y (by omega) et]
    have := opens_toks Pt (x ++ sps y).length
    rw [hpm] at this
    have := wok.op
    omega
  have hPw : Pt.length = ws.length := by rw [← hpm, List.length_map]
  rw [hpm] at PL
  dsimp only at PL
  generalize hX : x ++ sps y = X at *
  refine ⟨_, rfl, _, rfl, l, m, ws, rfl, hl1, by omega, by omega, fun H2 s2 => ?_⟩
  have hl2 := s2 _ _ hl1
  have hpl2 := s2 _ _ hpl1
  obtain ⟨⟨a1, a2, a3⟩, _, _⟩ := nms_ok m (by omega)
  generalize hdue : (if (mach (nmL m) [Nd.E] ws).1 < Pt.length then Pt[(mach (nmL m) [Nd.E] ws).1]?.map (·.1) else if (mach (nmL m) [Nd.E] ws).2 = [] then none else some X.length) = due at PL
  refine ⟨fun σ8 H8 => H8 = H2 ∧ σ8 = [some (.ref sc), some (.ref r), some (nI m), some (.ref l), some (nI at_), some (nI way), some (.str z), some (.str X), some (.ref pl), xw, some (dueV due), none], ?_, ?_⟩
  · by_cases hk : (mach (nmL m) [Nd.E] ws).1 < ws.length
    · have ed : dueAt (nmL m) ws = nI (mach (nmL m) [Nd.E] ws).1 := by unfold dueAt; rw [if_pos hk]
      rw [ed]
      have hk2 : (mach (nmL m) [Nd.E] ws).1 < Pt.length := by omega
      rw [if_pos hk2, List.getElem?_eq_getElem hk2] at hdue
      have hdue2 : due = some (Pt[(mach (nmL m) [Nd.E] ws).1]).1 := hdue.symm
      refine ⟨_, rfl, true, rfl, iteT ⟨_, rfl, _, rfl, l, ws.map V.str, rfl, .inl (SqL.of hl2), (((mach (nmL m) [Nd.E] ws).1 : Nat) : Int), _, rfl, rfl, true, congrArg V.bl (decide_eq_true ?_), iteT ⟨_, rfl, _, rfl, pl, _, (((mach (nmL m) [Nd.E] ws).1 : Nat) : Int), nI (Pt[(mach (nmL m) [Nd.E] ws).1]).1, rfl, rfl, SqL.of hpl2, atI_nat ?_, rfl, ?_⟩⟩⟩
      · rw [List.length_map]
        omega
      · rw [List.getElem?_map, List.getElem?_eq_getElem hk2]
        rfl
      · rw [hdue2]
        rfl
    · have hk2 : ¬ (mach (nmL m) [Nd.E] ws).1 < Pt.length := by omega
      rw [if_neg hk2] at hdue
      by_cases hu : (mach (nmL m) [Nd.E] ws).2 = []
      · have ed : dueAt (nmL m) ws = .non := by unfold dueAt; rw [if_neg hk, if_pos hu]
        rw [ed]
        rw [if_pos hu] at hdue
        rw [← hdue]
        exact ⟨_, rfl, false, rfl, iteF ⟨rfl, rfl⟩⟩
      · have ed : dueAt (nmL m) ws = nI ws.length := by unfold dueAt; rw [if_neg hk, if_neg hu]
        rw [ed]
        rw [if_neg hu] at hdue
        rw [← hdue]
        refine ⟨_, rfl, true, rfl, iteT ⟨_, rfl, _, rfl, l, ws.map V.str, rfl, .inl (SqL.of hl2), (ws.length : Int), _, rfl, rfl, false, congrArg V.bl (decide_eq_false ?_), iteF ⟨_, rfl, X, rfl, by rw [e2, sizeLine_eq]; omega, rfl, rfl⟩⟩⟩
        rw [List.length_map]
        omega
  rintro σ8 H8 ⟨rfl, rfl⟩
  refine ⟨_, rfl, _, rfl, m, X, rfl, by omega, by omega, by rw [e2]; omega, ⟨a1, a2, a3⟩, opk, fun p hp => ?_, fun r' hp => ⟨fun h2 v H9 s9 => ?_, fun t r'' e h2 => ?_⟩⟩
  · have := PL.1 p hp
    subst this
    intro d H5 s5 hd
    refine ⟨true, L.err.exm, fun _ a ha => ?_, fun q => by cases q⟩
    refine ⟨.ref a, rfl, rfl, rfl, d, _, _, rfl, hd, rfl, _, rfl, rfl, ?_⟩
    rw [decide_eq_true (show nI p = dueV (some p) from rfl)]
    exact q _
  · have := (PL.2 r' hp).1 h2
    subst this
    exact ⟨_, rfl, q _⟩
  · have := (PL.2 r' hp).2 t r'' e h2
    subst this
    intro d H5 s5 hd
    refine ⟨true, L.err.exm, fun _ a ha => ?_, fun q => by cases q⟩
    refine ⟨.ref a, rfl, rfl, rfl, d, _, _, rfl, hd, rfl, _, rfl, rfl, ?_⟩
    rw [decide_eq_true (show nI t.1 = dueV (some t.1) from rfl)]
    exact q _
end
end Lt

set_option Elab.async false
set_option linter.all false
set_option maxRecDepth 100000
set_option maxHeartbeats 2000000
namespace Lt
open PySem PySem.Spec PyProof.Rows L2
section
variable {P : Program} {w : World} {K : PySem.W.Frag} {mg : Str → Option Value} {base : Heap} {CB CN CS : Addr}
theorem Cn.gl {x : Str} {i : Int} (h : Cn mg x i) : ∃ u, mg x = some u ∧ RelV (.int i) u := let ⟨t, h⟩ := h; ⟨_, h, ⟨t, rfl⟩⟩
theorem Cs.gl {x z : Str} (h : Cs mg x z) : ∃ u, mg x = some u ∧ RelV (.str z) u := let ⟨t, h⟩ := h; ⟨_, h, ⟨t, rfl⟩⟩
theorem TopFs.has (T : TopFs K mg CB CN CS) : LawHas5 P w K mg base CB := by
  have B := T.bi
  have eB : ErrI P w K mg base "BadSign" "place" CB := T.e_BadSign.errI init_BadSign
  have i1 : Has P w K mg base CX0 1 "is_number" _ _ := has_is_number T.f_is_number B
  have i2 := has_check_inputs T.f_check_inputs T.c_MOST_INPUTS.gl T.e_BadNumber i1
  have i3 : Has P w K mg base CX0 1 "placed_words" _ _ := has_placed_words T.f_placed_words B T.c_RUN_SIGNS.gl
  have i4 := has_expected T.f_expected eB
  have i5 := has_tree_from T.f_tree_from eB ⟨T.c_MOST_AROUND.gl, T.c_JOINERS⟩ i4 21
  have i6 := has_formula_tree T.f_formula_tree B eB T.e_BadString i2 i3 i5
  have i7 : Has P w K mg base CX0 1 "input_table" _ _ := has_input_table T.f_input_table B
  have i8 : Has P w K mg base CX0 1 "bits_of" _ _ := has_bits_of T.f_bits_of B T.b_sum
  have i9 := has_table_of T.f_table_of B i6 i7 i8 (fun m => has_worth_of T.f_worth_of B (m := m) 22)
  have j1 : Has P w K mg base CX0 1 "_law_taken" _ _ := has_law_taken T.f_law_taken B
  have j2 := has_law_pick T.f_law_pick B j1
  exact { bi := B, taken := j1, pick := j2, tree := has_law_tree T.f_law_tree j1 4, spell := has_law_spelled T.f_law_spelled B 4, first := has_law_first T.f_law_first B, tab := i9, err := eB }
theorem law_fin {h : Heap} {fa f : Addr} {oc kV doc pm cdv ct : Value} {od an : Option Addr} {osl : Array (Option Value)} (X : K.In h) (hfa : mg "law" = some (.ref fa)) (G : h.Ns mainGlobals mg) (a : PySem.W.nsIn K mainGlobals "law" = some (some (.ref f)))
    (l : K.lookup f = some ⟨oc, od, .func (PySem.W.fnOf "law" "law" (defArgs s_law) (defBody s_law) (defScope s_law) .none kV doc pm an cdv ct), osl⟩) (c : PySem.W.codeIn K cdv "law" = true) (k : PySem.W.keepIn K (.ref f) = true) (T : TopFs K mg CB CN CS) :
    ∃ fd : FuncData, (∀ (s : Shared) (u : Value), BindsTo s fd ⟨[u], []⟩ [("script", u)]) ∧ ∀ base : Heap, K.In base → base.Ns mainGlobals mg → FnOk P w K mg base CX0 28 fa fd ["script"] (spLaw K) := by
  have e := hfa.symm.trans (PySem.W.mg_of X G a)
  cases e
  exact ⟨_, fun s u => .of_eq rfl, fun base _ _ => (fun_mk l c k).ok sc_law law_len fun cdv A outer s H vs Q E hr h => law_body T.has _ cdv A outer s H vs Q E hr h⟩
end
end Lt

open PySem PySem.W PyProof.Rows
set_option Elab.async false
set_option maxRecDepth 100000 in
set_option maxHeartbeats 0 in
theorem PySem.Challenge.cw_lockturns_k05_bent_formulas_holds : PySem.Challenge.rw_lockturns_k05_bent_formulas.Holds := by
  w_on; o_law; k_head; (case hw => w_witness2)
  k_fill
  refine L2.walk_ofK (l := PySem.Challenge.rw_lockturns_k05_bent_formulas) (n := 63) (k := 28) (x := "script") (CX := L2.CX0) (sp := Lt.spLaw) rfl (by decide) rfl ⟨rfl, by decide, by decide⟩ (fun w h Y => PySem.W.kIn_of Y) ?F (fun K H a ns _ _ h3 => ⟨a, ns, rfl, h3, fun _ => rfl⟩) (fun _ _ _ _ z => z)
  case F =>
    intro w mg fa h KX G hmg
    have bi : Lt.Bi mg := by
      refine' { tuple := mg_none_of KX G ?z0, list := mg_none_of KX G ?z1, range := mg_none_of KX G ?z2, len := mg_none_of KX G ?z3, sorted := mg_none_of KX G ?z4, enumerate := mg_none_of KX G ?z5, isinstance := mg_none_of KX G ?z6, all := mg_none_of KX G ?z7, set := mg_none_of KX G ?z8, int := mg_none_of KX G ?z9, bool := mg_none_of KX G ?z10, str := mg_none_of KX G ?z11 }
      all_goals k_is
    have b_sum : mg "sum" = none := by
      refine' mg_none_of KX G ?z
      (case z => k_is)
    have c_RUN_SIGNS : Lt.Cs mg "RUN_SIGNS" "abcdefghijklmnopqrstuvwxyz0123456789" := by
      refine' Lt.cs_mk KX G ?a ?b
      (case a => k_is); (case b => exact ⟨_, rfl⟩)
    have c_JOINERS : Lt.CtX KX mg "JOINERS" ["and", "or", "xor"] := by
      refine' Lt.ct_mk KX G ?a ?l ?b
      (case a => k_is); (case l => k_is); (case b => exact ⟨_, _, rfl, rfl, by decide, .cons ⟨_, rfl⟩ (.cons ⟨_, rfl⟩ (.cons ⟨_, rfl⟩ .nil))⟩)
    have c_MOST_INPUTS : Lt.Cn mg "MOST_INPUTS" 6 := by
      refine' Lt.cn_mk KX G ?a ?b
      (case a => k_is); (case b => exact ⟨_, rfl⟩)
    have c_MOST_AROUND : Lt.Cn mg "MOST_AROUND" 20 := by
      refine' Lt.cn_mk KX G ?a ?b
      (case a => k_is); (case b => exact ⟨_, rfl⟩)
    have f_is_number : Lt.TopX KX mg "is_number" Lt.s_is_number ["value"] := by
      refine' Lt.top_mk KX G ?a ?l ?c ?k (fun _ _ _ _ _ _ us hl => match us, hl with | [_], _ => rfl)
      (case a => k_is); (case l => k_is); (case c => k_is); (case k => k_is)
    have f_table_of : Lt.TopX KX mg "table_of" Lt.s_table_of ["inputs", "text"] := by
      refine' Lt.top_mk KX G ?a ?l ?c ?k (fun _ _ _ _ _ _ us hl => match us, hl with | [_, _], _ => rfl)
      (case a => k_is); (case l => k_is); (case c => k_is); (case k => k_is)
    have f_check_inputs : Lt.TopX KX mg "check_inputs" Lt.s_check_inputs ["inputs"] := by
      refine' Lt.top_mk KX G ?a ?l ?c ?k (fun _ _ _ _ _ _ us hl => match us, hl with | [_], _ => rfl)
      (case a => k_is); (case l => k_is); (case c => k_is); (case k => k_is)
    have f_input_table : Lt.TopX KX mg "input_table" Lt.s_input_table ["inputs", "own"] := by
      refine' Lt.top_mk KX G ?a ?l ?c ?k (fun _ _ _ _ _ _ us hl => match us, hl with | [_, _], _ => rfl)
      (case a => k_is); (case l => k_is); (case c => k_is); (case k => k_is)
    have f_bits_of : Lt.TopX KX mg "bits_of" Lt.s_bits_of ["table"] := by
      refine' Lt.top_mk KX G ?a ?l ?c ?k (fun _ _ _ _ _ _ us hl => match us, hl with | [_], _ => rfl)
      (case a => k_is); (case l => k_is); (case c => k_is); (case k => k_is)
    have f_formula_tree : Lt.TopX KX mg "formula_tree" Lt.s_formula_tree ["inputs", "text"] := by
      refine' Lt.top_mk KX G ?a ?l ?c ?k (fun _ _ _ _ _ _ us hl => match us, hl with | [_, _], _ => rfl)
      (case a => k_is); (case l => k_is); (case c => k_is); (case k => k_is)
    have f_placed_words : Lt.TopX KX mg "placed_words" Lt.s_placed_words ["text"] := by
      refine' Lt.top_mk KX G ?a ?l ?c ?k (fun _ _ _ _ _ _ us hl => match us, hl with | [_], _ => rfl)
      (case a => k_is); (case l => k_is); (case c => k_is); (case k => k_is)
    have f_tree_from : Lt.TopX KX mg "tree_from" Lt.s_tree_from ["names", "words", "at", "around"] := by
      refine' Lt.top_mk KX G ?a ?l ?c ?k (fun _ _ _ _ _ _ us hl => match us, hl with | [_, _, _, _], _ => rfl)
      (case a => k_is); (case l => k_is); (case c => k_is); (case k => k_is)
    have f_expected : Lt.TopX KX mg "expected" Lt.s_expected ["words", "at", "wanted"] := by
      refine' Lt.top_mk KX G ?a ?l ?c ?k (fun _ _ _ _ _ _ us hl => match us, hl with | [_, _, _], _ => rfl)
      (case a => k_is); (case l => k_is); (case c => k_is); (case k => k_is)
    have f_worth_of : Lt.TopX KX mg "worth_of" Lt.s_worth_of ["tree", "leaves", "every"] := by
      refine' Lt.top_mk KX G ?a ?l ?c ?k (fun _ _ _ _ _ _ us hl => match us, hl with | [_, _, _], _ => rfl)
      (case a => k_is); (case l => k_is); (case c => k_is); (case k => k_is)
    have f_law_taken : Lt.TopX KX mg "_law_taken" Lt.s_law_taken ["row", "many"] := by
      refine' Lt.top_mk KX G ?a ?l ?c ?k (fun _ _ _ _ _ _ us hl => match us, hl with | [_, _], _ => rfl)
      (case a => k_is); (case l => k_is); (case c => k_is); (case k => k_is)
    have f_law_pick : Lt.TopX KX mg "_law_pick" Lt.s_law_pick ["row", "things"] := by
      refine' Lt.top_mk KX G ?a ?l ?c ?k (fun _ _ _ _ _ _ us hl => match us, hl with | [_, _], _ => rfl)
      (case a => k_is); (case l => k_is); (case c => k_is); (case k => k_is)
    have f_law_tree : Lt.TopX KX mg "_law_tree" Lt.s_law_tree ["row", "inputs", "deep"] := by
      refine' Lt.top_mk KX G ?a ?l ?c ?k (fun _ _ _ _ _ _ us hl => match us, hl with | [_, _, _], _ => rfl)
      (case a => k_is); (case l => k_is); (case c => k_is); (case k => k_is)
    have f_law_spelled : Lt.TopX KX mg "_law_spelled" Lt.s_law_spelled ["row", "tree"] := by
      refine' Lt.top_mk KX G ?a ?l ?c ?k (fun _ _ _ _ _ _ us hl => match us, hl with | [_, _], _ => rfl)
      (case a => k_is); (case l => k_is); (case c => k_is); (case k => k_is)
    have f_law_first : Lt.TopX KX mg "_law_first" Lt.s_law_first ["words", "inputs"] := by
      refine' Lt.top_mk KX G ?a ?l ?c ?k (fun _ _ _ _ _ _ us hl => match us, hl with | [_, _], _ => rfl)
      (case a => k_is); (case l => k_is); (case c => k_is); (case k => k_is)
    have ee_BadSign : Lt.ErrE KX mg "BadSign" "place" Lt.s_BadSign := by
      refine' Lt.err_mk KX G ?aC ?xL ?rv ?sa ?ga ?gg ?no ?kC ?eC ?tC ?hC ?iC ?sC ?i1 ?i2 ?i3 ?i4 ?i5 (fun _ _ _ _ _ _ us hl => match us, hl with | [_, _], _ => rfl)
      (case aC => k_is); (case xL => k_is); (case rv => decide +kernel); (case sa => k_is); (case ga => k_is); (case gg => k_is); (case no => k_is); (case kC => k_is); (case eC => k_is); (case tC => k_is); (case hC => k_is); (case iC => k_is); (case sC => first | rfl | k_is)
      (case i1 => k_is); (case i2 => k_is); (case i3 => k_is); (case i4 => k_is); (case i5 => k_is)
    obtain ⟨C_BadSign, e_BadSign⟩ := ee_BadSign
    have ee_BadNumber : Lt.NoE KX mg "BadNumber" := by
      refine' Lt.no_mk KX G ?aC ?qx ?kC ?eC ?tC ?iC ?sC
      (case aC => k_is); (case qx => first | rfl | kernel_rfl); (case kC => k_is); (case eC => k_is); (case tC => k_is); (case iC => k_is); (case sC => first | rfl | k_is)
    obtain ⟨C_BadNumber, e_BadNumber⟩ := ee_BadNumber
    have ee_BadString : Lt.NoE KX mg "BadString" := by
      refine' Lt.no_mk KX G ?aC ?qx ?kC ?eC ?tC ?iC ?sC
      (case aC => k_is); (case qx => first | rfl | kernel_rfl); (case kC => k_is); (case eC => k_is); (case tC => k_is); (case iC => k_is); (case sC => first | rfl | k_is)
    obtain ⟨C_BadString, e_BadString⟩ := ee_BadString
    refine' Lt.law_fin KX hmg G ?a ?l ?c ?k ⟨bi, b_sum, c_RUN_SIGNS, c_JOINERS, c_MOST_INPUTS, c_MOST_AROUND, e_BadSign, e_BadNumber, e_BadString, f_is_number, f_table_of, f_check_inputs, f_input_table, f_bits_of, f_formula_tree, f_placed_words, f_tree_from, f_expected, f_worth_of, f_law_taken, f_law_pick, f_law_tree, f_law_spelled, f_law_first⟩
    (case a => k_is); (case l => k_is); (case c => k_is); (case k => k_is)
#print axioms PySem.Challenge.cw_lockturns_k05_bent_formulas_holds

