import PyProof.Rows.All
import Wide.All
import OpenK.AllK
import Wide.FinOn
import HandS.ForMost
import HandS.Evl
import HandS.Wide
import PyProof.ReprRoads
import PyProof.Rows.RuleB_pow
import HandS.Exc
import KE.KExcInit
import PyProof.ExcBaseAll.LookupError
import PyProof.ExcBaseAll.IndexError
import PyProof.ExcBaseAll.OverflowError
import PyProof.StrLawsRepr
import HandS.ExcInit
import HandS.ExcValue
import HandS.ExcIs
import HandS.IsInst
import HandS.Set
import HandS.SetFor
import HandS.Strs
import PyProof.ListRange
import PyProof.LongRange
import HandS.Conv
import HandS.Star
import HandS.Words
import HandS.ClsMeth
import HandS.OwnEq
import KE.KCallOwn
import HandS.DictSub
import HandS.SetBool
import KE.KDictZip
import HandS.Zip
import HandS.FStr
import HandS.StrMore
import HandS.Property
import HandS.Style
import PySem.Challenge.RW_needrows_k02_canonical_tuples
import HandS.TupAny
import HandS.Walk
import HandS.More
import HandS.CallRecv
set_option Elab.async false
set_option maxRecDepth 100000
set_option maxHeartbeats 2000000
set_option linter.all false
/-! Calls where no repr runs around (guards), repr of whole data, powers of great numbers. -/
namespace XG
open PySem PySem.Spec PyProof.Rows L2

/-- what a def promises where no guard stands around its call -/
structure FnG (P : Program) (w : World) (K : PySem.W.Frag) (mg : Str → Option Value) (base : Heap) (CX : CXT) (k : Nat) (f : Addr) (fd : FuncData) (ps : List Str) (sp : Sp) : Prop where
  len : ∀ vs H Q E, sp vs H Q E → vs.length = ps.length
  run : ∀ (A : Around) (outer : List Env) (s : Shared) (H : Hp) (args : Args) (us : List Value) (vs : List V) (Q : VK) (E : XK), A.guards = some [] → Room k A → Env0 P w K mg base A outer s H →
    BindsTo s fd args (ps.zip us) → Vals vs us → sp vs H Q E → codeAny (model P w) A (.call (.ref f) args) (CR CX outer P w H s Q E) s
theorem FnG.of {P : Program} {w : World} {K : PySem.W.Frag} {mg : Str → Option Value} {base : Heap} {CX : CXT} {k : Nat} {f : Addr} {fd : FuncData} {ps : List Str} {sp : Sp} (F : FnOk P w K mg base CX k f fd ps sp) : FnG P w K mg base CX k f fd ps sp :=
  ⟨F.len, fun A outer s H args us vs Q E _ hr e0 hb r h => F.run A outer s H args us vs Q E hr e0 hb r h⟩
theorem deeper_guards (A : Around) (env : Env) : (A.deeper env).guards = A.guards := by
  cases A; rfl

section
variable {P : Program} {w : World} {K : PySem.W.Frag} {mg : Str → Option Value} {base : Heap}
theorem okG {x qual : Str} {st : Stmt} {f : Addr} {fd : FuncData} {N ps : List Str} {k : Nat} {sp : Sp} (F : Fun K x qual st f fd) (S : FnScope N ps (defScope st)) (len : ∀ vs H Q E, sp vs H Q E → vs.length = ps.length)
    (hb : ∀ (cdv : Value) (A : Around) (outer : List Env) (s : Shared) (H : Hp) (vs : List V) (Q : VK) (E : XK), A.guards = some [] → Room k (A.deeper (envOfC qual (defScope st) s.heap.objs.size f cdv)) → sp vs H Q E →
      ∃ t, PSs (cxOf CX0 P w K mg base N qual (defScope st) f cdv A outer s H E).nox (defBody st) t ∧ t { nx := fun _ H' => Q .non H', rt := Q } (start N vs) H) : FnG P w K mg base CX0 (k + 1) f fd ps sp := by
  obtain ⟨oc, od, kV, doc, pm, an, cdv, ct, osl, rfl, lk, hcd⟩ := F.ex
  refine ⟨len, fun A outer s H args us vs Q E hg hr e0 hbd r hsp => ?_⟩
  have KX : K.In s.heap := e0.mod.kin.keeps fun b o e => (e0.bs b o e).1
  have lim : s.heap.NoLimit := e0.mod.nolimit.keeps fun b o e => (e0.bs b o e).1
  have hkd : ∀ y ∈ ps.zip us, (defScope st).names.lookup y.1 = some .local ∨ ((defScope st).names.lookup y.1 = some .cell ∧ ((cellsFrom (s.heap.objs.size + 1) (defScope st).names []).lookup y.1).isSome = true) := by
    rintro ⟨n, v⟩ hy
    cases S.par n (List.of_mem_zip hy).1 with
    | inl q => exact Or.inl q
    | inr q => exact Or.inr ⟨q, PySem.W.cellsFrom_some _ _ _ (Or.inl q)⟩
  refine codeAny_call_function hr.depth (KX _ _ lk) rfl S.co S.gen rfl (PySem.W.codeRec_of KX hcd) (hbd _ _ _ _ ?_)
  refine wpAny_newFunctionEnv_cells S.kind hkd fun env he s1 x => ?_
  subst he
  refine ⟨lim.keeps x.toInCall.keep, codeAny_func ?_⟩
  obtain ⟨t, ht, hq⟩ := hb cdv A outer s H vs Q E hg (hr.deeper _) hsp
  have I := inv_start (CX := CX0) (E := E) (w := w) (qual := qual) (cd := cdv) S hr.hd e0 (len _ _ _ _ hsp) r x
  refine wpAny_mono (ht.nox.run [] s1 (start N vs) H _ I hq) (fun fl s' hs => ?_) fun _ _ z => z
  cases fl with
  | ret u =>
    obtain ⟨v, σ', H', J, rv, q⟩ := hs
    exact ⟨v, H', J.os, J.bare, J.base, J.hok, rv, q⟩
  | next =>
    obtain ⟨σ', H', J, q⟩ := hs
    exact ⟨V.non, H', J.os, J.bare, J.base, J.hok, rfl, q⟩
  | brk => exact (hs.choose_spec.choose_spec.2 : False).elim
  | cont => exact (hs.choose_spec.choose_spec.2 : False).elim
end

section
variable {X : Cx} {CX : CXT} {k : Nat} {f : Addr} {fd : FuncData} {ps : List Str} {sp : Sp} {dvs : List V} {ds : List Value} {E : XK} {x : Str} {p pos : Pos} {e : Expr} {es : List Expr} {ta : TE} {t : TA}
theorem run_fnG {pins : List (Addr × Obj)} {σ : L2.St} {H : Hp} {s : Shared} {Q : VK} {us : List Value} {vs : List V} (F : FnG X.prog X.w X.K X.mg X.base CX k f fd ps sp) (hG : X.A.guards = some []) (hr : Room k X.A) (hb : Binds X.K fd ps ds) (hd : Vals dvs ds) (hx : Passes CX X E)
    (I : Inv X pins σ H s) (r : Vals vs us) (h : sp (vs ++ dvs) H Q E) : wpAny (model X.prog X.w) X.A (call (.ref f) us) (EP X pins σ Q) X.xe s := by
  have r2 := r.append hd
  have hl : (us ++ ds).length = ps.length := r2.length ▸ F.len _ _ _ _ h
  refine wpAny_call (codeAny_mono (F.run X.A X.stack s H ⟨us, []⟩ (us ++ ds) (vs ++ dvs) Q E hG hr I.env0 (hb s us I.kIn hl) r2 h) fun r s' hq => ?_)
  cases r with
  | error e => exact hx pins σ H s e s' I hq
  | ok fl =>
    cases fl with
    | ret u => exact I.after hq
    | next => exact (hq : False).elim
    | brk => exact (hq : False).elim
    | cont => exact (hq : False).elim
theorem pe_callG (F : FnG X.prog X.w X.K X.mg X.base CX k f fd ps sp) (hG : X.A.guards = some []) (hr : Room k X.A) (hg : Gl X x) (hm : X.mg x = some (.ref f)) (hk : PySem.W.keepIn X.K (.ref f) = true) (hb : Binds X.K fd ps ds) (hd : Vals dvs ds) (hx : Passes CX X E)
    (ha : PA X (e :: es) t) (hdb : (x == ("__debug__" : Str)) = false := by decide) (he : starEach (e :: es) X.env = (false, eval e X.env) :: starEach es X.env := by rfl) (hpl : (backTo pos (starEach es X.env)).any (·.1) = false := by rfl) :
    PE X (.Call (.Name x p) (e :: es) [] pos) (tCall sp dvs E t) := by
  constructor
  intro pins s σ H Q I h
  refine wpAny_Call_Name_kw (ld_glob I hg hm ?_ hdb)
  exact PySem.W.callWith_K (h₀ := X.base) I.ok.mod.kin hk (thn (ha.run pos pins s σ H _ I h) fun us s1 ⟨vs, H1, I1, r, q⟩ => ⟨I1.kIn, run_fnG F hG hr hb hd hx I1 r q⟩) he hpl
end

/-! ### a list's display, whose place is not the modules' -/
def tLstS (t : TA) : TE := fun σ H Q => t σ H fun xs H1 => xs.length ≤ sizeLine ∧ ∀ p, H1 p = none → p ≠ sysModules → Q (.ref p) (upd H1 p (.lst xs))
theorem pe_lstS {X : Cx} {es : List Expr} {t : TA} {pos : Pos} (h : PA X es t) : PE X (.List es pos) (tLstS t) := by
  refine ⟨fun pins s σ H Q I hq => ?_⟩
  refine wpAny_List_spliced (thn (h.run pos pins s σ H _ I hq) fun us s1 ⟨xs, H1, I1, r, z, q⟩ => ⟨by rw [← r.length]; exact z, ?_⟩)
  have hf : H1 s1.heap.objs.size = none := I1.hok.fresh (Nat.le_refl _)
  refine ⟨.ref s1.heap.objs.size, upd H1 s1.heap.objs.size (.lst xs), I1.laid (t' := s1.toks) (fun b u e => Heap.get?_push_of_some _ e) (Nat.le_refl _) ?_, rfl, q _ hf (Nat.ne_of_gt I1.big)⟩
  exact ⟨z, us, 0, r, Heap.get?_push_size _ rfl⟩

/-! ### powers of great numbers -/
def CPowB (i j : Int) : Prop := 0 ≤ j ∧ (Builtin.Int.intBits i : Int) * j ≤ 2 ^ 27
theorem op_powB {X : Cx} : OpR X (binaryOp .Pow) (rI CPowB fun i j => .int (i ^ j.toNat)) := opI fun _ _ _ _ _ _ _ hc q => pow_int hc.1 hc.2 q

/-! ### what a value is, all the way down -/
mutual
inductive Rep (K : PySem.W.Frag) (H : Hp) : V → PyData → Prop
  | non : Rep K H .non .none
  | bl (b : Bool) : Rep K H (.bl b) (.bool b)
  | int (i : Int) : Rep K H (.int i) (.int i)
  | str (x : Str) : Rep K H (.str x) (.str x)
  | lst {a : Addr} {xs : List V} {ds : List PyData} : SqL K H a xs → RepAll K H xs ds → a ≠ sysModules → Rep K H (.ref a) (.list ds)
  | tup {a : Addr} {xs : List V} {ds : List PyData} : SqT K H a xs → RepAll K H xs ds → Rep K H (.ref a) (.tuple ds)
  | dic {a : Addr} {kvs : List (Key × V)} {ds : List (PyData × PyData)} : H a = some (.dK kvs) → RepAll K H (kvs.map fun p => kV p.1) (ds.map (·.1)) → RepAll K H (kvs.map (·.2)) (ds.map (·.2)) → Rep K H (.ref a) (.dict ds)
inductive RepAll (K : PySem.W.Frag) (H : Hp) : List V → List PyData → Prop
  | nil : RepAll K H [] []
  | cons {v : V} {vs : List V} {d : PyData} {ds : List PyData} : Rep K H v d → RepAll K H vs ds → RepAll K H (v :: vs) (d :: ds)
end
section
variable {K : PySem.W.Frag} {H H' : Hp}
mutual
theorem Rep.mono (e : Evl.Ex H H') : ∀ {d : PyData} {v : V}, Rep K H v d → Rep K H' v d
  | _, _, .non => .non
  | _, _, .bl b => .bl b
  | _, _, .int i => .int i
  | _, _, .str x => .str x
  | _, _, .lst h r z => .lst (Evl.ex_l e h) (RepAll.mono e r) z
  | _, _, .tup h r => .tup (Evl.ex_t e h) (RepAll.mono e r)
  | _, _, .dic h r q => .dic (e _ _ h) (RepAll.mono e r) (RepAll.mono e q)
theorem RepAll.mono (e : Evl.Ex H H') : ∀ {ds : List PyData} {vs : List V}, RepAll K H vs ds → RepAll K H' vs ds
  | _, _, .nil => .nil
  | _, _, .cons a b => .cons (Rep.mono e a) (RepAll.mono e b)
end
end


section
variable {X : Cx} {pins : List (Addr × Obj)} {σ : L2.St} {H : Hp} {s : Shared}
theorem kV_rel {k : Key} {v : Value} (h : keyIs k v = true) : RelV (kV k) v := by
  rcases keyIs_shape h with ⟨i, t, rfl, rfl⟩ | ⟨x, t, rfl, rfl⟩
  · exact ⟨t, rfl⟩
  · exact ⟨t, rfl⟩
theorem pairs_vals : ∀ {kvs : List (Key × V)} {vs : List (Key × Value)} {es : List DictEntry}, KV kvs vs → Pairs (mixKind X.prog X.w) es vs → Vals (kvs.map fun p => kV p.1) (es.map (·.key)) ∧ Vals (kvs.map (·.2)) (es.map (·.val))
  | _, _, _, .nil, .nil => ⟨.nil, .nil⟩
  | _, _, _, .cons ⟨e, r⟩ t, .cons h1 h2 h3 => by
    obtain ⟨q1, q2⟩ := pairs_vals t h3
    refine ⟨.cons ?_ q1, .cons ?_ q2⟩
    · show RelV (kV _) _
      rw [e]
      exact kV_rel h1
    · show RelV _ (DictEntry.val _)
      rw [h2]
      exact r
mutual
/-- what is told of a value is read off the heap -/
theorem Rep.reads (I : Inv X pins σ H s) : ∀ {d : PyData} {v : V} {u : Value}, Rep X.K H v d → RelV v u → ∃ as, Reads s.heap u d as ∧ ∀ b ∈ as, b ≠ sysModules
  | _, _, _, .non, r => by
    cases r
    exact ⟨_, Reads.none, fun b z => nomatch z⟩
  | _, _, _, .bl b, r => by
    cases r
    exact ⟨_, Reads.bool b, fun b z => nomatch z⟩
  | _, _, _, .int i, r => by
    obtain ⟨t, rfl⟩ := r
    exact ⟨_, Reads.int i t, fun b z => nomatch z⟩
  | _, _, _, .str x, r => by
    obtain ⟨t, rfl⟩ := r
    exact ⟨_, Reads.str x t, fun b z => nomatch z⟩
  | _, _, _, .lst hs ha hn, r => by
    cases r
    obtain ⟨its, rv, ⟨o, n, ho, hc, _, hd⟩, _⟩ := I.list hs
    obtain ⟨as, hr, hk⟩ := RepAll.reads I ha rv
    refine ⟨_, Reads.list ho hc hd hr, fun b z => ?_⟩
    rcases List.mem_cons.mp z with e | z
    · rw [e]
      exact hn
    · exact hk b z
  | _, _, _, .tup hs ha, r => by
    cases r
    obtain ⟨its, rv, ⟨o, ho, hc, n, hd⟩, _⟩ := I.tuple hs
    obtain ⟨as, hr, hk⟩ := RepAll.reads I ha rv
    exact ⟨_, Reads.tuple ho hc hd hr, hk⟩
  | _, _, _, .dic hs ha hb, r => by
    cases r
    obtain ⟨_, hne, vs, kv, o, es, ep, ho, hx, hd, _, hp, _⟩ := I.hok _ _ hs
    obtain ⟨r1, r2⟩ := pairs_vals kv hp
    obtain ⟨as, q1, k1⟩ := RepAll.reads I ha r1
    obtain ⟨bs, q2, k2⟩ := RepAll.reads I hb r2
    refine ⟨_, Reads.dict ho hx.1 hd q1 q2, fun b z => ?_⟩
    rcases List.mem_append.mp z with z | z
    · rcases List.mem_cons.mp z with e | z
      · rw [e]
        exact beq_eq_false_iff_ne.mp hne
      · exact k1 b z
    · exact k2 b z
theorem RepAll.reads (I : Inv X pins σ H s) : ∀ {ds : List PyData} {vs : List V} {us : List Value}, RepAll X.K H vs ds → Vals vs us → ∃ as, ReadsAll s.heap us ds as ∧ ∀ b ∈ as, b ≠ sysModules
  | _, _, _, .nil, r => by
    cases r
    exact ⟨_, ReadsAll.nil, fun b z => nomatch z⟩
  | _, _, _, .cons h1 h2, r => by
    cases r with
    | cons r1 r2 =>
      obtain ⟨as, q1, k1⟩ := Rep.reads I h1 r1
      obtain ⟨bs, q2, k2⟩ := RepAll.reads I h2 r2
      refine ⟨_, ReadsAll.cons q1 q2, fun b z => ?_⟩
      rcases List.mem_append.mp z with z | z
      · exact k1 b z
      · exact k2 b z
end
end

section
variable {X : Cx}
/-- repr(x), x data of any depth -/
def rRepr (K : PySem.W.Frag) : List V → Hp → VK → Prop := fun xs H Q => ∃ x d, xs = [x] ∧ Rep K H x d ∧ d.showable = true ∧ d.depth ≤ 100 ∧ d.shown.length ≤ sizeLine ∧ Q (.str d.shown) H
theorem call_reprG {k : Nat} (hG : X.A.guards = some []) (hr : Room k X.A) : CallR X (.builtin "repr") (rRepr X.K) := by
  intro pins s σ H xs us Q I r h
  obtain ⟨x, d, rfl, hd, hs, hdp, hz, q⟩ := h
  cases r with
  | @cons _ u _ ur rx rr =>
    cases rr
    have hun : X.A.units + (d.depth + 1) < cLine := by
      have := hr.un
      omega
    cases hd with
    | non =>
      cases rx
      exact PySem.P.repr_of_none ⟨.str _, H, I.tok _, ⟨_, rfl⟩, q⟩
    | bl b =>
      cases rx
      exact PySem.P.repr_of_bool ⟨.str _, H, I.tok _, ⟨_, rfl⟩, q⟩
    | int i =>
      obtain ⟨t, rfl⟩ := rx
      exact PySem.P.repr_of_int (by simpa [PyData.showable] using hs) ⟨.str _, H, I.tok _, ⟨_, rfl⟩, q⟩
    | str y =>
      obtain ⟨t, rfl⟩ := rx
      exact PySem.P.repr_of_str ⟨.str _, H, I.tok _, ⟨_, rfl⟩, q⟩ hz
    | lst h1 h2 h3 =>
      cases rx
      obtain ⟨as, hrd, hk⟩ := Rep.reads I (Rep.lst h1 h2 h3) rfl
      exact repr_of_reads' hrd hs (fun _ z => hk _ z rfl) hG hun (fun _ _ e => e) (fun h' t tk k => ⟨.str _, H, I.kept k, ⟨_, rfl⟩, q⟩) hz
    | tup h1 h2 =>
      cases rx
      obtain ⟨as, hrd, hk⟩ := Rep.reads I (Rep.tup h1 h2) rfl
      exact repr_of_reads' hrd hs (fun _ z => hk _ z rfl) hG hun (fun _ _ e => e) (fun h' t tk k => ⟨.str _, H, I.kept k, ⟨_, rfl⟩, q⟩) hz
    | dic h1 h2 h3 =>
      cases rx
      obtain ⟨as, hrd, hk⟩ := Rep.reads I (Rep.dic h1 h2 h3) rfl
      exact repr_of_reads' hrd hs (fun _ z => hk _ z rfl) hG hun (fun _ _ e => e) (fun h' t tk k => ⟨.str _, H, I.kept k, ⟨_, rfl⟩, q⟩) hz
end


/-! ### the law's own call, from a caller around whom no guard stands -/
section
variable {P : Program} {w : World} {K : PySem.W.Frag} {mg mb : Str → Option Value} {CX : CXT} {k : Nat} {fa a : Addr} {fd : FuncData} {x : Str} {sp : Sp} {s₁ : Shared}
/-- what an abstract heap may track ahead of the call: the script alone, and only where it is none of the text's own objects -/
structure Lone (K : PySem.W.Frag) (h : Heap) (a : Addr) (H : Hp) : Prop where
  one : ∀ b u, H b = some u → b = a ∧ K.lookup a = none ∧ ∃ o xs, u = .frz o (.lst xs) ∧ h.get? a = some o
  isl : ∃ vs : Array Value, h.get? a = some { cls := .type "list", data := .seq vs }
theorem Lone.free {h : Heap} {H : Hp} (L : Lone K h a H) {b : Addr} {o : Obj} (hk : K.lookup b = some o) : H b = none := by
  cases q : H b with
  | none => rfl
  | some u =>
    obtain ⟨rfl, e, _⟩ := L.one b u q
    rw [e] at hk
    cases hk
theorem Lone.dict {h : Heap} {H : Hp} (L : Lone K h a H) {b : Addr} {o : Obj} {es : Array DictEntry} {ep : Nat} (e : h.get? b = some o) (d : o.data = .dict es ep) : H b = none := by
  cases q : H b with
  | none => rfl
  | some u =>
    obtain ⟨rfl, _⟩ := L.one b u q
    obtain ⟨vs, z⟩ := L.isl
    rw [z] at e
    cases e
    cases d
theorem Lone.ns {h : Heap} {H : Hp} (L : Lone K h a H) {b : Addr} {m : Str → Option Value} : h.Ns b m → (hidT h H).Ns b m := by
  rintro ⟨o, es, ep, e, d, r⟩
  exact ⟨o, es, ep, hidT_get e (L.dict e d), d, r⟩
theorem callLone {H : Hp} (KX : K.In s₁.heap) (hns : s₁.heap.Ns mainGlobals mg) (hb : s₁.heap.Ns builtinsNs mb) (hbb : ∀ x : Str, x ≠ "__name__" → mb x = bootBuiltins x) (hlim : s₁.heap.NoLimit) (hg : s₁.gens = #[])
    (hr : Room k callerA) (F : ∀ base : Heap, K.In base → base.Ns mainGlobals mg → FnG P w K mg base CX k fa fd [x] sp) (hbind : ∀ (s : Shared) (u : Value), BindsTo s fd ⟨[u], []⟩ [(x, u)])
    (L : Lone K s₁.heap a H) (hok : HOk P w H s₁.heap) (hsp : sp [.ref a] H (fun v _ => v = .bl true) fun _ _ _ => False) (hCX : ∀ e s', CX [] H s₁ (fun _ _ _ => False) e s' → False) :
    codeAny (model P w) callerA (.call (.ref fa) ⟨[.ref a], []⟩) (fun r s' => r = .ok (.ret (.bool true)) ∧ OldK s₁.heap s'.heap ∧ s'.os = s₁.os ∧ AllBare s'.gens) s₁ := by
  have none0 : ∀ {b : Addr}, b ∉ frs ([] : List Env) := fun z => nomatch z
  have kb : K.In (hidT s₁.heap H) := fun b o e => hidT_get (KX b o e) (L.free e)
  obtain ⟨mc, l1, l2⟩ := hlim
  have e0 : Env0 P w K mg (hidT s₁.heap H) callerA [] s₁ H :=
    { frames := rfl, mod := ⟨kb, L.ns hns, ⟨mb, L.ns hb, hbb⟩, mc, L.ns l1, l2⟩, bs := fun _ _ e => of_hidT e, bsz := Nat.le_of_eq (hidT_size _ _), funs := trivial, frf := fun b z => absurd z none0, hok := hok, bare := .of_eq hg }
  have run := (F _ kb (L.ns hns)).run callerA [] s₁ H ⟨[.ref a], []⟩ [.ref a] [.ref a] _ _ rfl hr e0 (hbind s₁ (.ref a)) (.cons rfl .nil) hsp
  refine codeAny_mono run fun r s' h => ?_
  match r, h with
  | .error e, h => exact (hCX e s' h).elim
  | .ok (.ret u), h =>
    obtain ⟨v, H', os, bare, un, hok', rv, rfl⟩ := h
    cases (show u = Value.bool true from rv)
    refine ⟨rfl, OldK.of_keep fun b o e => ?_, os, bare⟩
    cases q : H b with
    | none => exact un.keep b o e q none0 (fun z => nomatch z)
    | some u =>
      obtain ⟨rfl, _, ob, xs, rfl, z⟩ := L.one b u q
      rw [e] at z
      cases z
      exact (hok' b _ (un.frzs b o _ q)).1
theorem law_callG {vs : List Value} {ns : List Int} (KX : K.In s₁.heap) (hns : s₁.heap.Ns mainGlobals mg) (hb : s₁.heap.Ns builtinsNs mb) (hbb : ∀ x : Str, x ≠ "__name__" → mb x = bootBuiltins x) (hlim : s₁.heap.NoLimit) (hg : s₁.gens = #[])
    (ha : s₁.heap.get? a = some { cls := .type "list", data := .seq vs.toArray }) (hi : IntsAre vs ns) (hl : ns.length ≤ sizeLine) (hr : Room k callerA)
    (F : ∀ base : Heap, K.In base → base.Ns mainGlobals mg → FnG P w K mg base CX k fa fd [x] sp) (hbind : ∀ (s : Shared) (u : Value), BindsTo s fd ⟨[u], []⟩ [(x, u)])
    (hsp : ∀ H : Hp, Only H → SqL K H a (ns.map V.int) → sp [.ref a] H (fun v _ => v = .bl true) fun _ _ _ => False) (hCX : ∀ H e s', CX [] H s₁ (fun _ _ _ => False) e s' → False) :
    codeAny (model P w) callerA (.call (.ref fa) ⟨[.ref a], []⟩) (fun r s' => r = .ok (.ret (.bool true)) ∧ OldK s₁.heap s'.heap ∧ s'.os = s₁.os ∧ AllBare s'.gens) s₁ := by
  have rv := vals_ints hi
  cases hk : K.lookup a with
  | some o =>
    have e := KX a o hk
    rw [ha] at e
    cases e
    refine callLone (H := fun _ => none) KX hns hb hbb hlim hg hr F hbind ⟨(fun _ _ z => nomatch z), _, ha⟩ (fun _ _ z => nomatch z) (hsp _ (fun _ => Or.inl rfl) (Or.inr ⟨_, vs.toArray, _, hk, rfl, rfl, rfl, ?_, by simpa using rv⟩)) (hCX _)
    rw [List.size_toArray, hi.length]
    exact hl
  | none =>
    let o : Obj := { cls := .type "list", data := .seq vs.toArray }
    have up : ∀ {b : Addr} {u : HO}, upd (fun _ => none) a (.frz o (.lst (ns.map V.int))) b = some u → b = a ∧ u = .frz o (.lst (ns.map V.int)) := fun {b u} z => by
      by_cases hb : b = a
      · rw [hb, upd_same] at z
        exact ⟨hb, (Option.some.inj z).symm⟩
      · rw [upd_ne hb] at z
        cases z
    refine callLone (H := upd (fun _ => none) a (.frz o (.lst (ns.map V.int)))) KX hns hb hbb hlim hg hr F hbind ⟨fun b u z => ⟨(up z).1, hk, o, _, (up z).2, ha⟩, _, ha⟩ (fun b u z => ?_) (hsp _ (fun b => ?_) (Or.inl (Or.inr ⟨o, upd_same⟩))) (hCX _)
    · obtain ⟨rfl, rfl⟩ := up z
      exact ⟨ha, by rw [List.length_map]; exact hl, vs, _, rv, ha⟩
    · by_cases hb : b = a
      · rw [hb]
        exact Or.inr ⟨o, _, upd_same⟩
      · exact Or.inl (upd_ne hb)
end
/-- what k_head leaves, from the law's promise where no guard stands -/
theorem walkG {l : PySem.W.OpenLaw} {n k : Nat} {q : Program} {loose : List Str} {XP : (Str → Option Value) → Heap → Prop} {YP : World → Heap → Prop} {d : DefRec} {K : Params → PySem.W.Frag} {sp : PySem.W.Frag → Sp} {x : Str}
    (hn : l.most = some n) (hz : n ≤ sizeLine) (hdf : d.params.defaults = []) (hr : Room k callerA) (hY : ∀ (w : World) (h : Heap), YP w h → (K w.params).In h)
    (F : ∀ (w : World) (mg : Str → Option Value) (fa : Addr) (h : Heap), (K w.params).In h → h.Ns mainGlobals mg → mg d.name = some (.ref fa) →
      ∃ fd : FuncData, (∀ (s : Shared) (u : Value), BindsTo s fd ⟨[u], []⟩ [(x, u)]) ∧
        ∀ base : Heap, (K w.params).In base → base.Ns mainGlobals mg → FnG l.prog w (K w.params) mg base CX0 k fa fd [x] (sp (K w.params)))
    (hsp : ∀ (K : PySem.W.Frag) (H : Hp) (a : Addr) (ns : List Int), ns.length ≤ n → SqL K H a (ns.map V.int) → sp K [.ref a] H (fun v _ => v = .bl true) fun _ _ _ => False) :
    PySem.W.WalkO q loose XP YP l.row.toRowW d [] (fun f vs => PySem.call f vs) := by
  refine Att.attach_call hn hdf fun w s₀ s₁ mg mb fa o pm cd doc a vs ns G Y ho hd hcd hmg hobj hints hlen hg => ?_
  have KX := hY w _ Y
  obtain ⟨fd, hb, hF⟩ := F w mg fa _ KX G.T.g hmg
  exact law_callG KX G.T.g G.T.b G.T.builtins G.T.nolimit hg hobj hints (Nat.le_trans hlen hz) hr hF hb (fun H _ hS => hsp _ H a ns hlen hS) fun _ _ _ z => z

end XG

set_option Elab.async false
set_option maxRecDepth 100000
set_option maxHeartbeats 2000000
set_option linter.all false
/-! Own exception classes over a built-in class that makes its instances by a base's __new__ (KeyError: LookupError's). -/
namespace PySem
namespace XK
open HandSPX Builtin Builtin.ObjectAttr

/-- what the making asks of a class's mro behind itself -/
structure Like (B : String) (bm : List Value) : Prop where
  base : bm.contains (.type B) = true
  attr : bm.contains (.type "AttributeError") = false
  name : bm.contains (.type "NameError") = false

section
variable {M : Model} {A : Around} {E : Value → Shared → Prop} {h : Heap} {g : Array GenState} {d : Drawn} {t : Nat} {os : OsState}
variable {nm q : Str} {C N : Addr} {bs bm bmB : List Value} {hdct : Bool} {sn : List Str} {sub : List Value} {ab : Bool} {col : Option Bool} {dd : Option Addr} {k0 k1 k2 k3 k5 : Option Value} {B newId initId : String}
theorem xcheck_new (F : ExcBaseFacts B newId initId bmB) (hT : Like B bm) {rest : List Value} {Q : Unit → Shared → Prop}
    (hC : h.get? C = some (excClassObj nm q C N bs bm hdct sn sub ab col dd k0 k1 k2 k3 k5 newId)) (hq : Q () ⟨h, g, d, t, os⟩) : wpAny M A (checkBuiltinCall newId ⟨.ref C :: rest, []⟩) Q E ⟨h, g, d, t, os⟩ := by
  have hcont : (Value.ref C :: bm).contains (.type B) = true := by rw [List.contains_cons, hT.base, Bool.or_true]
  have hstar := F.noStar
  simp only [checkBuiltinCall, F.newKind, F.newSplit, F.newRow]
  repeat (first | refine wpAny_loadPart_at hC ?_ | (refine wpAny_isSubtype_exc hC ?_; rw [hcont]) | refine wpAny_staticBase_exc hC ?_ | refine wpAny_madeBy_exc hC ?_ | simp only [bne_self_eq_false, Bool.false_eq_true, if_false] | wp_step)
  exact hq
end
section
variable {prog : Program} {w : World} {A : Around} {E : Value → Shared → Prop} {R : Result → Shared → Prop} {h : Heap} {g : Array GenState} {d : Drawn} {t : Nat} {os : OsState}
variable {nm q : Str} {C N : Addr} {bs bm bmB : List Value} {hdct : Bool} {sn : List Str} {sub : List Value} {ab : Bool} {col : Option Bool} {dd : Option Addr} {k0 k1 k2 k3 k5 : Option Value} {B newId initId : String}
theorem xnew (F : ExcBaseFacts B newId initId bmB) (hT : Like B bm) {rest : List Value}
    (hC : h.get? C = some (excClassObj nm q C N bs bm hdct sn sub ab col dd k0 k1 k2 k3 k5 newId))
    (hq : R (.ok (.ret (.ref (h.objs.size + 1)))) ⟨(h.push { cls := .type "tuple", data := .seq rest.toArray }).push
      { cls := .ref C, data := .fields #[.ref h.objs.size, .none, .none, .none, .bool false, .none] }, g, d, t, os⟩) (hrest : rest.length ≤ sizeLine) :
    codeAny (model prog w) A (.builtin newId ⟨.ref C :: rest, []⟩) R ⟨h, g, d, t, os⟩ := by
  have hends := F.ends
  have hcB : (Value.ref C :: bm).contains (.type B) = true := by rw [List.contains_cons, hT.base, Bool.or_true]
  have hcA : (Value.ref C :: bm).contains (.type "AttributeError") = false := by rw [List.contains_cons, hT.attr]; rfl
  have hcN : (Value.ref C :: bm).contains (.type "NameError") = false := by rw [List.contains_cons, hT.name]; rfl
  refine codeAny_builtinAt F.entry ?_
  unfold Builtin.«BaseException.__new__»
  refine PySem.wpAt_bind ?_
  show wpAt _ _ _ (stack >>= _) _ _ _
  refine PySem.wpAt_bind (wpAt_stack fun p below => wpAt_of_wpAny ?_)
  wp_walk
  refine wpAt_of_wpAny ?_
  rw [F.owner]
  repeat (first | with_reducible refine wpAny_madeHere_exc F.canon hC ?_ | with_reducible refine wpAny_loadPart_at hC ?_ | (with_reducible refine wpAny_isSubtype_exc hC ?_; first | rw [hcB] | rw [hcA] | rw [hcN]) | wp_step)
  show R _ _
  rw [Heap.size_push]
  exact hq

theorem xtype_call (F : ExcBaseFacts B newId initId bmB) (hT : Like B bm) {rest : List Value} {fI : Addr} {Q : Fin → Shared → Prop}
    (hC : h.get? C = some (excClassObj nm q C N bs bm hdct sn sub ab col dd k0 k1 k2 k3 k5 newId))
    (hi : W.Looks (model prog w) h (typeLookup (.ref C) "__init__") (some (.ref fI))) (hb : ∀ self, W.Looks (model prog w) h (bindSpecial (.ref fI) self) (.ref fI, [self])) (hrest : rest.length ≤ sizeLine)
    (hq : codeAny (model prog w) A (.call (.ref fI) ⟨.ref (h.objs.size + 1) :: rest, []⟩)
      (fun r s' => match r with | .ok (.ret v) => v = .none ∧ Q (.done (.ret (.ref (h.objs.size + 1)))) s' | .ok _ => False | .error e => E e s')
      ⟨(h.push (W.kdv_tup rest)).push (excO C h.objs.size), g, d, t, os⟩) :
    wpAny (model prog w) A (Builtin.«type.__call__» ⟨.ref C :: rest, []⟩) Q E ⟨h, g, d, t, os⟩ := by
  repeat (first | with_reducible refine wpAny_loadPart_at hC ?_ | with_reducible refine wpAny_madeBy_exc hC ?_ | wp_step)
  refine codeAny_call_builtin_code (Code.quiet_builtin _ F.quiet) (xcheck_new F hT hC ?_)
  refine xnew F hT hC ?_ hrest
  show wpAny _ _ _ _ _ _
  have k : ∀ b o, h.get? b = some o → ((h.push (W.kdv_tup rest)).push (excO C h.objs.size)).get? b = some o := fun b o e => Heap.get?_push_of_some _ (Heap.get?_push_of_some _ e)
  have hC₁ := k _ _ hC
  have hget : ((h.push (W.kdv_tup rest)).push (excO C h.objs.size)).get? (h.objs.size + 1) = some (excO C h.objs.size) := by heap_get
  have hcC : (Value.ref C :: bm).contains (.ref C) = true := by simp
  have i1 := hi.keeps k
  have b1 := (hb (.ref (h.objs.size + 1))).keeps k
  unfold isInstance
  repeat (first | with_reducible refine wpAny_loadPart_at hget ?_ | (with_reducible refine wpAny_isSubtype_exc hC₁ ?_; rw [hcC]) | wp_step)
  show wpAny _ _ (typeLookup (.ref C) _) _ _ _
  refine i1.at ?_
  refine wpAny_holding (wpAny_bind (b1.at ?_))
  refine wpAny_bind (wpAny_call (codeAny_mono hq fun r s' z => ?_))
  rcases r with e | (v | _ | _ | _) <;> first | exact z | exact z.elim | skip
  obtain ⟨rfl, z⟩ := z
  first
    | exact wpAny_pure (wpAny_pure z)
    | (wp_walk; exact z)

theorem xcall (F : ExcBaseFacts B newId initId bmB) (hT : Like B bm) {rest : List Value} {fI : Addr}
    (hC : h.get? C = some (excClassObj nm q C N bs bm hdct sn sub ab col dd k0 k1 k2 k3 k5 newId))
    (hi : W.Looks (model prog w) h (typeLookup (.ref C) "__init__") (some (.ref fI))) (hb : ∀ self, W.Looks (model prog w) h (bindSpecial (.ref fI) self) (.ref fI, [self])) (hrest : rest.length ≤ sizeLine)
    (hq : codeAny (model prog w) (A.under (.builtin "type.__call__" ⟨.ref C :: rest, []⟩)) (.call (.ref fI) ⟨.ref (h.objs.size + 1) :: rest, []⟩) (W.InitBack (h.objs.size + 1) R)
      ⟨(h.push (W.kdv_tup rest)).push (excO C h.objs.size), g, d, t, os⟩) :
    codeAny (model prog w) A (.call (.ref C) ⟨rest, []⟩) R ⟨h, g, d, t, os⟩ := by
  have f1 := tc_lookup
  have f2 := tc_bind (.ref C)
  have hTy : (⟨h, g, d, t, os⟩ : Shared).TypeIs (.ref C) "type" := ⟨_, hC, rfl⟩
  refine codeAny_of_tree ?_
  show wpAny _ _ (callAny (.ref C) _) _ _ _
  repeat (any_goals (first | assumption | with_reducible refine wpAny_loadPart_at hC ?_ | wp_step))
  refine ⟨rfl, ?_⟩
  refine codeAny_call_builtin_at (Code.quiet_builtin _ (by decide +kernel)) entry_typeCall (wpAny_check_type_call_sub hC (xtype_call F hT hC hi hb hrest ?_))
  refine codeAny_mono hq fun r s' z => ?_
  rcases r with e | (v | _ | _ | _) <;> exact z

end

theorem Like.of {B : String} {bm bmB : List Value} (hT : ∀ X : String, bm.contains (.type X) = bmB.contains (.type X)) (h : Like B bmB) : Like B bm := ⟨(hT _).trans h.base, (hT _).trans h.attr, (hT _).trans h.name⟩
abbrev mroIx : List Value := [.type "IndexError", .type "LookupError", .type "Exception", .type "BaseException", .type "object"]
abbrev mroKy : List Value := [.type "KeyError", .type "LookupError", .type "Exception", .type "BaseException", .type "object"]
abbrev mroOv : List Value := [.type "OverflowError", .type "ArithmeticError", .type "Exception", .type "BaseException", .type "object"]
abbrev mroLk : List Value := [.type "LookupError", .type "Exception", .type "BaseException", .type "object"]
theorem likeIx : Like "IndexError" mroIx := ⟨by decide +kernel, by decide +kernel, by decide +kernel⟩
theorem likeKy : Like "LookupError" mroKy := ⟨by decide +kernel, by decide +kernel, by decide +kernel⟩
theorem likeOv : Like "OverflowError" mroOv := ⟨by decide +kernel, by decide +kernel, by decide +kernel⟩
theorem likeLk : Like "LookupError" mroLk := ⟨by decide +kernel, by decide +kernel, by decide +kernel⟩
open PySem.F in
theorem store_KeyError : StoreFacts "KeyError" [.type "KeyError", .type "LookupError", .type "Exception", .type "BaseException", .type "object"] "object.__setattr__" "object" where
  mro := by kernel_rfl
  slot := .of (owner := "object") (n := "__setattr__") (by rw [typeLookup_type, builtinLookup_eq_fast]; kernel_rfl) (by decide +kernel) (by decide +kernel) (by decide +kernel)
    (by first | exact .inl (by decide +kernel) | exact .inr (by decide +kernel)) (by rw [isSubtype_type]; kernel_rfl)
  entry := entry_object_sa
  kind := by decide +kernel
  split := by decide +kernel
  hasOwner := by decide +kernel
  args := fun a b c => by unfold argsOk; kernel_rfl
  passes := fun self => by kernel_rfl
end XK
end PySem

set_option Elab.async false
set_option maxRecDepth 100000
set_option maxHeartbeats 2000000
set_option linter.all false
/-! How long a value's repr can be. -/
namespace XS
open PySem PySem.Spec PyProof.Rows L2 XG

theorem lt_len (a b : Str) : (a ++ b).length = a.length + b.length := strLen_append a b
theorem listText_le (ts : List Str) : (listText ts).length ≤ 2 + piled ts := by
  unfold listText
  rw [strLen_append]
  cases ts with
  | nil => decide
  | cons t ts =>
    have h : (textFrom 0 "[" (t :: ts)).length = 1 + t.length + piled ts := by
      show (textFrom 1 _ ts).length = _
      rw [textFrom_length_pos ts 1 _ (by decide), strLen_append, strLen_append]
      rfl
    rw [h, piled_cons]
    show _ + 1 ≤ _
    omega
theorem join_le (ts : List Str) : (Str.join ", " ts).length ≤ piled ts := by
  cases ts with
  | nil => decide
  | cons t ts =>
    have := join_length_add (t :: ts) (by simp)
    omega
theorem tupleText_le (ts : List Str) : (tupleText ts).length ≤ 3 + piled ts := by
  unfold tupleText
  rw [strLen_append, strLen_append]
  have h := join_le ts
  have h2 : (Str.ofString (if ts.length == 1 then ",)" else ")")).length ≤ 2 := by
    split <;> decide
  show 1 + _ + _ ≤ _
  have h3 : ((if ts.length == 1 then ",)" else ")" : String) : Str).length ≤ 2 := h2
  omega
theorem dictText_le (ts : List Str) : (dictText ts).length ≤ 2 + piled ts := by
  unfold dictText
  rw [strLen_append, strLen_append]
  have h := join_le ts
  show 1 + _ + 1 ≤ _
  omega

/-- a text of signs that there are -/
def plainT (x : Str) : Bool := x.cps.toList.all fun c => decide (c < 1114112)
theorem plain_repr {x : Str} (h : plainT x = true) : (reprText x).length ≤ 10 * x.length + 2 := by
  refine PySem.StrLaws.reprText_len x fun c hc => ?_
  have := of_decide_eq_true (List.all_eq_true.mp h c hc)
  omega
mutual
def sz : PyData → Nat
  | .none => 4
  | .bool _ => 5
  | .int i => i.natAbs.log2 + 2
  | .str x => 10 * x.length + 2
  | .list xs => 2 + szs xs
  | .tuple xs => 3 + szs xs
  | .dict kvs => 2 + szk kvs
def szs : List PyData → Nat
  | [] => 0
  | x :: xs => sz x + 2 + szs xs
def szk : List (PyData × PyData) → Nat
  | [] => 0
  | (a, b) :: r => sz a + sz b + 4 + szk r
end
mutual
def plainD : PyData → Bool
  | .str x => plainT x
  | .list xs | .tuple xs => plainDs xs
  | .dict kvs => plainDk kvs
  | .none | .bool _ | .int _ => true
def plainDs : List PyData → Bool
  | [] => true
  | x :: xs => plainD x && plainDs xs
def plainDk : List (PyData × PyData) → Bool
  | [] => true
  | (a, b) :: r => plainD a && plainD b && plainDk r
end
theorem int_len (i : Int) : ((toString i : String) : Str).length ≤ i.natAbs.log2 + 2 := by
  rw [PySem.ofString_length]
  exact int_text_length_le (k := i.natAbs.log2 + 1) (by omega) (by omega)
mutual
theorem shown_le : ∀ d : PyData, plainD d = true → d.shown.length ≤ sz d
  | .none, _ => by decide
  | .bool b, _ => by cases b <;> decide
  | .int i, _ => int_len i
  | .str x, h => plain_repr h
  | .list xs, h => by
    have a := listText_le (PyData.shownAll xs)
    have b := shownAll_le xs h
    show (listText (PyData.shownAll xs)).length ≤ 2 + szs xs
    omega
  | .tuple xs, h => by
    have a := tupleText_le (PyData.shownAll xs)
    have b := shownAll_le xs h
    show (tupleText (PyData.shownAll xs)).length ≤ 3 + szs xs
    omega
  | .dict kvs, h => by
    have a := dictText_le (PyData.shownKv kvs)
    have b := shownKv_le kvs h
    show (dictText (PyData.shownKv kvs)).length ≤ 2 + szk kvs
    omega
theorem shownAll_le : ∀ xs : List PyData, plainDs xs = true → piled (PyData.shownAll xs) ≤ szs xs
  | [], _ => Nat.le_refl _
  | x :: xs, h => by
    obtain ⟨h1, h2⟩ := Bool.and_eq_true_iff.mp h
    have a := shown_le x h1
    have b := shownAll_le xs h2
    show piled (x.shown :: PyData.shownAll xs) ≤ sz x + 2 + szs xs
    rw [piled_cons]
    omega
theorem shownKv_le : ∀ xs : List (PyData × PyData), plainDk xs = true → piled (PyData.shownKv xs) ≤ szk xs
  | [], _ => Nat.le_refl _
  | (x, y) :: xs, h => by
    obtain ⟨h1, h2⟩ := Bool.and_eq_true_iff.mp h
    obtain ⟨h0, h1⟩ := Bool.and_eq_true_iff.mp h1
    have a := shown_le x h0
    have a' := shown_le y h1
    have b := shownKv_le xs h2
    show piled ((x.shown ++ ": " ++ y.shown) :: PyData.shownKv xs) ≤ sz x + sz y + 4 + szk xs
    rw [piled_cons, strLen_append, strLen_append]
    have : (": " : Str).length = 2 := by decide
    omega
end
end XS

set_option Elab.async false
set_option maxRecDepth 100000
set_option maxHeartbeats 2000000
set_option linter.all false
/-! Exceptions of own classes held as values: made, their field read, asked by isinstance. -/
namespace XE
open PySem PySem.Spec PyProof.Rows L2 XG

section
open PySem.W PySem.HandSPX PySem.Calls Builtin Builtin.ObjectAttr
variable {prog : Program} {w : World} {A : Around} {E : Value → Shared → Prop} {R : Result → Shared → Prop} {hp : Heap} {g : Array GenState} {d : Drawn} {t : Nat} {os : OsState}
/-- the first field of an exception of any own class over a built-in one -/
theorem xsa_new {K : W.Frag} {B : String} {bmB : List Value} {name : Str} {tk : Tok} {v : Value} {x C : Addr} {fv : Array Value} (SF : StoreFacts B bmB "object.__setattr__" "object") (X : K.In hp) (hx : hp.get? x = some { cls := .ref C, data := .fields fv })
    (hov : excOver K C bmB = true) (htk : takerIn K C name = some none) (hhd : hasDictIn K C = true)
    (hq : ∀ h' tk' dx, (∀ b o, b ≠ x → hp.get? b = some o → h'.get? b = some o) → hp.objs.size ≤ dx → dx ≠ x → h'.get? x = some { cls := .ref C, dict := some dx, data := .fields fv } →
      h'.Ns1 dx (fun y => if y = name then some v else none) → R (.ok (.ret .none)) ⟨h', g, d, tk', os⟩) :
    codeAny (model prog w) A (.call (.builtin "object.__setattr__") ⟨[.ref x, .str name tk, v], []⟩) R ⟨hp, g, d, t, os⟩ := by
  have I : W.InstAt hp x { cls := .ref C, data := .fields fv } C none := ⟨hx, rfl, rfl, trivial⟩
  refine osa_openX SF X I hov htk fun b => ?_
  obtain ⟨cd, hc, hd'⟩ := any_some hhd
  have hcls : W.Looks (model prog w) hp (classData C) cd := W.looks_clsIn X hc
  have hxs : x ≠ hp.objs.size := Nat.ne_of_lt (Heap.lt_size hx)
  obtain ⟨nm, bs, mro, ns, qn, hdd, sn, sb, ab, col, del⟩ := cd
  dsimp only at hd'
  subst hd'
  unfold storeInOwnDict ownDictForStores
  repeat (first | with_reducible refine store_in_new ?_ ?_ | with_reducible refine wpAny_loadPart_at hx ?_ | with_reducible refine hcls.at ?_ | wp_step)
  · exact ⟨_, #[], _, (Heap.get?_update_ne _ _ _ _ hxs.symm).trans (Heap.get?_push_at rfl rfl), rfl, fun e he => absurd he (by simp), fun _ => rfl⟩
  · intro h' tk' hn' hs
    have hx₁ : (hp.push { cls := .type "dict", data := .dict #[] }).get? x = some { cls := .ref C, data := .fields fv } := Heap.get?_push_of_some _ hx
    refine hq h' tk' hp.objs.size (fun b o hb ho => ?_) (Nat.le_refl _) hxs.symm ?_ hn'
    · exact (hs.2 b (Nat.ne_of_lt (Heap.lt_size ho))).trans ((Heap.get?_update_ne _ _ _ _ hb).trans (Heap.get?_push_of_some _ ho))
    · exact (hs.2 x hxs).trans (Heap.get?_update_self _ hx₁ rfl)
end

/-- what the written part says of an own exception class over the built-in B, whose __init__ stores the one field f -/
structure XcC (K : PySem.W.Frag) (C : Addr) (B : String) (bmB : List Value) (newId : String) (f : Str) : Prop where
  it : PySem.W.excInitIn K C bmB newId = true
  ov : PySem.W.excOver K C bmB = true
  hd : PySem.W.hasDictIn K C = true
  tk : PySem.W.takerIn K C f = some none
  sa : PySem.W.findIn K (.ref C) "__setattr__" = some (some (.builtin "object.__setattr__"))
  kC : PySem.W.keepIn K (.ref C) = true

section
variable {X : Cx} {pins : List (Addr × Obj)} {σ : L2.St} {H : Hp} {s : Shared} {a C dx : Addr} {f : Str} {y : V} {u : Value} {Q : Unit → Shared → Prop} {E : Value → Shared → Prop} {A : Around} {B newId : String} {bmB : List Value}
theorem xst_new (SF : StoreFacts B bmB "object.__setattr__" "object") (T : XcC X.K C B bmB newId f) (I : Inv X pins σ H s) (e : H a = some (exo a C none)) (ry : RelV y u)
    (h : ∀ dx s', H dx = none → dx ≠ a → Inv X pins σ (upd (upd H dx (exd dx [(f, y)])) a (exo a C (some dx))) s' → Q () s') : wpAny (model X.prog X.w) A (setAttr (.ref a) f u) Q E s := by
  obtain ⟨t1, ho⟩ := exo_at I.hok e
  obtain ⟨hp, g, d, t, os⟩ := s
  refine PySem.W.set_plain I.kIn (ox := { cls := .ref C, dict := none, data := .fields #[.ref t1, .none, .none, .none, .bool false, .none] }) (od := none) ⟨ho, rfl, rfl, trivial⟩ T.sa ?_
  refine xsa_new SF I.kIn ho T.ov T.tk T.hd (fun h' tk' dx k dn dne hx hn => ?_)
  have hnd : H dx = none := I.hok.fresh dn
  have ad : ∀ {b : Addr} {o : Obj}, hp.get? b = some o → b ≠ dx := fun q => Nat.ne_of_lt (Nat.lt_of_lt_of_le (Heap.lt_size q) dn)
  have na : ∀ {b : Addr}, H b = none → b ≠ a := fun {b} n z => by
    rw [z, e] at n
    cases n
  have un : Un X.fs [] H (upd (upd H dx (exd dx [(f, y)])) a (exo a C (some dx))) hp h' := by
    constructor
    · intro b o q n _ _
      exact k b o (na n) q
    · intro b o q n _ _
      exact ⟨o.slots, k b o (na n) q⟩
    · intro b o q n _
      rw [upd_ne (na n), upd_ne (ad q)]
      exact n
    · intro b o q _
      by_cases hb : b = a
      · exact ⟨_, by rw [hb]; exact hx⟩
      · exact ⟨o, k b o hb q⟩
    · intro b xs q
      rw [upd_ne (at_ne e q exo_tup), upd_ne (ne_of_none q hnd)]
      exact q
    · intro b o v q
      rw [upd_ne (at_ne e q exo_frz), upd_ne (ne_of_none q hnd)]
      exact q
    · intro b ps q
      exact ⟨#[], by rw [upd_ne (at_ne e q exo_tbl), upd_ne (ne_of_none q hnd), q]; simp⟩
  refine h dx _ hnd dne (I.un (t' := tk') un fun b o q => ?_)
  by_cases hb : b = a
  · subst hb
    rw [upd_same] at q
    cases q
    exact exo_ok hx
  · rw [upd_ne hb] at q
    by_cases hd : b = dx
    · subst hd
      rw [upd_same] at q
      cases q
      exact exd_ok hn (relO_put (fs := []) ry fun g => True.intro)
    · rw [upd_ne hd] at q
      refine (I.hok b o q).stay (fun c v hc z => k c v ?_ z) (fun c hc => ?_) (fun c xs hc => ?_)
      · rcases hc with hc | hc
        · rw [hc]
          exact hb
        · exact at_ne e hc exo_own
      · rw [upd_ne (at_ne e hc exo_own), upd_ne (ne_of_none hc hnd)]
        exact hc
      · rw [upd_ne (at_ne e hc exo_tup), upd_ne (ne_of_none hc hnd)]
        exact hc
end

section
variable {X : Cx} {o e : Expr} {es : List Expr} {to te : TE} {ta : TA} {f : Str} {p p' pos : Pos} {B newId initId : String} {bmB : List Value} {C : Addr}
/-- self.f = e within the __init__ of such a class -/
def tXst (C : Addr) (f : Str) (to te : TE) : TS := fun D σ H => te σ H fun y H1 => to σ H1 fun x H2 => ∃ a : Addr, x = .ref a ∧ H2 a = some (exo a C none) ∧ ∀ dx, H2 dx = none → dx ≠ a → D.nx σ (upd (upd H2 dx (exd dx [(f, y)])) a (exo a C (some dx)))
theorem ps_xst (SF : StoreFacts B bmB "object.__setattr__" "object") (T : XcC X.K C B bmB newId f) (ho : PE X o to) (he : PE X e te) (hs : swapsWith e (some (.Attribute o f p')) pos.line X.env = pure false := by rfl) : PS X (.Assign [.Attribute o f p'] e pos) (tXst C f to te) := by
  constructor
  intro pins s σ H D I h
  refine plainObj_wpAny_Assign_Attribute (thn (he.run pins s σ H _ I h) fun v s1 ⟨y, H1, I1, r1, q1⟩ => thn (ho.run pins s1 σ H1 _ I1 q1) fun u s2 ⟨x, H2, I2, r2, a, ex, ea, q⟩ => ?_) hs
  subst ex
  obtain rfl : u = Value.ref a := r2
  exact xst_new SF T I2 ea r1 fun dx s' n ne J => ⟨σ, _, J, q dx n ne⟩
/-- C(e, ..), a new exception of such a class -/
def tXmk (C : Addr) (sp : Sp) (ta : TA) : TE := fun σ H Q => ta σ H fun vs H1 => vs.length ≤ 1000 ∧ ∀ a, H1 a = none → sp (.ref a :: vs) (upd H1 a (exo a C none)) (fun v H2 => v = .non ∧ Q (.ref a) H2) (fun _ _ _ => False)
theorem pe_xmk {CX : CXT} {x : Str} {fI : Addr} {k : Nat} {fd : FuncData} {ps : List Str} {sp : Sp} {B0 : String} {bm0 : List Value} (FB : ExcBaseFacts B0 newId initId bm0) (hL : PySem.XK.Like B0 bmB) (T : XcC X.K C B bmB newId f) (iC : PySem.W.findIn X.K (.ref C) "__init__" = some (some (.ref fI))) (tI : PySem.W.typeIn X.K (.ref fI) = some (.type "function"))
    (F1 : FnOk X.prog X.w X.K X.mg X.base CX k fI fd ps sp) (hr : Room (k + 1) X.A) (hb : Binds X.K fd ps []) (hx : Passes CX X (fun _ _ _ => False)) (hg : Gl X x) (hm : X.mg x = some (.ref C)) (ha : PA X (e :: es) ta)
    (hdb : (x == ("__debug__" : Str)) = false := by decide) (he : starEach (e :: es) X.env = (false, eval e X.env) :: starEach es X.env := by rfl) (hpl : (backTo pos (starEach es X.env)).any (·.1) = false := by rfl) :
    PE X (.Call (.Name x p) (e :: es) [] pos) (tXmk C sp ta) := by
  constructor
  intro pins s σ H Q I h
  refine wpAny_Call_Name_kw (ld_glob I hg hm ?_ hdb)
  refine PySem.W.callWith_K (h₀ := X.base) I.ok.mod.kin T.kC (thn (ha.run pos pins s σ H _ I h) fun us s1 ⟨vs, H1, I1, r1, hz, q1⟩ => ⟨I1.kIn, ?_⟩) he hpl
  show wpAny _ _ (call (.ref C) us) _ _ _
  obtain ⟨nm, N, qn, bs, bm, hdct, sn, sub, ab, col, dd, k0, k1, k2, k3, k5, hC, hT⟩ := PySem.W.excInit_of I1.kIn T.it
  obtain ⟨hp, g, dr, tk, os⟩ := s1
  have hn : H1 (hp.objs.size + 1) = none := I1.hok.fresh (Nat.le_succ _)
  have hq := q1 (hp.objs.size + 1) hn
  have kk : ∀ b o, hp.get? b = some o → ((hp.push (PySem.W.kdv_tup us)).push (PySem.HandSPX.excO C hp.objs.size)).get? b = some o := fun b o e => Heap.get?_push_of_some _ (Heap.get?_push_of_some _ e)
  have hget : ((hp.push (PySem.W.kdv_tup us)).push (PySem.HandSPX.excO C hp.objs.size)).get? (hp.objs.size + 1) = some (PySem.HandSPX.excO C hp.objs.size) := by heap_get
  have I2 := I1.laid (t' := tk) (a := hp.objs.size + 1) (o := exo (hp.objs.size + 1) C none) (h' := (hp.push (PySem.W.kdv_tup us)).push (PySem.HandSPX.excO C hp.objs.size)) kk (Nat.le_succ _) (exo_ok hget)
  have r2 : Vals (V.ref (hp.objs.size + 1) :: vs) (Value.ref (hp.objs.size + 1) :: us) := .cons rfl r1
  have hl : (Value.ref (hp.objs.size + 1) :: us ++ []).length = ps.length := by
    rw [List.append_nil, ← r2.length]
    exact F1.len _ _ _ _ hq
  have hus : us.length ≤ sizeLine := by
    rw [← Paired.length r1, sizeLine_eq]
    omega
  have hbn := hb _ (Value.ref (hp.objs.size + 1) :: us) I2.kIn hl
  rw [List.append_nil] at hbn
  refine wpAny_call (PySem.XK.xcall FB (hL.of hT) hC (PySem.W.looks_findIn I1.kIn iC) (fun self => PySem.W.bind_fn I1.kIn self tI) hus
    (codeAny_mono (F1.run _ X.stack _ _ ⟨Value.ref (hp.objs.size + 1) :: us, []⟩ (Value.ref (hp.objs.size + 1) :: us) _ _ (fun _ _ _ => False) (hr.make C us []) (I2.env0.make C us []) hbn r2 hq) fun r s' hq' => ?_))
  match r, hq' with
  | .error er, hq' => exact hx pins σ _ _ er s' I2 hq'
  | .ok (.ret u), hq' =>
    obtain ⟨v, H2, os2, bare2, un2, hok2, rv, ev, q2⟩ := hq'
    subst ev
    exact ⟨rv, .ref (hp.objs.size + 1), H2, I2.call' (ch := []) os2 un2 hok2 bare2 (fun b z => nomatch z), rfl, q2⟩
end

/-! ### its class is asked -/
section
open PySem.W PySem.Calls
variable {prog : Program} {w : World} {A : Around} {E : Value → Shared → Prop} {s : Shared} {K : Frag} {x D : Addr} {ox : Obj} {od : Option Obj}
theorem findObj_cls {C : Addr} {name : Str} {a g : Value} (hc : (clsIn K C).isSome = true) (ha : findIn K (.ref C) name = some (some a)) (hg : specialIn K a "__get__" = some (some g)) (ht : takesIn K a = some true) : findObj K C od name = some (.bind g a) := by
  obtain ⟨cd, hc⟩ := Option.isSome_iff_exists.mp hc
  unfold findObj
  rw [hc, Option.bind_some, ha, Option.bind_some]
  simp [hg, ht]
theorem xcls {Q : Option Value → Shared → Prop} (T : ExcC K D) (X : K.In s.heap) (I : InstAt s.heap x ox D od) (h : Q (some (.ref D)) { s with toks := s.toks + 1 }) : wpAny (model prog w) A (getAttr? (.ref x) "__class__") Q E s := by
  have hf : findObj K D od "__class__" = some (.bind (.builtin "getset_descriptor.__get__") (.builtin "object.__class__")) := findObj_cls (by obtain ⟨cd, hc, _⟩ := any_some T.hd; rw [hc]; rfl) T.ha T.hn T.ht
  obtain ⟨hp, g, d, t, os⟩ := s
  have L0 := I.type (M := model prog w)
  have L1 := looks_findIn (M := model prog w) X T.hg
  have L2 := looks_findIn (M := model prog w) X T.hk
  have L3 := looks_find (M := model prog w) X I hf
  have sub : Looks (model prog w) hp (isInstance (.ref x) (.type "BaseException")) true := L0.andThen (looks_subIn X T.hs)
  have n2 : (Value.builtin "BaseException.__getattribute__" == Value.builtin "object.__getattribute__") = false := by decide +kernel
  have n1 : (onTheHeap (Value.ref D) && Value.builtin "BaseException.__getattribute__" == Value.builtin "object.__getattribute__") = false := by rw [n2]; rfl
  unfold getAttr? getAttrBy? getAttrBy
  refine wpAny_bind (wpAny_mkText (wpAny_bind (wpAny_attempt (wpAny_holding (wpAny_bind (L0.at (wpAny_bind (L1.at ?_))))))))
  show wpAny _ _ (if (onTheHeap (Value.ref D) && Value.builtin "BaseException.__getattribute__" == Value.builtin "object.__getattribute__") = true then _ else _) _ _ _
  rw [n1, if_neg Bool.false_ne_true]
  unfold getAttrByItsOwn hookBefore
  refine wpAny_bind ?_
  rw [if_pos (show onTheHeap (Value.ref D) = true from rfl)]
  refine L2.at ?_
  refine wpAny_bind (wpAny_attempt (wpAny_holding ?_))
  unfold callGetattribute
  rw [show (false && onTheHeap (Value.builtin "BaseException.__getattribute__")) = false from rfl, if_neg Bool.false_ne_true]
  unfold boundAndCalled
  rw [PySem.F.excAttr_ValueError.ga.bind (.ref x)]
  refine wpAny_bind (wpAny_pure ?_)
  show wpAny _ _ (call (.builtin "BaseException.__getattribute__") [.ref x, .str "__class__" t]) _ _ _
  refine wpAny_call (codeAny_call_builtin PySem.F.excAttr_ValueError.ga.plain PySem.F.entry_bexc_ga ?_)
  refine @check_slot (model prog w) _ _ ⟨hp, g, d, t + 1, os⟩ "BaseException.__getattribute__" "BaseException" "__getattribute__" (.ref x) [.str "__class__" t] [] _ (by decide +kernel) (by decide +kernel) sub (PySem.F.args_bexc_ga (.ref x) (.str "__class__" t)) ?_
  unfold Builtin.«object.__getattribute__»
  refine wpAny_bind (wpAny_of_eq (a := ((Value.ref x : Value), [Value.str "__class__" t])) (by first | rfl | (simp only [slotArgs]; rfl)) ?_)
  refine wpAny_bind (wpAny_pure (wpAny_bind (L0.at (wpAny_bind (L3.at ?_)))))
  show wpAny _ _ (holding [Value.builtin "object.__class__"] (call (.builtin "getset_descriptor.__get__") [.builtin "object.__class__", .ref x, .ref D]) >>= ret) _ _ _
  refine wpAny_bind (wpAny_holding (wpAny_call (class_get (s := ⟨hp, g, d, t + 1, os⟩) (ox := ox) (od := od) X I T.hm ?_)))
  refine wpAny_pure ?_
  show wpAny _ _ (handedOut (.ref D)) _ _ _
  rw [handedOut_of (v := .ref D) rfl]
  first
    | exact wpAny_pure (wpAny_pure h)
    | exact wpAny_pure h
    | exact wpAny_pure (wpAny_bind (wpAny_pure (wpAny_pure h)))
theorem kitx_x (T : ExcC K D) : KitX K (.ref x) (.ref D) (fun h => ∃ ox od, InstAt h x ox D od) where
  ty := fun _ _ _ ⟨_, _, I⟩ => I.type
  it := fun _ _ X _ => by
    obtain ⟨cd, hc, _⟩ := any_some T.hd
    unfold clsIn at hc
    split at hc
    · rename_i c' d' cd' sl' ho
      intro A' Q' E' s' k q
      unfold isType loadHead
      exact wpAny_bind (wpAny_loadPart (k _ _ (X _ _ ho)) (wpAny_pure q))
    · cases hc
  ne := fun h tp dd its n sl X htp => by
    obtain ⟨cd, hc, _⟩ := any_some T.hd
    refine Bool.eq_false_iff.mpr fun q => ?_
    have e : D = tp := Value.ref.inj (beq_iff_eq.mp q)
    subst e
    unfold clsIn at hc
    split at hc
    · rename_i c' d' cd' sl' ho
      have z := (X _ _ ho).symm.trans htp
      cases z
    · cases hc
  ca := fun X ⟨_, _, I⟩ k => xcls T X I k
end

/-- at a: an exception of the class at D, with or without fields -/
def ExcAt (H : Hp) (a D : Addr) : Prop := H a = some (ExO (.ref D) a) ∨ ∃ (dx : Addr) (fs : List (Str × V)), H a = some (exo a D (some dx)) ∧ H dx = some (exd dx fs)
theorem ExcAt.mono {H H' : Hp} {a D : Addr} (e : Evl.Ex H H') (h : ExcAt H a D) : ExcAt H' a D := by
  rcases h with h | ⟨dx, fs, h1, h2⟩
  · exact .inl (e _ _ h)
  · exact .inr ⟨dx, fs, e _ _ h1, e _ _ h2⟩
section
variable {X : Cx} {pins : List (Addr × Obj)} {σ : L2.St} {H : Hp} {s : Shared}
theorem ExcAt.inst {a D : Addr} (I : Inv X pins σ H s) (h : ExcAt H a D) : ∃ ox od, PySem.W.InstAt s.heap a ox D od := by
  rcases h with h | ⟨dx, fs, h1, h2⟩
  · obtain ⟨⟨oe, vs, e, ⟨z1, z2⟩, d, _⟩, _, _⟩ := I.hok a _ h
    refine ⟨oe, none, e, z1, ?_, ?_⟩
    · unfold PySem.W.notCls
      rw [d] <;> rfl
    · rw [z2]
      trivial
  · obtain ⟨t0, e⟩ := exo_at I.hok h1
    obtain ⟨mA, ⟨o, es, ep, e2, _⟩, _⟩ := exd_at I.hok h2
    exact ⟨_, some o, e, rfl, rfl, e2⟩
/-- isinstance(e, c), e such an exception -/
def rIsX (K : PySem.W.Frag) : List V → Hp → VK → Prop := fun xs H Q => ∃ (a D : Addr) (c : V) (cv : Value) (b : Bool), xs = [.ref a, c] ∧ ExcAt H a D ∧ ExcC K D ∧ ClsV c cv ∧ PySem.W.kitOne K (.ref D) cv = some b ∧ Q (.bl b) H
theorem call_isX : CallR X (.builtin "isinstance") (rIsX X.K) := by
  intro pins s σ H xs us Q I r h
  obtain ⟨a, D, c, cv, b, rfl, hx, T, hc, e, q⟩ := h
  obtain ⟨u1, u2, rfl, r1, r2⟩ := vals2 r
  have e2 := hc.eq r2
  subst e2
  cases (show u1 = Value.ref a from r1)
  exact PySem.W.kia_one (kitx_x T) I.kIn (hx.inst I) e (fun z => nomatch z) fun tk => ⟨.bl b, H, I.tok tk, rfl, q⟩
/-- e.f, e an exception with fields -/
def tXget (K : PySem.W.Frag) (f : Str) (te : TE) : TE := fun σ H Q => te σ H fun x H1 => ∃ (a D dx : Addr) (fs : List (Str × V)) (v : V), x = .ref a ∧ H1 a = some (exo a D (some dx)) ∧ H1 dx = some (exd dx fs) ∧ fs.lookup f = some v ∧ ExcC K D ∧ PySem.W.findIn K (.ref D) f = some none ∧ Q v H1
theorem pe_xget {e : Expr} {te : TE} {pos : Pos} {n : Str} (he : PE X e te) (hb : attributeBase e n X.env (eval e X.env) = eval e X.env := by rfl) : PE X (.Attribute e n pos) (tXget X.K n te) := by
  constructor
  intro pins s σ H Q I h
  refine attr_of hb (thn (he.run pins s σ H _ I h) fun u s1 hh => ?_)
  obtain ⟨x, H1, I1, rx, a, D, dx, fs, v, ex, e1, e2, l, T, hno, q⟩ := hh
  subst ex
  obtain rfl : u = Value.ref a := rx
  obtain ⟨t0, g1⟩ := exo_at I1.hok e1
  obtain ⟨mA, hns, hr⟩ := exd_at I1.hok e2
  obtain ⟨od, ho, hl⟩ := lookIn_ns hns
  obtain ⟨u, hu, ru⟩ := RelO.some_of (v := v) (o := mA n) (by rw [← l]; exact hr n)
  have J : PySem.W.InstAt s1.heap a _ D (some od) := ⟨g1, rfl, rfl, ho⟩
  exact HandSPX.exc_get I1.kIn J T.hg T.hk T.hs (PySem.W.findObj_own T.hd hno rfl (by rw [hl, hu])) (handed_of ru) ⟨v, H1, I1.tok _, ru, q⟩
end
end XE

set_option Elab.async false
set_option maxRecDepth 100000
set_option maxHeartbeats 2000000
set_option linter.all false
/-! What a reading evaluates to, told by what is true of the value in the heap behind. -/
namespace XV
open PySem PySem.Spec PyProof.Rows L2 XG Evl

def EvP (te : TE) (σ : L2.St) (H : Hp) (P : V → Hp → Prop) : Prop := ∀ H1, Ex H H1 → ∀ Q : VK, (∀ v H2, Ex H1 H2 → P v H2 → Q v H2) → te σ H1 Q
def EvPA (ta : TA) (σ : L2.St) (H : Hp) (P : List V → Hp → Prop) : Prop := ∀ H1, Ex H H1 → ∀ Q : List V → Hp → Prop, (∀ vs H2, Ex H1 H2 → P vs H2 → Q vs H2) → ta σ H1 Q
def EvTP (tt : TT) (σ : L2.St) (H : Hp) (P : Bool → Prop) : Prop := ∀ H1, Ex H H1 → ∀ Q : Bool → Hp → Prop, (∀ b H2, Ex H1 H2 → P b → Q b H2) → tt σ H1 Q
/-- a word of a value that stays when the heap grows -/
def Stays {α : Type} (P : α → Hp → Prop) : Prop := ∀ v H H', Ex H H' → P v H → P v H'

section
variable {σ : L2.St} {H H' : Hp} {te ta tb : TE} {tr : TA} {v x y : V} {P R S : V → Hp → Prop} {PA RA : List V → Hp → Prop} {t u : TT}
theorem EvP.mono (e : Ex H H') (h : EvP te σ H P) : EvP te σ H' P := fun H1 a Q q => h H1 (e.trans a) Q q
theorem EvPA.mono (e : Ex H H') (h : EvPA tr σ H PA) : EvPA tr σ H' PA := fun H1 a Q q => h H1 (e.trans a) Q q
theorem EvP.of (h : Ev te σ H v) : EvP te σ H (fun x _ => x = v) := fun H1 e Q q => h H1 e Q fun H2 e2 => q v H2 e2 rfl
theorem EvP.to (h : EvP te σ H fun x _ => x = v) : Ev te σ H v := fun H1 e Q q => h H1 e Q fun x H2 e2 z => by rw [z]; exact q H2 e2
theorem EvP.imp (h : EvP te σ H P) (i : ∀ v H1, Ex H H1 → P v H1 → R v H1) : EvP te σ H R := fun H1 e Q q => h H1 e Q fun v H2 e2 p => q v H2 e2 (i v H2 (e.trans e2) p)
theorem EvPA.imp (h : EvPA tr σ H PA) (i : ∀ v H1, Ex H H1 → PA v H1 → RA v H1) : EvPA tr σ H RA := fun H1 e Q q => h H1 e Q fun v H2 e2 p => q v H2 e2 (i v H2 (e.trans e2) p)
theorem EvPA.of {vs : List V} (h : EvA tr σ H vs) : EvPA tr σ H (fun x _ => x = vs) := fun H1 e Q q => h H1 e Q fun H2 e2 => q vs H2 e2 rfl
theorem stays_eq {α : Type} {v : α} : Stays (fun x _ => x = v) := fun _ _ _ _ h => h
theorem evpa_nil : EvPA tNil σ H (fun vs _ => vs = []) := fun H1 _ _ q => q [] H1 (Ex.refl _) rfl
theorem evpa_cons (ha : EvP te σ H P) (mP : Stays P) (hr : EvPA tr σ H RA) : EvPA (tCons te tr) σ H (fun vs H => ∃ v ws, vs = v :: ws ∧ P v H ∧ RA ws H) := fun H1 e Q q =>
  ha H1 e _ fun v H2 e2 p => hr H2 (e.trans e2) _ fun ws H3 e3 r => q (v :: ws) H3 (e2.trans e3) ⟨v, ws, rfl, mP _ _ _ e3 p, r⟩
theorem evpa_one (ha : EvP te σ H P) : EvPA (tCons te tNil) σ H (fun vs H => ∃ v, vs = [v] ∧ P v H) := fun H1 e Q q =>
  ha H1 e _ fun v H2 e2 p => q [v] H2 e2 ⟨v, rfl, p⟩
theorem evp_lst (ha : EvPA tr σ H PA) (mA : Stays PA) (hz : ∀ vs H1, PA vs H1 → vs.length ≤ 100000) : EvP (tLst tr) σ H (fun v H => ∃ p vs, v = .ref p ∧ H p = some (.lst vs) ∧ PA vs H) := fun H1 e Q q =>
  ha H1 e _ fun vs H2 e2 p => ⟨sz_of (hz vs H2 p), fun l hl => q _ _ (e2.trans (Ex.new hl)) ⟨l, vs, rfl, upd_same, mA _ _ _ (Ex.new hl) p⟩⟩
theorem evp_lstS (ha : EvPA tr σ H PA) (mA : Stays PA) (hz : ∀ vs H1, PA vs H1 → vs.length ≤ 100000) : EvP (tLstS tr) σ H (fun v H => ∃ p vs, v = .ref p ∧ p ≠ sysModules ∧ H p = some (.lst vs) ∧ PA vs H) := fun H1 e Q q =>
  ha H1 e _ fun vs H2 e2 p => ⟨sz_of (hz vs H2 p), fun l hl hs => q _ _ (e2.trans (Ex.new hl)) ⟨l, vs, rfl, hs, upd_same, mA _ _ _ (Ex.new hl) p⟩⟩
theorem evp_tup (ha : EvPA tr σ H PA) (mA : Stays PA) (hz : ∀ vs H1, PA vs H1 → vs.length ≤ 100000) : EvP (tTup tr) σ H (fun v H => ∃ p vs, v = .ref p ∧ H p = some (.tup vs) ∧ PA vs H) := fun H1 e Q q =>
  ha H1 e _ fun vs H2 e2 p => ⟨sz_of (hz vs H2 p), fun l hl => q _ _ (e2.trans (Ex.new hl)) ⟨l, vs, rfl, upd_same, mA _ _ _ (Ex.new hl) p⟩⟩
theorem evp_op {r : R2} (ha : EvP ta σ H P) (mP : Stays P) (hb : EvP tb σ H R) (hr : ∀ x y H1, Ex H H1 → P x H1 → R y H1 → ∀ Q : VK, (∀ v H2, Ex H1 H2 → S v H2 → Q v H2) → r x y H1 Q) : EvP (tOp r ta tb) σ H S := fun H1 e Q q =>
  ha H1 e _ fun x H2 e2 p => hb H2 (e.trans e2) _ fun y H3 e3 p2 => hr x y H3 ((e.trans e2).trans e3) (mP _ _ _ e3 p) p2 Q fun v H4 e4 s => q v H4 ((e2.trans e3).trans e4) s
theorem evp_cb {r : List V → Hp → VK → Prop} (ha : EvPA tr σ H RA) (hr : ∀ vs H1, Ex H H1 → RA vs H1 → ∀ Q : VK, (∀ v H2, Ex H1 H2 → S v H2 → Q v H2) → r vs H1 Q) : EvP (tCB r tr) σ H S := fun H1 e Q q =>
  ha H1 e _ fun vs H2 e2 p => hr vs H2 (e.trans e2) p Q fun v H3 e3 s => q v H3 (e2.trans e3) s
theorem evp_call {sp : Sp} {dvs : List V} {E : XK} (ha : EvPA tr σ H RA) (hs : ∀ vs H1, Ex H H1 → RA vs H1 → ∀ Q : VK, (∀ v H2, Ex H1 H2 → S v H2 → Q v H2) → sp (vs ++ dvs) H1 Q E) : EvP (tCall sp dvs E tr) σ H S := fun H1 e Q q =>
  ha H1 e _ fun vs H2 e2 p => hs vs H2 (e.trans e2) p Q fun v H3 e3 s => q v H3 (e2.trans e3) s
theorem et_bl {b : Bool} (h : EvP te σ H fun v _ => v = .bl b) : EvT (tTest te) σ H b := et_test h.to
theorem et_yes : EvT tYes σ H true := fun H1 _ _ q => q H1 (Ex.refl _)
/-! statements -/
variable {D : Ends} {tz tu : TS}
theorem s_asgP {i : Nat} (h : EvP te σ H P) (k : ∀ v H1, Ex H H1 → P v H1 → D.nx (σ.set i (some v)) H1) : tAsg te (gName i) D σ H := h H (Ex.refl H) _ k
theorem q_asgP {i : Nat} (h : EvP te σ H P) (k : ∀ v H1, Ex H H1 → P v H1 → tz D (σ.set i (some v)) H1) : tSeq (tAsg te (gName i)) tz D σ H := s_asgP (D := { D with nx := tz D }) h k
theorem s_retP (h : EvP te σ H P) (k : ∀ v H1, Ex H H1 → P v H1 → D.rt v H1) : tRet te D σ H := h H (Ex.refl H) _ k
/-! xs + ys of two lists -/
theorem evp_cat (ha : EvP ta σ H fun v H => ∃ p vs, v = .ref p ∧ H p = some (.lst vs) ∧ PA vs H) (mA : Stays PA) (hb : EvP tb σ H fun v H => ∃ p vs, v = .ref p ∧ H p = some (.lst vs) ∧ RA vs H) (mR : Stays RA)
    (hz : ∀ xs ys H1, PA xs H1 → RA ys H1 → xs.length + ys.length ≤ 100000) :
    EvP (tOp rCat ta tb) σ H (fun v H => ∃ p vs, v = .ref p ∧ H p = some (.lst vs) ∧ ∃ xs ys, vs = xs ++ ys ∧ PA xs H ∧ RA ys H) := by
  refine evp_op ha (fun v H H' e h => ?_) hb (fun x y H1 e hx hy Q q => ?_)
  · obtain ⟨p, vs, rfl, h1, h2⟩ := h
    exact ⟨p, vs, rfl, e _ _ h1, mA _ _ _ e h2⟩
  · obtain ⟨p, xs, rfl, h1, h2⟩ := hx
    obtain ⟨p', ys, rfl, h3, h4⟩ := hy
    exact ⟨p, p', xs, ys, rfl, rfl, h1, h3, sz_of (hz _ _ _ h2 h4), fun o ho => q _ _ (Ex.new ho) ⟨o, _, rfl, upd_same, xs, ys, rfl, mA _ _ _ (Ex.new ho) h2, mR _ _ _ (Ex.new ho) h4⟩⟩
end

/-! ### lists of truth values, compared -/
section
variable {K : PySem.W.Frag} {σ : L2.St} {H : Hp} {ta tb : TE}
theorem dp_bools : ∀ bs : List Bool, DpAll K H (bs.map V.bl) (bs.map PyData.bool)
  | [] => .nil
  | b :: bs => .cons (.bl b) (dp_bools bs)
theorem lay_bools : ∀ bs : List Bool, PyData.canLayAll0 (bs.map PyData.bool) = true
  | [] => rfl
  | b :: bs => by
    show (true && PyData.canLayAll0 (bs.map PyData.bool)) = true
    rw [lay_bools bs]
    rfl
theorem dep_bools : ∀ bs : List Bool, PyData.depthAll (bs.map PyData.bool) = 0
  | [] => rfl
  | b :: bs => by
    show max 0 (PyData.depthAll (bs.map PyData.bool)) = 0
    rw [dep_bools bs]
    rfl
theorem shaped_bools (bs : List Bool) : SeqAt.shaped (.list (bs.map PyData.bool)) = true := by
  unfold SeqAt.shaped
  rw [Bool.and_eq_true]
  refine ⟨lay_bools bs, decide_eq_true ?_⟩
  show PyData.depthAll _ + 1 ≤ 64
  rw [dep_bools]
  decide
/-- a list of these truth values -/
def IsBools (bs : List Bool) : V → Hp → Prop := fun v H => ∃ p, v = .ref p ∧ H p = some (.lst (bs.map V.bl))
theorem stays_bools {bs : List Bool} : Stays (IsBools bs) := fun v H H' e ⟨p, h1, h2⟩ => ⟨p, h1, e _ _ h2⟩
theorem evp_neB {bs : List Bool} (ha : EvP ta σ H (IsBools bs)) (hb : EvP tb σ H (IsBools bs)) : EvP (tOp (rNeD K) ta tb) σ H (fun v _ => v = .bl false) := by
  refine evp_op ha stays_bools hb (fun x y H1 e hx hy Q q => ?_)
  obtain ⟨p, rfl, h1⟩ := hx
  obtain ⟨p', rfl, h2⟩ := hy
  refine ⟨.list (bs.map PyData.bool), .list (bs.map PyData.bool), .lst (SqL.of h1) (dp_bools bs), .lst (SqL.of h2) (dp_bools bs), shaped_bools bs, shaped_bools bs, ?_⟩
  rw [SeqAt.eqv_refl (.list (bs.map PyData.bool)) (lay_bools bs)]
  exact q _ _ (Ex.refl _) rfl
theorem evp_eqB {bs : List Bool} (ha : EvP ta σ H (IsBools bs)) (hb : EvP tb σ H (IsBools bs)) : EvP (tOp (rEqD K) ta tb) σ H (fun v _ => v = .bl true) := by
  refine evp_op ha stays_bools hb (fun x y H1 e hx hy Q q => ?_)
  obtain ⟨p, rfl, h1⟩ := hx
  obtain ⟨p', rfl, h2⟩ := hy
  refine ⟨.list (bs.map PyData.bool), .list (bs.map PyData.bool), .lst (SqL.of h1) (dp_bools bs), .lst (SqL.of h2) (dp_bools bs), shaped_bools bs, shaped_bools bs, ?_⟩
  rw [SeqAt.eqv_refl (.list (bs.map PyData.bool)) (lay_bools bs)]
  exact q _ _ (Ex.refl _) rfl
/-- [e for x in range(n)], e a truth value -/
theorem evp_lcB {ta : TA} {te : TE} {j : Nat} {vs : List Nat} {n : Nat} (f : Nat → Bool) (hn : n ≤ 40000) (h : EvA ta σ H [.int n]) (hw : ∀ x, wipe ((wipe σ vs).set j (some x)) vs = wipe σ vs)
    (he : ∀ (i : Nat) H1, Ex H H1 → i < n → Ev te ((wipe σ vs).set j (some (.int (i : Int)))) H1 (.bl (f i))) : EvP (tLc (iRng1 ta) (gName j) tYes te vs) σ H (IsBools ((List.range n).map f)) := by
  have k := el_lcR1 (t := tYes) (n := (n : Int)) (fun _ => true) (fun i => V.bl (f i)) h ⟨by omega, by omega⟩ hw (fun i H1 _ _ => et_yes) (fun i H1 e hi _ => he i H1 e (by omega))
  refine fun H1 e Q q => k H1 e Q fun p H2 _ e2 hp => q _ _ e2 ⟨p, rfl, ?_⟩
  rw [hp]
  unfold given
  rw [List.filter_eq_self.mpr (fun _ _ => rfl), List.map_map]
  rfl
end

/-! ### rules within a comprehension's block, whose written part is told -/
section
variable {X : Cx} {K : PySem.W.Frag}
theorem ix_listK (h : X.K = K := by rfl) : IxR X (rIxL K) := h ▸ ix_list
theorem ix_tupK (h : X.K = K := by rfl) : IxR X (rIxT K) := h ▸ ix_tup
theorem op_in_seqK (h : X.K = K := by rfl) : OpR X (compareOp .In) (rIn K false) := h ▸ op_in_seq
theorem op_notIn_seqK (h : X.K = K := by rfl) : OpR X (compareOp .NotIn) (rIn K true) := h ▸ op_notIn_seq
theorem op_eqDK (hu : X.A.units + 64 < cLine) (h : X.K = K := by rfl) : OpR X (compareOp .Eq) (rEqD K) := h ▸ op_eqD hu
theorem op_neDK (hu : X.A.units + 64 < cLine) (h : X.K = K := by rfl) : OpR X (compareOp .NotEq) (rNeD K) := h ▸ op_neD hu
end
end XV

set_option Elab.async false
set_option maxRecDepth 100000
set_option maxHeartbeats 2000000
set_option linter.all false
/-! Sets of any kind of keys whose table can be walked; set(xs) and sorted(set) of texts. -/
namespace XT
open PySem PySem.Spec PyProof.Rows L2
section
variable {P : Program} {w : World} {κ : Type} [DecidableEq κ] (knd : KeyKind P w κ)
/-- no key stands twice -/
def Once (l : List (Int × Value)) : Prop := l.Pairwise fun e f => ∀ k, knd.is k e.2 = true → ¬ knd.is k f.2 = true
/-- the table: it rises, and it can be walked -/
def Walk (w : World) (t : SetTable) : Prop := Ris t.place.toList ∧ (w.params.followText "set-order" = true ∨ t.led = true)
/-- the set at a, with its members and its table -/
structure Row (h : Heap) (a : Addr) (es : Array (Int × Value)) (t : SetTable) : Prop where
  here : ∃ o ep, h.get? a = some o ∧ o.ExactSet ∧ o.data = .set es ep t
  el : ElemsOf knd es.toList
  one : Once knd es.toList
  few : es.size < scanBound
  fit : t.fits es.size = true
  way : Walk w t
variable {knd}
variable {A : Around} {E : Value → Shared → Prop} {s : Shared} {a : Addr} {es : Array (Int × Value)} {t : SetTable}
/-- k is a member -/
def Has (knd : KeyKind P w κ) (es : Array (Int × Value)) (k : κ) : Prop := ∃ e ∈ es.toList, knd.is k e.2 = true
theorem sym_once {l : List (Int × Value)} {e f : Int × Value} (h : ∀ k, knd.is k e.2 = true → ¬ knd.is k f.2 = true) : ∀ k, knd.is k f.2 = true → ¬ knd.is k e.2 = true := fun k h1 h2 => h k h2 h1
theorem once_perm {l m : List (Int × Value)} (p : l.Perm m) (h : Once knd l) : Once knd m := (p.pairwise_iff fun h => sym_once (l := l) h).mp h
theorem Row.move {h h' : Heap} (R : Row knd h a es t) (k : ∀ o, h.get? a = some o → h'.get? a = some o) : Row knd h' a es t := by
  obtain ⟨o, ep, h1, h2⟩ := R.here
  exact ⟨⟨o, ep, k o h1, h2⟩, R.el, R.one, R.few, R.fit, R.way⟩
/-- what is stored at the end of an add -/
theorem store_end {Z : Array (Int × Value)} {t2 : SetTable} {o : Obj} {ep : Nat} {es : Array (Int × Value)} {t : SetTable} (g0 : s.heap.get? a = some o) (gx : o.ExactSet) (gd : o.data = .set es ep t)
    (el : ElemsOf knd Z.toList) (one : Once knd Z.toList) (few : Z.size < scanBound) (fit : t2.fits Z.size = true) (way : Walk w t2) {g : Bool → Sem Unit} (hg : ∀ b (s₁ : Shared) (Q' : Unit → Shared → Prop), Q' () s₁ → wpAny (model P w) A (g b) Q' E s₁)
    {dum : Bool} {R : Option Bool → Shared → Prop} (hR : ∀ h' es' t', Heap.SameBut a s.heap h' → Row knd h' a es' t' → es'.toList.Perm Z.toList → R (some true) { s with heap := h' }) :
    wpAny (model P w) A (storeSet a Z t2 >>= fun _ => if (!dum && t2.tooFull) = true then
      (do g (relayAll t2 Z (SetTable.grown Z.size)).2.2; storeSet a (relayAll t2 Z (SetTable.grown Z.size)).1 (relayAll t2 Z (SetTable.grown Z.size)).2.1; pure (some true)) else pure (some true)) R E s := by
  refine wpAny_bind (wpAny_storeSet_of g0 gd ?_ (fits_of_scanBound few))
  have g1 := store_at (es' := Z) (t' := t2) g0 gd
  have b1 := Heap.SameBut.update s.heap a (Obj.putSet Z t2)
  by_cases c : (!dum && t2.tooFull) = true
  · rw [if_pos c]
    have p1 := relayAll_perm t2 Z (SetTable.grown Z.size)
    have p2 := relayAll_fits t2 Z (SetTable.grown Z.size)
    have p3 := relayAll_ris t2 Z (SetTable.grown Z.size)
    have p4 := relayAll_led t2 Z (SetTable.grown Z.size)
    generalize relayAll t2 Z (SetTable.grown Z.size) = W at p1 p2 p3 p4 ⊢
    have zz : W.1.size = Z.size := by rw [← Array.length_toList, p1.length_eq, Array.length_toList]
    have few2 : W.1.size < scanBound := zz ▸ few
    refine wpAny_bind (hg _ _ _ (wpAny_bind (wpAny_storeSet_of g1 rfl (wpAny_pure (hR _ W.1 W.2.1 (b1.trans (Heap.SameBut.update _ a _)) ?_ p1)) (fits_of_scanBound few2))))
    exact { here := ⟨_, _, store_at g1 rfl, gx, rfl⟩, el := fun e he => el e (p1.mem_iff.mp he), one := once_perm p1.symm one, few := few2, fit := p2, way := ⟨p3, way.2.imp id fun z => p4.trans z⟩ }
  · rw [if_neg c]
    exact wpAny_pure (hR _ Z t2 b1 { here := ⟨_, _, g1, gx, rfl⟩, el := el, one := one, few := few, fit := fit, way := way } (List.Perm.refl _))
theorem add_row {k : κ} {x : Value} {Q : Bool → Shared → Prop} (hk : knd.is k x = true) (hc : x.scannable = true) (R : Row knd s.heap a es t) (room : es.size + 1 < scanBound)
    (h0 : Has knd es k → Q false s) (h1 : ¬ Has knd es k → ∀ h' es' t', Heap.SameBut a s.heap h' → Row knd h' a es' t' → es'.toList.Perm ((knd.hash k, x) :: es.toList) → Q true { s with heap := h' }) :
    wpAny (model P w) A (setAddHashed a x (knd.hash k)) Q E s := by
  obtain ⟨⟨o, ep, g0, gx, gd⟩, el, one, few, fit, way⟩ := R
  unfold setAddHashed
  unfold setAddHashedIn
  refine wpAny_holding (wpAny_bind (wpAny_setState_of g0 gd fit ?_))
  dsimp only
  rw [byScan_of hc few el, if_pos rfl]
  unfold setAddByScan
  refine wpAny_bind (wpAny_bind (wpAny_rule (wpAny_bind (wpAny_setScan_of hk g0 gd fit el ?_))))
  cases hf : List.findIdx? (fun e => knd.is k e.2) es.toList with
  | some j =>
    obtain ⟨hj, pj, _⟩ := List.findIdx?_eq_some_iff_getElem.mp hf
    exact wpAny_pure (wpAny_pure (h0 ⟨_, List.getElem_mem hj, pj⟩))
  | none =>
    have nk : ¬ Has knd es k := fun ⟨e, he, q⟩ => by
      have c := List.findIdx?_eq_none_iff.mp hf e he
      rw [q] at c
      cases c
    dsimp only
    have q1 := layNew_perm t es (knd.hash k) x
    have q2 := layNew_fits t es (knd.hash k) x
    have q3 := layNew_ris t es (knd.hash k) x way.1
    have q4 := layNew_led t es (knd.hash k) x
    generalize layNew t es (knd.hash k) x = Z at q1 q2 q3 q4 ⊢
    obtain ⟨Y, t1, dum, gave⟩ := Z
    dsimp only at q1 q2 q3 q4 ⊢
    rw [Array.toList_push] at q1
    have pc : Y.toList.Perm ((knd.hash k, x) :: es.toList) := q1.trans (List.perm_append_singleton _ _)
    have el1 : ElemsOf knd Y.toList := fun e he => by
      rcases List.mem_cons.mp (pc.mem_iff.mp he) with z | z
      · rw [z]
        exact ⟨⟨k, hk, rfl⟩, hc⟩
      · exact el e z
    have one1 : Once knd Y.toList := once_perm pc.symm (List.pairwise_cons.mpr ⟨fun f hf k' z1 z2 => nk ⟨f, hf, by rw [knd.inj x k k' hk z1]; exact z2⟩, one⟩)
    have sz1 : Y.size = es.size + 1 := by rw [← Array.length_toList, pc.length_eq, List.length_cons, Array.length_toList]
    have few1 : Y.size < scanBound := by omega
    have way1 : Walk w t1 := ⟨q3, way.2.imp id fun z => q4.trans z⟩
    have gw : ∀ (b : Bool) (s₁ : Shared) (Q' : Unit → Shared → Prop), Q' () s₁ → wpAny (model P w) A (match b with | true => rule "set.scan.the-table-gave-way" | false => pure ()) Q' E s₁ := fun b s₁ Q' q => by
      cases b with
      | true => exact wpAny_rule q
      | false => exact wpAny_pure q
    refine wpAny_bind (gw _ _ _ ?_)
    split
    · refine wpAny_bind ?_
      rw [hashByValue_scannable 8 hc]
      refine wpAny_pure ?_
      refine store_end g0 gx gd el1 one1 few1 ?_ ?_ gw ?_
      · split
        · exact q2
        · exact SetTable.fits_plain_off q2
      · split <;> exact way1
      · intro h' es' t' b r p
        exact wpAny_pure (h1 nk h' es' t' b r (p.trans pc))
    · refine wpAny_bind (wpAny_pure ?_)
      refine store_end g0 gx gd el1 one1 few1 ?_ ?_ gw ?_
      · exact q2
      · exact way1
      · intro h' es' t' b r p
        exact wpAny_pure (h1 nk h' es' t' b r (p.trans pc))
/-- the set holds the first i keys -/
def Upto (knd : KeyKind P w κ) (ks : List κ) (h : Heap) (S : Addr) (i : Nat) : Prop := ∃ es t, Row knd h S es t ∧ (∀ k, Has knd es k ↔ k ∈ ks.take i) ∧ es.size ≤ i
theorem Upto.move {ks : List κ} {h h' : Heap} {S : Addr} {i : Nat} (U : Upto knd ks h S i) (k : ∀ o, h.get? S = some o → h'.get? S = some o) : Upto knd ks h' S i := by
  obtain ⟨es, t, R, r⟩ := U
  exact ⟨es, t, R.move k, r⟩
theorem has_perm {es es' : Array (Int × Value)} {k : κ} {x : Value} (hk : knd.is k x = true) (p : es'.toList.Perm ((knd.hash k, x) :: es.toList)) (k' : κ) : Has knd es' k' ↔ Has knd es k' ∨ k' = k := by
  constructor
  · rintro ⟨e, he, q⟩
    rcases List.mem_cons.mp (p.mem_iff.mp he) with z | z
    · rw [z] at q
      exact .inr (knd.inj x k' k q hk)
    · exact .inl ⟨e, z, q⟩
  · rintro (⟨e, he, q⟩ | rfl)
    · exact ⟨e, p.mem_iff.mpr (List.mem_cons_of_mem _ he), q⟩
    · exact ⟨_, p.mem_iff.mpr List.mem_cons_self, hk⟩
theorem take_one {ks : List κ} {i : Nat} {k : κ} (h : ks[i]? = some k) (k' : κ) : k' ∈ ks.take (i + 1) ↔ k' ∈ ks.take i ∨ k' = k := by
  rw [List.take_add_one, h]
  simp
theorem fill {I : Addr} {fp wr : List Addr} {G : Array GenState → Array GenState → Prop} {n : Nat} {Pv : Nat → Value → Prop} {St : Nat → Shared → Prop} {R : Result → Shared → Prop} {ks : List κ} {S : Addr}
    (W : WalksS P w A.in1 I fp wr G n Pv St) (off : S ∉ fp) (hn : ks.length = n) (n64 : n < 4000) (hv : ∀ i v, Pv i v → ∃ k, ks[i]? = some k ∧ knd.is k v = true ∧ v.scannable = true) :
    ∀ (m i : Nat) (s : Shared), n - i = m → i ≤ n → St i s → Upto knd ks s.heap S i → (∀ s', Moved (S :: wr) G s s' → Upto knd ks s'.heap S n → R (.ok (.ret .none)) s') →
      codeAny (model P w) A (.builtin "set.update.loop" ⟨[.ref S, .ref I], []⟩) R s := by
  have offw : S ∉ wr := fun h => off (W.sub _ h)
  have wide : ∀ b ∈ wr, b ∈ S :: wr := fun b => List.mem_cons_of_mem _
  intro m
  induction m with
  | zero =>
    intro i s em hi st U fin
    obtain rfl : i = n := by omega
    refine codeAny_builtin F.entry_set_update_loop ?_
    rw [Around.under_plainId F.plain_set_update_loop]
    show wpAny (model P w) A.in1 (pyNext (.ref I) >>= _) _ _ s
    refine wpAny_bind (W.done s _ _ st fun s1 mv => ?_)
    show wpAny (model P w) A.in1 (ret Value.none) _ _ s1
    exact wpAny_pure (fin s1 (mv.mono wide) (U.move fun o e => mv.heap S o offw e))
  | succ m ih =>
    intro i s em hi st U fin
    have hi2 : i < n := by omega
    refine codeAny_builtin F.entry_set_update_loop ?_
    rw [Around.under_plainId F.plain_set_update_loop]
    show wpAny (model P w) A.in1 (pyNext (.ref I) >>= _) _ _ s
    refine wpAny_bind (W.item i s _ _ hi2 st fun v s1 pv st1 mv => ?_)
    obtain ⟨k, hk, is, sc⟩ := hv i v pv
    obtain ⟨es, t, Rw, mem, few⟩ := U.move fun o e => mv.heap S o offw e
    show wpAny (model P w) A.in1 (holding [v] (setAdd S v) >>= _) _ _ s1
    refine wpAny_bind (wpAny_holding ?_)
    unfold setAdd
    refine wpAny_holding (wpAny_bind (knd.pyHash is ?_))
    have go : ∀ h2, Heap.SameBut S s1.heap h2 → Upto knd ks h2 S (i + 1) → ∀ tk, codeAny (model P w) A (.builtin "set.update.loop" ⟨[.ref S, .ref I], []⟩) R { s1 with heap := h2, toks := tk + s1.toks } := fun h2 sb U2 tk =>
      ih (i + 1) _ (by omega) hi2 (W.frame _ s1 _ _ st1 (Nat.le_add_left _ _) fun b hb o e => by
        rw [sb.2 b fun z => off (z ▸ hb)]
        exact e) U2 fun s3 mv3 U3 => fin s3 (Moved.trans W.gtrans ((mv.mono wide).then_heap (Nat.le_add_left _ _) fun b o hb e => by
          rw [sb.2 b fun z => hb (z ▸ List.mem_cons_self)]
          exact e) mv3) U3
    refine add_row (s := { s1 with toks := s1.toks + 1 }) is sc Rw (by unfold scanBound; omega) (fun hs => ?_) fun hs h2 es2 t2 sb R2 p2 => ?_
    · refine wpAny_pure ⟨plainId_quiet F.plain_set_update_loop _, ?_⟩
      have := go s1.heap (Heap.SameBut.refl S s1.heap) ⟨es, t, Rw, fun k' => by
        rw [take_one hk, mem]
        exact ⟨.inl, fun z => z.elim id fun z => z ▸ (mem k).mp hs⟩, by omega⟩ 1
      rw [Nat.add_comm] at this
      exact this
    · refine wpAny_pure ⟨plainId_quiet F.plain_set_update_loop _, ?_⟩
      have hz : es2.size = es.size + 1 := by rw [← Array.length_toList, p2.length_eq, List.length_cons, Array.length_toList]
      have := go h2 sb ⟨es2, t2, R2, fun k' => by rw [take_one hk, has_perm is p2, mem], by omega⟩ 1
      rw [Nat.add_comm] at this
      exact this
/-- a set without members -/
abbrev bare (w : World) : Obj := { cls := .type "set", dict := none, data := .set #[] 0 (.fresh 0 0 (!w.params.followText "set-order")) }
theorem upto_bare {h : Heap} {S : Addr} {ks : List κ} (e : h.get? S = some (bare w)) : Upto knd ks h S 0 := by
  refine ⟨#[], _, ⟨⟨_, 0, e, ⟨rfl, rfl, rfl⟩, rfl⟩, fun e z => by simp at z, List.Pairwise.nil, by decide, rfl, List.Pairwise.nil, ?_⟩, fun k => ?_, Nat.le_refl _⟩
  · show _ ∨ (!w.params.followText "set-order") = true
    cases w.params.followText "set-order" <;> simp
  · simp [Has]
set_option maxHeartbeats 3200000 in
/-- set(xs) of a list whose items are keys -/
theorem set_of_list {l : Addr} {items : Array Value} (ks : List κ) {Q : Value → Shared → Prop} (hh : A.handled = none) (hl : s.heap.IsList l items) (hn : ks.length = items.size) (n64 : items.size < 4000)
    (hv : ∀ (i : Nat) (v : Value), items[i]? = some v → ∃ k, ks[i]? = some k ∧ knd.is k v = true ∧ v.scannable = true)
    (h : ∀ (h' : Heap) (tk : Nat), Upto knd ks h' s.heap.objs.size items.size → (∀ b o, s.heap.get? b = some o → h'.get? b = some o) → Q (.ref s.heap.objs.size) { s with heap := h', toks := tk }) :
    wpAny (model P w) A (call (.type "set") [.ref l]) Q E s := by
  obtain ⟨_, _, m0⟩ := F.called_set.mro
  have m1 := F.called_set.made
  have m2 := F.called_set.sub
  have m3 := F.called_set.notType
  have m4 := F.called_set.canCreate
  have m5 := F.typeCall_set_1 (.ref l)
  refine wpAny_call (codeAny_of_tree ?_)
  show wpAny (model P w) _ (callAny (.type "set") _) _ _ _
  refine wpAny_pure ⟨Code.quiet_builtin _ (by decide +kernel), codeAny_builtin F.entry_type_call ?_⟩
  rw [Around.under_plain (weight_type_call_type "set" [.ref l] []) rfl]
  repeat (any_goals (first | assumption | wp_step))
  refine codeAny_mono (code_set_led1 (.ref l) (E := E) (Q₁ := fun u s1 => u = .ref s.heap.objs.size ∧ s1 = { s with heap := s.heap.push (bare w) }) ⟨rfl, rfl⟩) fun r s1 hr => ?_
  cases r with
  | error e => exact hr
  | ok fl =>
    cases fl with
    | ret u =>
      obtain ⟨rfl, rfl⟩ := hr
      have g1 : (s.heap.push (bare w)).get? s.heap.objs.size = some (bare w) := Heap.get?_push_size _ rfl
      have T1 : Shared.TypeIs { s with heap := s.heap.push (bare w) } (.ref s.heap.objs.size) "set" := ⟨_, g1, rfl⟩
      have m6 := F.called_set.init.lookup
      have m7 := F.called_set.init.bind (.ref s.heap.objs.size)
      repeat (any_goals (first | assumption | wp_step))
      refine codeAny_mono (codeAny_call_builtin (R := wants (fun r s2 => r = .none ∧ ∃ h' tk, s2 = { s with heap := h', toks := tk } ∧ Upto knd ks h' s.heap.objs.size items.size ∧ ∀ b o, s.heap.get? b = some o → h'.get? b = some o) E)
        F.called_set.init.plain F.entry_set_init (check_set_init_1 T1 ?_)) fun r2 s2 hr2 => ?_
      · obtain ⟨⟨c0, d0, x0, sl0⟩, g2, c2, nl, d2⟩ := id hl
        obtain rfl : c0 = .type "list" := c2
        obtain rfl : x0 = .seq items nl := d2
        have g3 : (s.heap.push (bare w)).get? l = some { cls := .type "list", dict := d0, data := .seq items nl, slots := sl0 } := Heap.get?_push_of_some _ g2
        have m8 := F.sub_list_set
        have m9 := F.sub_list_frozenset
        have ma : (Value.type "list" == Value.type "dict") = false := by decide
        have L1 : (s.heap.push (bare w)).IsList l items := ⟨_, g3, rfl, nl, rfl⟩
        unfold Builtin.«set.__init__» noKeywords
        unfold Builtin.Frozenset.updateFrom
        generalize hPI : pyIter = PI
        wp_walk
        subst hPI
        refine wpAny_pyIter_list L1 (wpAny_bind (wpAny_runValue ?_))
        have lS : l < s.heap.objs.size := Heap.lt_size g2
        have z1 : (s.heap.push (bare w)).objs.size = s.heap.objs.size + 1 := Heap.size_push ..
        have ne1 : l ≠ (s.heap.push (bare w)).objs.size := by
          rw [z1]
          exact Nat.ne_of_lt (Nat.lt_succ_of_lt lS)
        have off : s.heap.objs.size ∉ [(s.heap.push (bare w)).objs.size, l] := by
          rw [z1]
          simp only [List.mem_cons, List.not_mem_nil, or_false, not_or]
          exact ⟨Nat.ne_of_lt (Nat.lt_succ_self _), Nat.ne_of_gt lS⟩
        refine fill (ks := ks) ((Walks.list (by simp [hh]) _ l ne1 items).toS) off hn n64 hv (items.size - 0) 0 _ (by omega) (Nat.zero_le _) ⟨⟨_, Heap.get?_push_size _ rfl, rfl, rfl⟩, L1.push _⟩ (upto_bare (Heap.get?_push_of_some _ g1)) ?_
        rintro ⟨h', g', d', tk', os'⟩ mv U
        obtain rfl : g' = s.gens := mv.gens
        obtain rfl : d' = s.drawn := mv.drawn
        obtain rfl : os' = s.os := mv.os
        show wpAny _ _ _ _ _ _
        refine wpAny_pure ?_
        show wpAny _ _ (ret Value.none) _ _ _
        refine wpAny_pure ⟨rfl, h', tk', rfl, U, fun b o e => ?_⟩
        have lb : b < s.heap.objs.size := Heap.lt_size e
        refine mv.heap b o (fun z => ?_) (Heap.get?_push_of_some _ (Heap.get?_push_of_some _ e))
        rw [z1] at z
        simp only [List.mem_cons, List.not_mem_nil, or_false] at z
        exact z.elim (Nat.ne_of_lt lb) (Nat.ne_of_lt (Nat.lt_succ_of_lt lb))
      · cases r2 with
        | error e => exact hr2
        | ok fl2 =>
          cases fl2 with
          | ret r =>
            obtain ⟨rfl, h', tk, rfl, U, kp⟩ := hr2
            repeat (any_goals (first | assumption | wp_step))
            exact h _ _ U kp
          | _ => exact hr2.elim
    | _ => exact hr.elim
end
/-! ### sorted(a set of texts) -/
section
variable {P : Program} {w : World} {A : Around} {E : Value → Shared → Prop} {s : Shared} {a : Addr} {es : Array (Int × Value)} {t : SetTable}
theorem str_is {k : Str} {v : Value} (h : (PySem.strKind P w).is k v = true) : ∃ tk, v = .str k tk := Value.isStrOf_shape h
theorem sorted_txts {Q : Value → Shared → Prop} (R : Row (PySem.strKind P w) s.heap a es t) (hh : A.handled = none) (few : es.size < 64)
    (hQ : ∀ (s' : Shared) (p : Addr) (out : Array Value) (c : Nat) (ys : List Str), (∀ b o, s.heap.get? b = some o → s'.heap.get? b = some o) → s'.gens = s.gens → s'.os = s.os → s.heap.objs.size ≤ p → s'.heap.get? p = some (seqObj "list" out c) →
      StrsAre out.toList ys → sortedS ys = true → ys.Nodup → (∀ k, k ∈ ys ↔ Has (PySem.strKind P w) es k) → Q (.ref p) s') :
    wpAny (model P w) A (call (.builtin "sorted") [.ref a]) Q E s := by
  obtain ⟨o, ep, g0, gx, gd⟩ := R.here
  refine Calls.call_function_entry kind_sorted plain_sorted entry_sorted (args_sorted1 _) ?_
  unfold Builtin.«sorted»
  refine wpAny_bind (m := checkCount "sorted" 1 1 _) (wpAny_pure (wpAny_bind (collect_set (A := A.in1) hh ⟨o, g0, gx.1, gd⟩ R.fit R.few R.way.1 R.way.2 fun s1 vs k1 z1 e1 e2 pm => ?_)))
  have lv : vs.length = es.size := by rw [pm.length_eq, List.length_map, Array.length_toList]
  have all : ∀ v ∈ vs, ∃ x tk, v = .str x tk := fun v hv => by
    obtain ⟨e, he, rfl⟩ := List.mem_map.mp (pm.mem_iff.mp hv)
    obtain ⟨⟨k, hk, _⟩, _⟩ := R.el e he
    obtain ⟨tk, e⟩ := str_is hk
    exact ⟨k, tk, e⟩
  have S1 : StrsAre vs (vs.map strOf) := strsAre_map vs all
  refine wpAny_bind (wpAny_newList ?_ (by rw [lv, sizeLine_eq]; omega))
  have g1 : (s1.heap.push (seqObj "list" vs.toArray 0)).get? s1.heap.objs.size = some (seqObj "list" vs.toArray 0) := Heap.get?_push_size _ rfl
  refine wpAny_bind (wpAny_holding (wpAny_call_entry slot_list_sort ⟨_, g1, rfl⟩ entry_list_sort (list_sort_treeK strKind_oneLt g1 S1.keysOf (fun v1 v2 r e => keyKind_strs (by rw [← e]; exact S1)) (by omega) fun st hp hs => ⟨_, rfl, ?_⟩) (args_list_sort _)))
  obtain ⟨ys, y1, y2, y3⟩ := sorted_out_str S1 hp hs
  obtain ⟨c, hc⟩ := sortedHeap_at (vs := vs) (out := (arrOf st).map (·.2)) g1
  have mem : ∀ k, k ∈ vs.map strOf ↔ Has (PySem.strKind P w) es k := fun k => by
    rw [List.mem_map]
    constructor
    · rintro ⟨v, hv, rfl⟩
      obtain ⟨e, he, rfl⟩ := List.mem_map.mp (pm.mem_iff.mp hv)
      obtain ⟨⟨k, hk, _⟩, _⟩ := R.el e he
      obtain ⟨tk, q⟩ := str_is hk
      rw [q] at hk ⊢
      exact ⟨e, he, by rw [q]; exact hk⟩
    · rintro ⟨e, he, hk⟩
      obtain ⟨tk, q⟩ := str_is hk
      exact ⟨e.2, pm.mem_iff.mpr (List.mem_map_of_mem he), by rw [q]; rfl⟩
  have nd : (vs.map strOf).Nodup := by
    rw [(pm.map strOf).nodup_iff, List.map_map]
    refine (List.pairwise_map.mpr (R.one.imp_of_mem fun {e f} he hf h q => ?_))
    obtain ⟨⟨k, hk, _⟩, _⟩ := R.el e he
    obtain ⟨⟨k', hk', _⟩, _⟩ := R.el f hf
    obtain ⟨tk, q1⟩ := str_is hk
    obtain ⟨tk', q2⟩ := str_is hk'
    have : k = k' := by
      have q : strOf e.2 = strOf f.2 := q
      rw [q1, q2] at q
      exact q
    subst this
    exact h k hk hk'
  refine wpAny_pure ⟨_, rfl, hQ _ s1.heap.objs.size _ c ys (fun b u e => ?_) e1 e2 z1 hc y1 y3 (y2.nodup_iff.mpr nd) fun k => by rw [y2.mem_iff, mem]⟩
  have q := k1 b u e
  have lt := Heap.lt_size q
  show (sortedHeap (s1.heap.push (seqObj "list" vs.toArray 0)) s1.heap.objs.size vs _).get? b = some u
  rw [sortedHeap_old (Nat.ne_of_lt lt) (by rw [size_push']; exact Nat.lt_succ_of_lt lt)]
  exact Heap.get?_push_of_some _ q
end
/-! ### by values -/
theorem all_but {s s' : Shared} (o : s'.os = s.os) : s' = { s with heap := s'.heap, gens := s'.gens, drawn := s'.drawn, toks := s'.toks } := by
  cases s'
  cases s
  cases o
  rfl
theorem nodup_len {α : Type} [DecidableEq α] : ∀ {l D : List α}, l.Nodup → (∀ x ∈ l, x ∈ D) → l.length ≤ D.length
  | [], _, _, _ => Nat.zero_le _
  | x :: l, D, h, s => by
    obtain ⟨h1, h2⟩ := List.nodup_cons.mp h
    have hx := s x List.mem_cons_self
    have q := nodup_len (D := D.erase x) h2 fun y hy => (List.mem_erase_of_ne (show y ≠ x from fun e => h1 (e ▸ hy))).mpr (s y (List.mem_cons_of_mem _ hy))
    rw [List.length_erase_of_mem hx] at q
    have := List.length_pos_of_mem hx
    rw [List.length_cons]
    omega
/-- the set of these texts at a -/
def SetX (P : Program) (w : World) (a : Addr) (ks : List Str) : HO := .ext fun h => ∃ es t, Row (PySem.strKind P w) h a es t ∧ (∀ k, Has (PySem.strKind P w) es k ↔ k ∈ ks) ∧ es.size ≤ ks.length
theorem setX_new {P : Program} {w : World} {H : Hp} {h : Heap} {a : Addr} {ks : List Str} (R : ∃ es t, Row (PySem.strKind P w) h a es t ∧ (∀ k, Has (PySem.strKind P w) es k ↔ k ∈ ks) ∧ es.size ≤ ks.length) : ObjOk P w H h a (SetX P w a ks) := by
  have ⟨es, t, r, _⟩ := R
  obtain ⟨o, ep, g, _⟩ := r.here
  exact ⟨R, ⟨o, g⟩, fun h1 h2 ⟨es', t', r', q⟩ k => ⟨es', t', r'.move k, q⟩⟩
theorem strs_key {P : Program} {w : World} : ∀ {vs : List Value} {ks : List Str}, StrsAre vs ks → ∀ (i : Nat) (v : Value), vs[i]? = some v → ∃ k, ks[i]? = some k ∧ (PySem.strKind P w).is k v = true ∧ v.scannable = true
  | _, _, .nil, i, v, h => by simp at h
  | _, _, .cons y t r, 0, v, h => by
    obtain rfl : Value.str y t = v := by simpa using h
    exact ⟨y, rfl, strKind_is _ _ _ _, rfl⟩
  | _, _, .cons y t r, i + 1, v, h => by
    obtain ⟨k, h1, h2⟩ := strs_key (P := P) (w := w) r i v (by simpa using h)
    exact ⟨k, by simpa using h1, h2⟩
theorem ints_key {P : Program} {w : World} : ∀ {vs : List Value} {ks : List Int}, IntsAre vs ks → ∀ (i : Nat) (v : Value), vs[i]? = some v → ∃ k, ks[i]? = some k ∧ (PySem.intKind P w).is k v = true ∧ v.scannable = true
  | _, _, .nil, i, v, h => by simp at h
  | _, _, .cons y t r, 0, v, h => by
    obtain rfl : Value.int y t = v := by simpa using h
    exact ⟨y, rfl, intKind_is _ _ _ _, rfl⟩
  | _, _, .cons y t r, i + 1, v, h => by
    obtain ⟨k, h1, h2⟩ := ints_key (P := P) (w := w) r i v (by simpa using h)
    exact ⟨k, by simpa using h1, h2⟩
section
variable {X : Cx}
/-- set(xs), xs a list of texts -/
def rSetS (K : PySem.W.Frag) (P : Program) (w : World) : List V → Hp → VK → Prop := fun xs H Q => ∃ (l : Addr) (ks : List Str), xs = [V.ref l] ∧ SqL K H l (ks.map V.str) ∧ ks.length < 4000 ∧ ∀ p, H p = none → Q (.ref p) (upd H p (SetX P w p ks))
theorem cr_setS (hc : X.calm = true) : CallR X (.type "set") (rSetS X.K X.prog X.w) := by
  intro pins s σ H xs us Q I r h
  obtain ⟨l, ks, rfl, hl, hz, q⟩ := h
  rw [Vals.ref1 r]
  obtain ⟨its, rv, pl, _⟩ := I.list hl
  have len := rv.length
  rw [List.length_map] at len
  have hn : H s.heap.objs.size = none := I.hok.fresh (Nat.le_refl _)
  refine set_of_list (P := X.prog) (w := X.w) (knd := PySem.strKind X.prog X.w) ks (I.ok.hd hc) pl.isList (by simpa using len) (by simpa using len ▸ hz) (fun i v e => strs_key rv.strs i v (by simpa using e)) fun h' tk U k => ?_
  obtain ⟨es, t, R, mem, few⟩ := U
  refine ⟨.ref s.heap.objs.size, upd H s.heap.objs.size (SetX X.prog X.w s.heap.objs.size ks), I.laid (t' := tk) k (Nat.le_refl _) (setX_new ⟨es, t, R, fun k => ?_, ?_⟩), rfl, q _ hn⟩
  · rw [mem k, List.take_of_length_le (by simp [len])]
  · simpa [len] using few
/-- set(xs), xs a list of ints -/
def rSetI (K : PySem.W.Frag) (w : World) : List V → Hp → VK → Prop := fun xs H Q => ∃ (l : Addr) (ks : List Int), xs = [V.ref l] ∧ SqL K H l (ks.map V.int) ∧ ks.length < 4000 ∧ ∀ p n, H p = none → n ≤ ks.length → Q (.ref p) (upd H p (SetO w p (fun k => decide (k ∈ ks)) n))
theorem row_ints {P : Program} {w : World} {h : Heap} {a : Addr} {es : Array (Int × Value)} {t : SetTable} {ks : List Int} (R : Row (PySem.intKind P w) h a es t) (mem : ∀ k, Has (PySem.intKind P w) es k ↔ k ∈ ks) : SetR w h a (fun k => decide (k ∈ ks)) es.size := by
  obtain ⟨o, ep, g0, gx, gd⟩ := R.here
  have good : ∀ e ∈ es.toList, GoodE e := fun e he => by
    obtain ⟨⟨k, hk, q⟩, _⟩ := R.el e he
    obtain ⟨tk, z⟩ := Value.isInt_shape hk
    exact ⟨k, tk, z, q⟩
  refine ⟨o, es, ep, t, g0, gx, gd, good, ?_, fun k => ?_, R.few, R.fit, rfl, R.way⟩
  · refine List.pairwise_map.mpr (R.one.imp_of_mem fun {e f} he hf h q => ?_)
    exact h (keyOf e) ((good_is (good e he) _).2 rfl) ((good_is (good f hf) _).2 q.symm)
  · rw [decide_eq_true_eq, ← mem k]
    exact (good_mem good k).symm
theorem cr_setI (hc : X.calm = true) : CallR X (.type "set") (rSetI X.K X.w) := by
  intro pins s σ H xs us Q I r h
  obtain ⟨l, ks, rfl, hl, hz, q⟩ := h
  rw [Vals.ref1 r]
  obtain ⟨its, rv, pl, _⟩ := I.list hl
  have len := rv.length
  rw [List.length_map] at len
  have hn : H s.heap.objs.size = none := I.hok.fresh (Nat.le_refl _)
  refine set_of_list (P := X.prog) (w := X.w) (knd := PySem.intKind X.prog X.w) ks (I.ok.hd hc) pl.isList (by simpa using len) (by simpa using len ▸ hz) (fun i v e => ints_key rv.ints i v (by simpa using e)) fun h' tk U k => ?_
  obtain ⟨es, t, R, mem, few⟩ := U
  have mem2 : ∀ k, Has (PySem.intKind X.prog X.w) es k ↔ k ∈ ks := fun k => by rw [mem k, List.take_of_length_le (by simp [len])]
  exact ⟨.ref s.heap.objs.size, upd H s.heap.objs.size (SetO X.w s.heap.objs.size _ es.size), I.laid (t' := tk) k (Nat.le_refl _) (setO_new (row_ints R mem2)), rfl, q _ _ hn (by simpa [len] using few)⟩
/-- sorted(a set of texts), fewer than 64 -/
def rSortedX (P : Program) (w : World) : List V → Hp → VK → Prop := fun vs H Q => ∃ (a : Addr) (ks : List Str), vs = [V.ref a] ∧ H a = some (SetX P w a ks) ∧ ks.length < 64 ∧
  ∀ (ys : List Str) (p : Addr), sortedS ys = true → ys.Nodup → (∀ k, k ∈ ys ↔ k ∈ ks) → ys.length ≤ ks.length → H p = none → Q (.ref p) (upd H p (.lst (ys.map V.str)))
theorem cr_sortedX (hc : X.calm = true) : CallR X (.builtin "sorted") (rSortedX X.prog X.w) := by
  intro pins s σ H vs us Q I r h
  obtain ⟨a, ks, rfl, ha, hz, q⟩ := h
  obtain ⟨es, t, R, mem, few⟩ := (I.hok a _ ha).1
  rw [Vals.ref1 r]
  refine sorted_txts R (I.ok.hd hc) (by omega) fun s' p out c ys k g o hp hg so srt nd my => ?_
  have sub : ys.length ≤ ks.length := nodup_len nd fun y hy => (mem y).mp ((my y).mp hy)
  have hn : H p = none := I.hok.fresh hp
  have J : Inv X pins σ (upd H p (.lst (ys.map V.str))) { s with heap := s'.heap, gens := s'.gens, drawn := s'.drawn, toks := s'.toks } :=
    I.call (ch := []) (Un.laid k hp hn) (I.hok.laid k hp ⟨by rw [List.length_map, sizeLine_eq]; omega, out.toList, c, vals_of_strs so, hg⟩) (by rw [g]; exact I.bare) (fun _ z => nomatch z)
  rw [all_but o]
  exact ⟨.ref p, _, J, rfl, q ys p srt nd (fun k => (my k).trans (mem k)) sub hn⟩
end
end XT

set_option Elab.async false
set_option maxRecDepth 100000
set_option maxHeartbeats 2000000
set_option linter.all false
/-! list(range(a, b)) with bounds of any size. -/
namespace XR
open PySem PySem.Spec PyProof.Rows L2
section
variable {P : Program} {w : World} {A : Around} {E : Value → Shared → Prop} {s : Shared} {r : Addr} {a b c : Int} {t u v : Tok} {n : Nat}
/-- what is left of a range in a list -/
def Out (a c : Int) (n : Nat) (acc : Array Value) : Prop := ItemsOf (fun i v => ∃ t, v = .int (a + i * c) t) acc n
abbrev itObj (a b c : Int) : Obj := { cls := .type "longrange_iterator", data := .fields #[rawInt a, rawInt (Builtin.Range.rangeSize a b c), rawInt c] }
theorem grow_great {R : Result → Shared → Prop} (hh : A.handled = none) (hr : IsRange s.heap r a b c t u v) (big : Builtin.Range.small a b c = false) (hn : Builtin.Range.rangeSize a b c = n) (hz : n ≤ 2 ^ 24) (S : Addr) (res : Value) (k0 : Nat)
    (gS : s.heap.get? S = some { cls := .type "list", data := .seq #[] k0 })
    (fin : ∀ h' tk acc k', (∀ b o, b ≠ S → s.heap.get? b = some o → h'.get? b = some o) → h'.get? S = some { cls := .type "list", dict := none, data := .seq acc k', slots := #[] } → Out a c n acc → R (.ok (.ret res)) { s with heap := h', toks := tk }) :
    wpAny (model P w) A.in1 (Builtin.List.listExtendWith (.ref S) (.ref r) res) (fun f s' => match f with | .done f => R (.ok f) s' | .again c' => c'.quiet = true ∧ codeAny (model P w) A c' R s') (fun e s' => R (.error e) s') s := by
  have ne : S ≠ r := by
    rintro rfl
    have q : s.heap.get? S = some _ := hr
    rw [gS] at q
    simp at q
  have lt : S < s.heap.objs.size := Heap.lt_size gS
  have neI : S ≠ s.heap.objs.size := Nat.ne_of_lt lt
  have loop : ∀ (h : Heap) (k1 tk : Nat), IsLongIter h s.heap.objs.size (a + ((0 : Nat) : Int) * c) ((n : Int) - ((0 : Nat) : Int)) c → (∀ b o, b ≠ S → s.heap.get? b = some o → h.get? b = some o) → h.get? S = some { cls := .type "list", data := .seq #[] k1 } →
      codeAny (model P w) A (.builtin "list.extend.loop" ⟨[.ref S, .ref s.heap.objs.size, res], []⟩) R { s with heap := h, toks := tk } := fun h k1 tk it up gS1 =>
    codeAny_extend_loopS (Walks.longrange (prog := P) (w := w) (A := A.in1) hh s.heap.objs.size a c n).toS (by rw [sizeLine_eq]; omega) S (fun z => neI (List.mem_singleton.mp z)) res n 0 _ #[] k1 rfl (Nat.zero_le _) it gS1 (ItemsOf.nil _) fun s' acc k' mv g' out => by
      rw [Moved.eq_with mv]
      refine fin s'.heap s'.toks acc k' (fun b o hb e => mv.heap b o (fun z => ?_) (up b o hb e)) g' out
      rcases List.mem_cons.mp z with z | z
      · exact hb z
      · exact Nat.lt_irrefl _ (List.mem_singleton.mp z ▸ Heap.lt_size e)
  unfold Builtin.List.listExtendWith
  refine wpAny_bind (wpAny_typeOf (T := "range") ⟨_, hr, rfl⟩ ?_)
  have c1 : Builtin.List.listSameRef (.ref S) (.ref r) = false := by simp [Builtin.List.listSameRef, ne]
  have c2 : (Value.type "range" == Value.type "list") = false := by decide
  have c3 : (Value.type "range" == Value.type "tuple") = false := by decide
  simp only [c1, c2, c3, Bool.or_false, Bool.false_eq_true, if_false]
  refine wpAny_bind (wpAny_pyIter_longrange hr big (wpAny_bind (wpAny_holding (wpAny_hint_range (n := n) (Heap.get?_push_of_some _ hr) hn hz ?_))))
  have it1 : IsLongIter (s.heap.push (itObj a b c)) s.heap.objs.size (a + ((0 : Nat) : Int) * c) ((n : Int) - ((0 : Nat) : Int)) c := by
    have q : (s.heap.push (itObj a b c)).get? s.heap.objs.size = some (itObj a b c) := Heap.get?_push_size _ rfl
    show _ = some _
    rw [q]
    unfold itObj
    rw [hn]
    simp
  have gS1 := Heap.get?_push_of_some (itObj a b c) gS
  refine wpAny_ite_split (fun _ => ?_) fun _ => wpAny_pure ⟨plainId_quiet F.plain_extend_loop _, loop _ k0 _ it1 (fun b o _ e => Heap.get?_push_of_some _ e) gS1⟩
  refine wpAny_bind (wpAny_rule (wpAny_bind ?_))
  show wpAny (model P w) _ (updateSeq S (·.push .none) >>= fun _ => updateSeq S (·.pop)) _ _ _
  refine wpAny_bind (wpAny_updateSeq gS1 rfl ?_)
  have gS2 := Heap.get?_update_self (Obj.mapSeq (·.push Value.none)) gS1 rfl
  refine wpAny_updateSeq (hz := by seq_fits) gS2 rfl (wpAny_pure ⟨plainId_quiet F.plain_extend_loop _, loop _ _ _ ?_ (fun b o hb e => ?_) (Heap.get?_update_self (Obj.mapSeq (·.pop)) gS2 rfl)⟩)
  · exact (Heap.get?_update_other _ _ neI).trans ((Heap.get?_update_other _ _ neI).trans it1)
  · exact (Heap.get?_update_other _ _ (Ne.symm hb)).trans ((Heap.get?_update_other _ _ (Ne.symm hb)).trans (Heap.get?_push_of_some _ e))
theorem list_great {Q : Value → Shared → Prop} (hh : A.handled = none) (hr : IsRange s.heap r a b c t u v) (big : Builtin.Range.small a b c = false) (hn : Builtin.Range.rangeSize a b c = n) (hz : n ≤ 2 ^ 24)
    (fin : ∀ h' tk acc k', (∀ b o, s.heap.get? b = some o → h'.get? b = some o) → h'.get? s.heap.objs.size = some { cls := .type "list", dict := none, data := .seq acc k', slots := #[] } → Out a c n acc → Q (.ref s.heap.objs.size) { s with heap := h', toks := tk }) :
    wpAny (model P w) A (call (.type "list") [.ref r]) Q E s := by
  refine callType_codes (Q₁ := fun o s1 => o = .ref s.heap.objs.size ∧ s1 = { s with heap := s.heap.push { cls := .type "list", data := .seq #[] } }) F.called_list (F.typeCall_list_1 _) F.entry_list_init (code_list_new _ ⟨rfl, rfl⟩) fun o s1 hs => ?_
  obtain ⟨rfl, rfl⟩ := hs
  have gS : (s.heap.push { cls := .type "list", data := .seq #[] }).get? s.heap.objs.size = some { cls := .type "list", data := .seq #[] } := Heap.get?_push_size _ rfl
  have ne : s.heap.objs.size ≠ r := Nat.ne_of_gt (Heap.lt_size hr)
  refine ⟨⟨_, gS, rfl⟩, F.args_list_init_2 _ _, ?_⟩
  show wpAny _ _ (do let old ← Builtin.List.listItems (.ref s.heap.objs.size); Builtin.List.listUpdate (.ref s.heap.objs.size) (fun _ => #[]); letGo old.toList.reverse; Builtin.List.listExtendWith (.ref s.heap.objs.size) (.ref r) .none) _ _ _
  refine wpAny_bind ?_
  unfold Builtin.List.listItems
  refine wpAny_bind (wpAny_seqItems gS rfl (wpAny_pure ?_))
  show wpAny _ _ (updateSeq s.heap.objs.size (fun _ => #[]) >>= fun _ => letGo (#[] : Array Value).toList.reverse >>= fun _ => Builtin.List.listExtendWith (.ref s.heap.objs.size) (.ref r) .none) _ _ _
  refine wpAny_bind (wpAny_updateSeq gS rfl (wpAny_bind (wpAny_letGo ?_)))
  have gS2 := Heap.get?_update_self (Obj.mapSeq (fun _ => (#[] : Array Value))) gS rfl
  have up : ∀ b o, b ≠ s.heap.objs.size → s.heap.get? b = some o → ((s.heap.push { cls := .type "list", data := .seq #[] }).update s.heap.objs.size (Obj.mapSeq (fun _ => (#[] : Array Value)))).get? b = some o :=
    fun b o hb e => (Heap.get?_update_other _ _ (Ne.symm hb)).trans (Heap.get?_push_of_some _ e)
  refine grow_great (A := A.in1) hh (up r _ (Ne.symm ne) hr) big hn hz _ .none _ gS2 fun h' tk acc k' kp g out => ?_
  exact ⟨rfl, fin h' tk acc k' (fun b o e => kp b o (Nat.ne_of_lt (Heap.lt_size e)) (up b o (Nat.ne_of_lt (Heap.lt_size e)) e)) g out⟩
end
section
variable {X : Cx} {e : Expr} {te : L2.St → Hp → (Int → Int → Hp → Prop) → Prop}
/-- list(range(a, b)), few items -/
def tLstAny (te : L2.St → Hp → (Int → Int → Hp → Prop) → Prop) : TE := fun σ H Q => te σ H fun a b H1 => (b - a).toNat ≤ 2 ^ 24 ∧ ∀ q, H1 q = none → Q (.ref q) (upd H1 q (.lst (rgV a b)))
theorem pe_listAny {p pos : Pos} (hc : X.calm = true) (hg : Gl X "list") (hm : X.mg "list" = none) (he : PRg X e te) (na : starEach [e] X.env = (false, eval e X.env) :: starEach [] X.env := by rfl) : PE X (.Call (.Name "list" p) [e] [] pos) (tLstAny te) := by
  constructor
  intro pins s σ H Q I h
  refine Call_ (ld_blt I hg hm boot_list (PyProof.Rows.callWith_type1 (args_cons (thn (he pins s σ H _ I h) fun x s1 ⟨r, a, b, t, u, v, H1, ex, hr, I1, few, q⟩ => args_nil ?_) na) na))
  subst ex
  have end_ : ∀ (h' : Heap) (tk : Nat) (acc : Array Value) (k' : Nat), (∀ b o, s1.heap.get? b = some o → h'.get? b = some o) → h'.get? s1.heap.objs.size = some { cls := .type "list", dict := none, data := .seq acc k', slots := #[] } →
      Out a 1 (b - a).toNat acc → EP X pins σ Q (.ref s1.heap.objs.size) { s1 with heap := h', toks := tk } := fun h' tk acc k' kp g out => by
    refine ⟨.ref s1.heap.objs.size, upd H1 s1.heap.objs.size (.lst (rgV a b)), I1.laid kp (Nat.le_refl _) (show ObjOk X.prog X.w _ _ _ (.lst (rgV a b)) from ⟨?_, acc.toList, k', vals_rg out, ?_⟩), rfl, q _ (I1.hok.fresh (Nat.le_refl _))⟩
    · rw [rgV_length, sizeLine_eq]
      omega
    · rw [Array.toArray_toList]
      exact g
  cases hs : Builtin.Range.small a b 1 with
  | true => exact call_list_range (n := (b - a).toNat) (I1.ok.hd hc) hr hs (rangeSize_nat a b) few end_
  | false => exact list_great (n := (b - a).toNat) (I1.ok.hd hc) hr hs (rangeSize_nat a b) few end_
end
end XR

set_option Elab.async false
set_option maxRecDepth 100000
set_option maxHeartbeats 2000000
set_option linter.all false
/-! Operators and built-ins that an instance answers by its own methods. -/
namespace XL
open PySem PySem.Spec PyProof.Rows L2
/-- the method of that name of C's instances is the def at g -/
structure Own (K : PySem.W.Frag) (C : Addr) (name : Str) (g : Addr) : Prop where
  at_ : PySem.W.findIn K (.ref C) name = some (some (.ref g))
  fn : PySem.W.isFn K (.ref g) = true
section
variable {X : Cx} {CX : CXT} {k : Nat} {C g : Addr} {sp : Sp} {E : XK} {pins : List (Addr × Obj)} {σ : L2.St} {H : Hp} {s : Shared}
theorem run_at {A : Around} {us : List Value} {vs : List V} {Q : VK} (F : FnR X.prog X.w X.K X.mg X.base CX k g sp) (hr : Room k A) (hx : Passes CX X E) (I : Inv X pins σ H s) (e0 : Env0 X.prog X.w X.K X.mg X.base A X.stack s H) (r : Vals vs us) (h : sp vs H Q E) :
    wpAny (model X.prog X.w) A (call (.ref g) us) (EP X pins σ Q) X.xe s := by
  refine wpAny_call (codeAny_mono (F A X.stack s H us vs Q E hr e0 r h) fun r s' hq => ?_)
  cases r with
  | error e => exact hx pins σ H s e s' I hq
  | ok fl =>
    cases fl with
    | ret u => exact I.after hq
    | next => exact False.elim hq
    | brk => exact False.elim hq
    | cont => exact False.elim hq
theorem ra (a : Addr) : RelV (.ref a) (.ref a) := rfl
/-! in -/
def rInO (X : Cx) (C : Addr) (sp : Sp) (E : XK) : R2 := fun x y H Q => ∃ a, y = .ref a ∧ StX.InsC X H a C ∧ sp [.ref a, x] H (fun v H' => ∃ b, v = .bl b ∧ Q (.bl b) H') E
theorem op_in_own (c : Own X.K C "__contains__" g) (F : FnR X.prog X.w X.K X.mg X.base CX k g sp) (hr : Room k X.A) (hx : Passes CX X E) : OpR X (compareOp .In) (rInO X C sp E) := by
  intro pins s σ H x y v u Q I rx ry h
  obtain ⟨a, ey, hi, h⟩ := h
  subst ey
  obtain rfl : u = Value.ref a := ry
  obtain ⟨ox, od, J, _⟩ := StX.insC_at I hi
  obtain ⟨m, hF⟩ := I.fr
  refine PySem.W.in_K hF I.ok.mod.kin J c.at_ c.fn ?_
  refine wpAny_mono (run_at F hr hx I I.env0 (.cons (ra a) (.cons rx .nil)) h) (fun r s' hq => ?_) fun _ _ z => z
  obtain ⟨v', H', I', rv, b, ev, q⟩ := hq
  subst ev
  cases rv
  exact wpAny_truthy_bool ⟨.bl b, H', I', rfl, q⟩
/-! a operator whose left side's class answers, the right side of the same class -/
def rBinO (X : Cx) (C : Addr) (sp : Sp) (E : XK) : R2 := fun x y H Q => ∃ a b, x = .ref a ∧ y = .ref b ∧ StX.InsC X H a C ∧ StX.InsC X H b C ∧ sp [.ref a, .ref b] H Q E
theorem back_of {Q : VK} {r : Value} {s' : Shared} (h : EP X pins σ Q r s') : PySem.W.CmpBack (EP X pins σ Q) r s' := by
  obtain ⟨v, H', I', rv, q⟩ := h
  have z : EP X pins σ Q r s' := ⟨v, H', I', rv, q⟩
  unfold PySem.W.CmpBack
  split
  · cases v <;> first | (obtain ⟨t, e⟩ := rv; cases e) | cases rv
  · exact z
theorem op_bin_own {op : Operator} (hc : PySem.W.selfFirst X.K C = true) (c : Own X.K C (PySem.dunder op.info.2) g) (F : FnR X.prog X.w X.K X.mg X.base CX k g sp) (hr : Room k X.A) (hx : Passes CX X E) : OpR X (binaryOp op) (rBinO X C sp E) := by
  intro pins s σ H x y v u Q I rx ry h
  obtain ⟨a, b, ex, ey, hi, hj, h⟩ := h
  subst ex; subst ey
  obtain rfl : v = Value.ref a := rx
  obtain rfl : u = Value.ref b := ry
  obtain ⟨ox, od, J, _⟩ := StX.insC_at I hi
  obtain ⟨ox', od', J', _⟩ := StX.insC_at I hj
  obtain ⟨m, hF⟩ := I.fr
  refine PySem.W.binop_K hF I.ok.mod.kin J J'.type hc c.at_ c.fn ?_
  exact wpAny_mono (run_at F hr hx I I.env0 (.cons (ra a) (.cons (ra b) .nil)) h) (fun r s' hq => back_of hq) fun _ _ z => z
/-! == -/
/-- what type the model finds of a value -/
def LooksT (X : Cx) (H : Hp) (y : V) (t : Value) : Prop := ∀ (pins : List (Addr × Obj)) (σ : L2.St) (s : Shared) (u : Value), Inv X pins σ H s → RelV y u → PySem.W.Looks (model X.prog X.w) s.heap (typeOf u) t
theorem lt_ins {a : Addr} (h : StX.InsC X H a C) : LooksT X H (.ref a) (.ref C) := fun pins σ s u I r => by
  obtain rfl : u = Value.ref a := r
  obtain ⟨ox, od, J, _⟩ := StX.insC_at I h
  exact J.type
theorem lt_int {i : Int} : LooksT X H (.int i) (.type "int") := fun pins σ s u I r => by
  obtain ⟨t, rfl⟩ := r
  exact PySem.W.Looks.of_pure rfl
theorem lt_tup {a : Addr} {xs : List V} (h : SqT X.K H a xs) : LooksT X H (.ref a) (.type "tuple") := fun pins σ s u I r => by
  obtain rfl : u = Value.ref a := r
  obtain ⟨its, r, ⟨o, ho, hc, _⟩, z⟩ := I.tuple h
  exact hc ▸ (PySem.W.Looks.ld (part := none) ho).andThen .now
def rEqO (X : Cx) (C : Addr) (sp : Sp) (E : XK) : R2 := fun x y H Q => ∃ a t, x = .ref a ∧ StX.InsC X H a C ∧ LooksT X H y t ∧ PySem.W.notFirst X.K C t = true ∧ sp [.ref a, y] H Q E
theorem op_eq_own (hu : X.A.units < cLine) (c : Own X.K C "__eq__" g) (F : FnR X.prog X.w X.K X.mg X.base CX k g sp) (hr : Room k X.A) (hx : Passes CX X E) : OpR X (compareOp .Eq) (rEqO X C sp E) := by
  intro pins s σ H x y v u Q I rx ry h
  obtain ⟨a, t, ex, hi, hl, hn, h⟩ := h
  subst ex
  obtain rfl : v = Value.ref a := rx
  obtain ⟨ox, od, J, _⟩ := StX.insC_at I hi
  obtain ⟨m, hF⟩ := I.fr
  refine PySem.W.cmp_K (op := .Eq) hu hF I.ok.mod.kin J (hl pins σ s u I ry) hn c.at_ c.fn ?_
  exact wpAny_mono (run_at F hr hx I I.env0 (.cons (ra a) (.cons ry .nil)) h) (fun r s' hq => back_of hq) fun _ _ z => z
/-! len -/
theorem call_len_own (c : Own X.K C "__len__" g) (F : FnR X.prog X.w X.K X.mg X.base CX k g sp) (hr : Room (k + 1) X.A) (hx : Passes CX X E) :
    CallR X (.builtin "len") (fun xs H Q => ∃ a, xs = [.ref a] ∧ StX.InsC X H a C ∧ sp [.ref a] H (fun v H' => ∃ n : Int, v = .int n ∧ 0 ≤ n ∧ n < 2 ^ 63 ∧ Q (.int n) H') E) := by
  intro pins s σ H xs us Q I r h
  obtain ⟨a, rfl, hi, h⟩ := h
  obtain ⟨u, rfl, rx⟩ := vals1 r
  obtain rfl : u = Value.ref a := rx
  obtain ⟨ox, od, J, _⟩ := StX.insC_at I hi
  obtain ⟨m, hF⟩ := I.fr
  refine PySem.W.len_K hF I.ok.mod.kin J c.at_ c.fn ?_
  refine wpAny_mono (run_at F hr.in1 hx I I.env0.in1 (.cons (ra a) .nil) h) (fun r s' hq => ?_) fun _ _ z => z
  obtain ⟨v, H', I', rv, n, ev, n0, n1, q⟩ := hq
  subst ev
  obtain ⟨t, rfl⟩ := rv
  exact ⟨⟨n0, n1⟩, .int n, H', I'.tok _, ⟨_, rfl⟩, q⟩
/-! str -/
theorem call_str_own (hu : X.A.in1.in1.units < cLine) (c : Own X.K C "__str__" g) (F : FnR X.prog X.w X.K X.mg X.base CX k g sp) (hr : Room (k + 2) X.A) (hx : Passes CX X E) :
    CallR X (.type "str") (fun xs H Q => ∃ a, xs = [.ref a] ∧ StX.InsC X H a C ∧ sp [.ref a] H (fun v H' => ∃ z : Str, v = .str z ∧ Q (.str z) H') E) := by
  intro pins s σ H xs us Q I r h
  obtain ⟨a, rfl, hi, h⟩ := h
  obtain ⟨u, rfl, rx⟩ := vals1 r
  obtain rfl : u = Value.ref a := rx
  obtain ⟨ox, od, J, _⟩ := StX.insC_at I hi
  refine PySem.W.kso_call hu I.kIn J c.at_ c.fn ?_
  refine wpAny_mono (run_at F hr.in1.in1 hx I I.env0.in1.in1 (.cons (ra a) .nil) h) (fun r s' hq => ?_) fun _ _ z => z
  obtain ⟨v, H', I', rv, z, ev, q⟩ := hq
  subst ev
  obtain ⟨t, rfl⟩ := rv
  exact ⟨.str z, H', I', ⟨_, rfl⟩, q⟩
/-! == of types -/
def metaIn (K : PySem.W.Frag) (C : Addr) : Bool := match K.lookup C with
  | some o => o.cls == .type "type"
  | none => false
theorem meta_at (hC : metaIn X.K C = true) (I : Inv X pins σ H s) : s.TypeIs (.ref C) "type" := by
  unfold metaIn at hC
  split at hC
  · rename_i o e
    exact ⟨o, I.kIn _ _ e, beq_iff_eq.mp hC⟩
  · cases hC
theorem same_rt {n : String} : isSame (.ref C) (.type n) = pure false := by rfl
theorem same_tr {n : String} : isSame (.type n) (.ref C) = pure false := by rfl
theorem obj_eq_no {a b : Value} (h : isSame a b = pure false) : Gives (Builtin.«object.__eq__» ⟨[a, b], []⟩) (.val .notImplemented) :=
  .of_eq (by simp [Builtin.«object.__eq__», slotArgs, h, Made.tree])
theorem eq_cls_int {M : Type} {Q : Value → Shared → Prop} {E' : Value → Shared → Prop} {A : Around} (hu : A.units < cLine) (hs : s.TypeIs (.ref C) "type") (h : Q (.bool false) s) :
    wpAny (model X.prog X.w) A (compareOp .Eq (.ref C) (.type "int")) Q E' s := by
  show wpAny _ A (richCompare .Eq _ _) Q E' s
  have h1 := PySem.TypeEq.slot_type_eq
  have h2 := PySem.TypeEq.slot_type_eq_refl
  have one : wpAny (model X.prog X.w) A (call (.builtin "object.__eq__") [.ref C, .type "int"]) (fun v s₁ => v = .notImplemented ∧ s₁ = s) E' s :=
    call_gives h1 hs F.entry_object_eq (F.args_object_eq_2 _ _) (obj_eq_no same_rt) ⟨rfl, rfl⟩
  have two : wpAny (model X.prog X.w) A (call (.builtin "object.__eq__") [.type "int", .ref C]) (fun v s₁ => v = .notImplemented ∧ s₁ = s) E' s :=
    call_gives h2 (PySem.TypeEq.meta_int s) F.entry_object_eq (F.args_object_eq_2 _ _) (obj_eq_no same_tr) ⟨rfl, rfl⟩
  rcases hi : cmpInfo CmpOp.Eq with ⟨sym, f, r⟩
  rw [hi] at h1 h2
  simp only [richCompare, hi, oneThing_ref]
  try with_reducible refine wpAny_holding ?_
  refine wpAny_bind (wpAny_cRoomFor hu ?_)
  refine wpAny_bind (wpAny_typeOf hs (wpAny_bind (wpAny_typeOf (PySem.TypeEq.meta_int s) ?_)))
  simp only [bne_self_eq_false, Bool.false_eq_true, if_false, pure_bind, Bool.not_false, if_true]
  refine wpAny_bind (m := tryCompare (.ref C) _ (.type "int")) (wpAny_tryCompare_declines hs h1 (wpAny_mono one (fun v s₁ h₁ => ⟨h₁.1, ?_⟩) fun _ _ x => x))
  obtain ⟨_, rfl⟩ := h₁
  refine wpAny_bind (m := tryCompare (.type "int") _ (.ref C)) (wpAny_tryCompare_declines (PySem.TypeEq.meta_int s₁) h2 (wpAny_mono two (fun v s₂ h₂ => ⟨h₂.1, ?_⟩) fun _ _ x => x))
  obtain ⟨_, rfl⟩ := h₂
  exact wpAny_bind (wpAny_rule (wpAny_bind (wpAny_of_eq same_rt (wpAny_pure h))))
inductive Meta : String → Prop
  | int : Meta "int"
  | str : Meta "str"
  | bool : Meta "bool"
  | non : Meta "NoneType"
  | tup : Meta "tuple"
  | lst : Meta "list"
theorem Meta.is {n : String} (m : Meta n) (s' : Shared) : s'.TypeIs (.type n) "type" := by
  cases m
  · exact PySem.TypeEq.meta_int s'
  · exact PySem.TypeEq.meta_str s'
  · exact PySem.TypeEq.meta_bool s'
  · exact PySem.TypeEq.meta_NoneType s'
  · exact PySem.TypeEq.meta_tuple s'
  · exact PySem.TypeEq.meta_list s'
/-- type == int -/
def rTyI (X : Cx) : R2 := fun x y H Q => y = .ty "int" ∧ ((∃ a, x = .ty a ∧ Meta a ∧ Q (.bl (decide (a = "int"))) H) ∨ ∃ C, x = .ref C ∧ metaIn X.K C = true ∧ Q (.bl false) H)
theorem op_eq_tyI (hu : X.A.units < cLine) : OpR X (compareOp .Eq) (rTyI X) := by
  intro pins s σ H x y v u Q I rx ry h
  obtain ⟨rfl, h⟩ := h
  obtain rfl : u = Value.type "int" := ry
  rcases h with ⟨a, rfl, m, q⟩ | ⟨C, rfl, m, q⟩
  · obtain rfl : v = Value.type a := rx
    by_cases e : a = "int"
    · have q2 : Q (.bl true) H := decide_eq_true e ▸ q
      have z : EP X pins σ Q (Value.bool true) s := ⟨.bl true, H, I, (show RelV (.bl true) (Value.bool true) from rfl), q2⟩
      have e2 : Value.type a = Value.type "int" := congrArg Value.type e
      rw [e2]
      exact PySem.TypeEq.eq_type_same (X := "int") PySem.TypeEq.meta_int z
    · have q2 : Q (.bl false) H := decide_eq_false e ▸ q
      have z : EP X pins σ Q (Value.bool false) s := ⟨.bl false, H, I, (show RelV (.bl false) (Value.bool false) from rfl), q2⟩
      refine PySem.TypeEq.eq_type_other (X := a) (Y := "int") (fun s' => m.is s') PySem.TypeEq.meta_int ?_ z
      rw [ty_beq]
      exact decide_eq_false e
  · obtain rfl : v = Value.ref C := rx
    exact eq_cls_int (M := Unit) hu (meta_at m I) ⟨.bl false, H, I, rfl, q⟩
/-! != by the own == -/
theorem slot_type_ne : Slot "type" (cmpInfo .NotEq).2.1 "object.__ne__" :=
  .of (owner := "object") (n := "__ne__") (by rw [typeLookup_type, builtinLookup_eq_fast]; kernel_rfl) (by decide +kernel) (by decide +kernel) (by decide +kernel)
    (by first | exact .inl (by decide +kernel) | exact .inr (by decide +kernel)) (by rw [isSubtype_type]; kernel_rfl)
structure OwnNe (K : PySem.W.Frag) (C : Addr) : Prop where
  at_ : PySem.W.findIn K (.ref C) "__ne__" = some (some (.builtin "object.__ne__"))
  obj : PySem.W.subIn K (.ref C) (.type "object") = some true
theorem ne_body {P : Program} {w : World} {K : PySem.W.Frag} {A : Around} {E' : Value → Shared → Prop} {s : Shared} {a f : Addr} {ox : Obj} {od : Option Obj} {y : Value} {Q : Fin → Shared → Prop} (KX : K.In s.heap) (J : PySem.W.InstAt s.heap a ox C od)
    (hs : PySem.W.findIn K (.ref C) "__eq__" = some (some (.ref f))) (hf : PySem.W.isFn K (.ref f) = true) (hu : A.units < cLine)
    (hcall : wpAny (model P w) A (call (.ref f) [.ref a, y]) (fun v s' => ∃ b, v = .bool b ∧ Q (.done (.ret (.bool (!b)))) s') E' s) : wpAny (model P w) A (Builtin.«object.__ne__» ⟨[.ref a, y], []⟩) Q E' s := by
  unfold Builtin.«object.__ne__»
  have key : ∀ {Q2 : Option Value → Shared → Prop}, (∀ b s', Q (.done (.ret (.bool (!b)))) s' → Q2 (some (.bool b)) s') → wpAny (model P w) A (callSpecialIfBound? (.ref a) (Str.ofString "__eq__") [y]) Q2 E' s := fun k =>
    PySem.W.ifBound_K KX J hs hf (wpAny_mono hcall (fun r s' hr => by
      obtain ⟨b, rfl, hq⟩ := hr
      exact k b s' hq) fun _ _ e => e)
  obtain ⟨hh, g, d, t, os⟩ := s
  repeat (first
    | with_reducible refine wpAny_cRoomFor hu ?_
    | (refine wpAny_bind (m := callSpecialIfBound? (.ref a) (Str.ofString "__eq__") [y]) (key fun b s' hq => ?_)
       repeat (first | exact hq | exact wpAny_pure hq | exact wpAny_truthy_bool hq | (refine wpAny_bind (m := truthy (.bool _)) (wpAny_truthy_bool ?_)) | wp_step))
    | wp_step)
def rNeO (X : Cx) (C : Addr) (sp : Sp) (E : XK) : R2 := fun x y H Q => ∃ a t, x = .ref a ∧ StX.InsC X H a C ∧ LooksT X H y t ∧ PySem.W.notFirst X.K C t = true ∧ sp [.ref a, y] H (fun v H' => ∃ b, v = .bl b ∧ Q (.bl (!b)) H') E
theorem op_ne_own (hu : X.A.units < cLine) (hu1 : X.A.in1.units < cLine) (n : OwnNe X.K C) (c : Own X.K C "__eq__" g) (F : FnR X.prog X.w X.K X.mg X.base CX k g sp) (hr : Room (k + 1) X.A) (hx : Passes CX X E) : OpR X (compareOp .NotEq) (rNeO X C sp E) := by
  intro pins s σ H x y v u Q I rx ry h
  obtain ⟨a, t, ex, hi, hl, hn, h⟩ := h
  subst ex
  obtain rfl : v = Value.ref a := rx
  obtain ⟨ox, od, J, _⟩ := StX.insC_at I hi
  have KX := I.kIn
  have Lb := hl pins σ s u I ry
  show wpAny (model X.prog X.w) X.A (richCompare .NotEq (.ref a) u) (EP X pins σ Q) X.xe s
  have body : wpAny (model X.prog X.w) X.A.in1 (Builtin.«object.__ne__» ⟨[.ref a, u], []⟩) (fun fin s' => ∃ v, fin = .done (.ret v) ∧ ∃ b, v = .bool b ∧ EP X pins σ Q v s') X.xe s := by
    refine ne_body KX J c.at_ c.fn hu1 (wpAny_mono (run_at F hr.in1 hx I I.env0.in1 (.cons (ra a) (.cons ry .nil)) h) (fun r s' hq => ?_) fun _ _ z => z)
    obtain ⟨v', H', I', rv, b, ev, q⟩ := hq
    subst ev
    cases rv
    exact ⟨b, rfl, _, rfl, _, rfl, .bl (!b), H', I', rfl, q⟩
  have one : wpAny (model X.prog X.w) X.A (tryCompare (.ref a) (cmpInfo .NotEq).2.1 u) (fun r s' => ∃ v, r = some v ∧ EP X pins σ Q v s') X.xe s := by
    unfold tryCompare
    simp only [callSpecialIfBound?, bindSpecialIfBound?]
    refine wpAny_bind (wpAny_holding (wpAny_bind (wpAny_bind (wpAny_bind (J.type.here ((PySem.W.looks_findIn KX n.at_).here ?_))))))
    have fin : ∀ {first : List Value}, first = [.ref a] → wpAny (model X.prog X.w) X.A (call (.builtin "object.__ne__") (first ++ [u]) >>= fun v => pure (some v)) (fun r s' => wpAny (model X.prog X.w) X.A (match r with | some .notImplemented | none => pure none | some v => pure (some v)) (fun r s' => ∃ v, r = some v ∧ EP X pins σ Q v s') X.xe s') X.xe s := fun e => by
      subst e
      refine wpAny_bind (wpAny_mono (wpAny_call (codeAny_call_builtin slot_type_ne.plain PySem.F.cmpEntry_ne (PySem.W.check_slot PySem.F.cmpKind_ne PySem.F.cmpSplit_ne (J.type.andThen (PySem.W.looks_subIn KX n.obj)) (PySem.F.cmpArgs_ne _ _) (wpAny_mono body (fun fin s' h => ?_) fun _ _ z => z)))) (fun _ _ z => z) fun _ _ z => z)
      obtain ⟨v, rfl, b, rfl, hv⟩ := h
      exact wpAny_pure (wpAny_pure ⟨_, rfl, hv⟩)
    refine wpAny_bind (wpAny_askSetting (wpAny_ite ?_))
    split
    · rw [slot_type_ne.bind]
      exact wpAny_bind (wpAny_pure (wpAny_pure (fin rfl)))
    · rw [slot_type_ne.bind]
      exact wpAny_tryCatch (wpAny_bind (wpAny_pure (wpAny_pure (fin rfl))))
  unfold richCompare
  simp only [oneThing_ref]
  refine wpAny_holding (wpAny_bind (wpAny_cRoomFor hu ?_))
  refine wpAny_bind (J.type.here (wpAny_bind (Lb.here ?_)))
  split
  · rename_i q
    have e : PySem.W.subIn X.K t (.ref C) = some false := by
      rcases Bool.or_eq_true_iff.mp hn with e | e
      · rw [beq_iff_eq.mp e] at q
        simp at q
      · exact beq_iff_eq.mp e
    refine wpAny_bind ((PySem.W.looks_subIn KX e).here ?_)
    simp only [Bool.false_eq_true, if_false]
    refine wpAny_bind (wpAny_mono one (fun r s' z => ?_) fun _ _ e => e)
    obtain ⟨v, rfl, hq⟩ := z
    exact wpAny_pure hq
  · refine wpAny_bind (wpAny_pure ?_)
    simp only [Bool.false_eq_true, if_false]
    refine wpAny_bind (wpAny_mono one (fun r s' z => ?_) fun _ _ e => e)
    obtain ⟨v, rfl, hq⟩ := z
    exact wpAny_pure hq
/-! truth, bool -/
theorem truthy_len {P : Program} {w : World} {K : PySem.W.Frag} {A : Around} {E' : Value → Shared → Prop} {s : Shared} {a f : Addr} {ox : Obj} {od : Option Obj} {Q : Bool → Shared → Prop} (KX : K.In s.heap) (J : PySem.W.InstAt s.heap a ox C od)
    (hb : PySem.W.findIn K (.ref C) "__bool__" = some none) (hs : PySem.W.findIn K (.ref C) "__len__" = some (some (.ref f))) (hf : PySem.W.isFn K (.ref f) = true)
    (h : wpAny (model P w) A.in1 (call (.ref f) [.ref a]) (fun v s' => ∃ (n : Int) (t : Tok), v = .int n t ∧ 0 ≤ n ∧ n < 2 ^ 63 ∧ Q (n != 0) { s' with toks := s'.toks + 1 }) E' s) : wpAny (model P w) A (truthy (.ref a)) Q E' s := by
  have key : wpAny (model P w) A (runValue (.builtin "len" ⟨[.ref a], []⟩)) (fun r s' => ∃ n t, r = .int n t ∧ Q (n != 0) s') E' s := by
    refine wpAny_runValue (codeAny_builtin entry_len ?_)
    rw [Around.under_plainId plain_len _]
    unfold Builtin.«len»
    refine wpAny_bind (m := oneArg "len" _) (wpAny_pure ?_)
    refine wpAny_bind (m := callSpecial? (.ref a) (Str.ofString "__len__")) (PySem.W.special_fn KX J hs (beq_iff_eq.mp hf) (wpAny_mono h (fun r s' hr => ?_) fun _ _ y => y))
    obtain ⟨n, u, rfl, n0, n1, hq⟩ := hr
    refine wpAny_bind (wpAny_holding (wpAny_pure ?_))
    refine wpAny_bind (wpAny_letGo ?_)
    show wpAny _ _ (if n < 0 then _ else _) _ _ _
    rw [if_neg (by omega)]
    show wpAny _ _ (if n ≥ 2 ^ 63 then _ else _) _ _ _
    rw [if_neg (by omega)]
    exact wpAny_bind (wpAny_mkInt (wpAny_pure ⟨n, _, rfl, hq⟩))
  have hsp : ∀ {Q' : Option Value → Shared → Prop}, Q' (some (.ref f)) s → wpAny (model P w) A (specialOf (.ref a) "__len__") Q' E' s := fun q => by
    unfold specialOf
    exact wpAny_bind (J.type.here ((PySem.W.looks_findIn KX hs).here q))
  have tail : ∀ {Q' : Bool → Shared → Prop}, (∀ b s', Q b s' → Q' b s') → wpAny (model P w) A (runValue (.builtin "len" ⟨[.ref a], []⟩) >>= fun r => match r with | .int n _ => pure (n != 0) | _ => unsupported "internal:truth.len") Q' E' s := fun k =>
    wpAny_bind (wpAny_mono key (fun r s' h' => by obtain ⟨n, t, rfl, hq⟩ := h'; exact wpAny_pure (k _ _ hq)) fun _ _ e => e)
  unfold truthy
  first
    | refine wpAny_bind (DSub.special_no (name := Str.ofString "__bool__") KX J hb ?_)
    | refine wpAny_bind (wpAny_pure (wpAny_bind (DSub.special_no (name := Str.ofString "__bool__") KX J hb ?_)))
  first
    | refine wpAny_bind (hsp ?_)
    | refine wpAny_bind (wpAny_pure (wpAny_bind (hsp ?_)))
  first
    | exact tail fun _ _ h => h
    | exact wpAny_bind (wpAny_pure (tail fun _ _ h => h))
open Builtin Builtin.Str in
theorem call_bool_own (hb : PySem.W.findIn X.K (.ref C) "__bool__" = some none) (c : Own X.K C "__len__" g) (F : FnR X.prog X.w X.K X.mg X.base CX k g sp) (hr : Room (k + 3) X.A) (hx : Passes CX X E) :
    CallR X (.type "bool") (fun xs H Q => ∃ a, xs = [.ref a] ∧ StX.InsC X H a C ∧ sp [.ref a] H (fun v H' => ∃ n : Int, v = .int n ∧ 0 ≤ n ∧ n < 2 ^ 63 ∧ Q (.bl (n != 0)) H') E) := by
  intro pins s σ H xs us Q I r h
  obtain ⟨a, rfl, hi, h⟩ := h
  obtain ⟨u, rfl, rx⟩ := vals1 r
  obtain rfl : u = Value.ref a := rx
  obtain ⟨ox, od, J, _⟩ := StX.insC_at I hi
  refine callType_codes (T := "bool") (Bi := Builtin.«object.__init__») (Q₁ := fun r s₁ => ∃ y, r = .bool y ∧ EP X pins σ Q r s₁) PySem.F.called_bool (PySem.F.typeCall_bool_1 _) PySem.F.entry_object_init ?_ ?_
  · refine codeAny_of_tree ?_
    show wpAny _ X.A.in1.in1 (do checkBuiltinCall "bool.__new__" ⟨[.type "bool", .ref a], []⟩; again (.builtin "bool.__new__" ⟨[.type "bool", .ref a], []⟩)) _ _ s
    refine wpAny_bind (wpAny_of_eq (PySem.F.newCall_bool_1 _) (wpAny_pure ⟨plainId_quiet (by decide +kernel) _, codeAny_builtin PySem.F.entry_bool_new ?_⟩))
    rw [Around.under_plainId (by decide +kernel) _]
    have tru : wpAny (model X.prog X.w) X.A.in1.in1 (truthy (.ref a)) (fun b s' => EP X pins σ Q (.bool b) s') X.xe s := by
      refine truthy_len I.kIn J hb c.at_ c.fn (wpAny_mono (run_at F hr.in1.in1.in1 hx I I.env0.in1.in1.in1 (.cons (ra a) .nil) h) (fun r s' hq => ?_) fun _ _ z => z)
      obtain ⟨v, H', I', rv, n, ev, n0, n1, q⟩ := hq
      subst ev
      obtain ⟨t, rfl⟩ := rv
      exact ⟨n, t, rfl, n0, n1, .bl (n != 0), H', I'.tok _, rfl, q⟩
    have f1 := PySem.F.conv_sub_bool
    unfold Builtin.«bool.__new__»
    refine wpAny_bind (wpAny_pure ?_)
    refine wpAny_bind (wpAny_of_eq f1 ?_)
    refine wpAny_bind (wpAny_pure ?_)
    exact wpAny_bind (wpAny_mono tru (fun b s' hq => wpAny_pure ⟨_, rfl, hq⟩) fun _ _ z => z)
  · rintro obj s₁ ⟨y, rfl, hq⟩
    exact ⟨rfl, PySem.F.args_object_init_2 _ _, object_init_meets PySem.F.called_bool.init.lookup PySem.F.called_bool.made (by decide) X.prog X.w X.A.in1 _ s₁ ⟨rfl, rfl, hq⟩⟩
end
/-! making an instance by its class: C(), C(*e), cls(*e) -/
section
variable {X : Cx} {CX : CXT} {k i : Nat} {C f : Addr} {sp : Sp} {E : XK} {x : Str} {e : Expr} {te : TE} {p pos sp_ : Pos}
def tMk0 (C : Addr) (sp : Sp) (E : XK) : TE := fun σ H Q => ∀ x dx, H x = none → H dx = none → dx ≠ x → sp [V.ref x] (upd (upd H dx (.own x)) x (.ins C dx [])) (fun v H2 => v = .non ∧ Q (.ref x) H2) E
theorem pe_mk0 (M : Mk X.K C f) (F : FnR X.prog X.w X.K X.mg X.base CX k f sp) (hr : Room (k + 1) X.A) (hg : Gl X x) (hm : X.mg x = some (.ref C)) (hx : Passes CX X E) (hd : (x == ("__debug__" : Str)) = false := by decide) :
    PE X (.Call (.Name x p) [] [] pos) (tMk0 C sp E) := by
  refine ⟨fun pins s σ H Q I h => ?_⟩
  refine wpAny_Call_Name_kw (ld_glob I hg hm ?_ hd)
  exact PySem.W.callWith_K0 I.kIn M.kp (StX.run_makeR M F hr hx I .nil h)
def tMkS (K : PySem.W.Frag) (C : Addr) (sp : Sp) (E : XK) (te : TE) : TE := fun σ H Q => te σ H fun y H1 => ∃ a xs, y = V.ref a ∧ (SqT K H1 a xs ∨ SqL K H1 a xs) ∧ ∀ x dx, H1 x = none → H1 dx = none → dx ≠ x → sp (V.ref x :: xs) (upd (upd H1 dx (.own x)) x (.ins C dx [])) (fun v H2 => v = .non ∧ Q (.ref x) H2) E
theorem pe_mkS (M : Mk X.K C f) (F : FnR X.prog X.w X.K X.mg X.base CX k f sp) (hr : Room (k + 1) X.A) (hg : Gl X x) (hm : X.mg x = some (.ref C)) (hx : Passes CX X E) (he : PE X e te) (hd : (x == ("__debug__" : Str)) = false := by decide)
    (hst : starEach [.Starred e sp_] X.env = [(true, eval e X.env)] := by rfl) : PE X (.Call (.Name x p) [.Starred e sp_] [] pos) (tMkS X.K C sp E te) := by
  refine ⟨fun pins s σ H Q I h => ?_⟩
  refine wpAny_Call_Name_kw (ld_glob I hg hm ?_ hd)
  refine PySem.W.callWith_S (h₀ := X.base) I.ok.mod.kin M.kp (thn (he.run pins s σ H _ I h) fun v s1 ⟨y, H1, I1, ry, a, xs, ey, hxs, q⟩ => ?_) hst
  subst ey
  obtain rfl : v = Value.ref a := ry
  exact StX.star_any I1 hxs fun us s2 I2 rv => ⟨I2.kIn, StX.run_makeR M F hr hx I2 rv q⟩
def tClsS (K : PySem.W.Frag) (i : Nat) (C : Addr) (sp : Sp) (E : XK) (te : TE) : TE := fun σ H Q => σ[i]? = some (some (.ref C)) ∧ tMkS K C sp E te σ H Q
theorem pe_clsS (M : Mk X.K C f) (F : FnR X.prog X.w X.K X.mg X.base CX k f sp) (hr : Room (k + 1) X.A) (hN : X.N[i]? = some x) (hv : Vis X.env.scope x) (hx : Passes CX X E) (he : PE X e te)
    (hdb : (x == ("__debug__" : Str)) = false := by decide) (hcd : (x == ("__classdict__" : Str)) = false := by decide) (hst : starEach [.Starred e sp_] X.env = [(true, eval e X.env)] := by rfl) :
    PE X (.Call (.Name x p) [.Starred e sp_] [] pos) (tClsS X.K i C sp E te) := by
  refine ⟨fun pins s σ H Q I h => ?_⟩
  obtain ⟨hs, ht⟩ := h
  refine wpAny_Call_Name_kw (thn ((pe_var (pos := p) hN hv hdb hcd).run pins s σ H (fun v H1 => v = .ref C ∧ H1 = H) I ⟨.ref C, hs, rfl, rfl⟩) fun u s1 ⟨v, H1, I1, r1, q1⟩ => ?_)
  obtain ⟨rfl, rfl⟩ := q1
  cases r1
  refine PySem.W.callWith_S (h₀ := X.base) I.ok.mod.kin M.kp (thn (he.run pins s1 σ _ _ I1 ht) fun v s2 ⟨y, H2, I2, ry, a, xs, ey, hxs, q⟩ => ?_) hst
  subst ey
  obtain rfl : v = Value.ref a := ry
  exact StX.star_any I2 hxs fun us s3 I3 rv => ⟨I3.kIn, StX.run_makeR M F hr hx I3 rv q⟩
end
section
variable {X : Cx}
theorem ne_int_int {P : Program} {w : World} {A : Around} {E' : Value → Shared → Prop} {s : Shared} {Q : Value → Shared → Prop} (h : Q (.bool false) s) :
    wpAny (model P w) A (compareOp .NotEq (.type "int") (.type "int")) Q E' s := by
  show wpAny _ A (richCompare .NotEq _ _) Q E' s
  refine wpAny_richCompare_same (T := "type") (PySem.TypeEq.meta_int s) (PySem.TypeEq.meta_int s) slot_type_ne (GQ.call_here slot_type_ne (PySem.TypeEq.meta_int s) PySem.F.cmpEntry_ne (PySem.F.cmpArgs_ne _ _) ?_)
  unfold Builtin.«object.__ne__»
  have key : ∀ {Q2 : Option Value → Shared → Prop}, Q2 (some (.bool true)) s → wpAny (model P w) A.in1 (callSpecialIfBound? (.type "int") (Str.ofString "__eq__") [.type "int"]) Q2 (fun e s' => wants (fun v s' => v ≠ .notImplemented ∧ Q v s') E' (.error e) s') s := fun k =>
    wpAny_callSpecialIfBound?_slot (PySem.TypeEq.meta_int s) PySem.TypeEq.slot_type_eq (call_gives PySem.TypeEq.slot_type_eq (PySem.TypeEq.meta_int s) F.entry_object_eq (F.args_object_eq_2 _ _) (PySem.TypeEq.object_eq_same rfl rfl) k)
  obtain ⟨hh, g, d, t, os⟩ := s
  repeat (first
    | with_reducible refine wpAny_cRoomFor_byValue rfl ?_
    | (refine wpAny_bind (m := callSpecialIfBound? (.type "int") (Str.ofString "__eq__") [.type "int"]) (key ?_)
       repeat (first | exact ⟨(fun e => nomatch e), h⟩ | (refine wpAny_bind (m := truthy (.bool _)) (wpAny_truthy_bool ?_)) | wp_step))
    | wp_step)
def rNeII : R2 := fun x y H Q => x = .ty "int" ∧ y = .ty "int" ∧ Q (.bl false) H
theorem op_ne_II : OpR X (compareOp .NotEq) rNeII := by
  intro pins s σ H x y v u Q I rx ry h
  obtain ⟨rfl, rfl, q⟩ := h
  obtain rfl : v = Value.type "int" := rx
  obtain rfl : u = Value.type "int" := ry
  exact ne_int_int ⟨.bl false, H, I, rfl, q⟩
end
/-! set(t) of a tuple of ints; the call of a def with a star, by its own text -/
section
variable {X : Cx}
def rSetT (K : PySem.W.Frag) (w : World) : List V → Hp → VK → Prop := fun xs H Q => ∃ (l : Addr) (ks : List Int), xs = [V.ref l] ∧ SqT K H l (ks.map V.int) ∧ ks.length ≤ 1000 ∧ ∀ p n, H p = none → n ≤ ks.length → Q (.ref p) (upd H p (SetO w p (fun k => decide (k ∈ ks)) n))
theorem cr_setT (hc : X.calm = true) : CallR X (.type "set") (rSetT X.K X.w) := by
  intro pins s σ H xs us Q I r h
  obtain ⟨l, ks, rfl, hl, hz, q⟩ := h
  rw [Vals.ref1 r]
  obtain ⟨its, rv, pl, _⟩ := I.tuple hl
  have hn : H s.heap.objs.size = none := I.hok.fresh (Nat.le_refl _)
  refine call_set_tupI (P := X.prog) (w := X.w) ks (I.ok.hd hc) (show s.heap.IsTuple l its.toArray from pl) (ints_of_vals rv) (by unfold scanBound; omega) fun h' tk c R hc2 k => ?_
  exact ⟨.ref s.heap.objs.size, upd H s.heap.objs.size (SetO X.w s.heap.objs.size _ c), I.laid (t' := tk) k (Nat.le_refl _) (setO_new R), rfl, q _ _ hn hc2⟩
end
/-- def f(a, *v) with no defaults, by its body -/
theorem okStar {P : Program} {w : World} {K : PySem.W.Frag} {mg : Str → Option Value} {base : Heap} {x qual : Str} {st : Stmt} {f : Addr} {fd : FuncData} {N ps : List Str} {pv : Str} {k : Nat} {sp : Sp} (F : Fun K x qual st f fd) (S : FnScope N (ps ++ [pv]) (defScope st))
    (hb : ∀ (kV doc pm : Value) (an : Option Addr) (cdv ct : Value) (us rest : List Value), us.length = ps.length → bindArgs (PySem.W.fnOf x qual (defArgs st) (defBody st) (defScope st) .none kV doc pm an cdv ct) ⟨us ++ rest, []⟩ = (newTuple rest >>= fun t => pure (ps.zip us ++ [(pv, t)])))
    (hbody : ∀ (cdv : Value) (A : Around) (outer : List Env) (s : Shared) (H : Hp) (vs : List V) (Q : VK) (E : XK), Room k (A.deeper (envOfC qual (defScope st) s.heap.objs.size f cdv)) → sp vs H Q E →
      ∃ t, PSs (cxOf CX0 P w K mg base N qual (defScope st) f cdv A outer s H E).nox (defBody st) t ∧ t { nx := fun _ H' => Q .non H', rt := Q } (start N vs) H) :
    FnR P w K mg base CX0 (k + 1) f (fun vs H Q E => ∃ ws rest, vs = ws ++ rest ∧ ws.length = ps.length ∧ rest.length ≤ sizeLine ∧ ∀ p, H p = Option.none → sp (ws ++ [V.ref p]) (upd H p (.tup rest)) Q E) := by
  obtain ⟨oc, od, kV, doc, pm, an, cdv, ct, osl, rfl, lk, hcd⟩ := F.ex
  refine StX.fn_star lk hcd S StX.cxUp_none (hb kV doc pm an cdv ct) fun A outer s H vs Q E hr hsp => ?_
  obtain ⟨t, h, q⟩ := hbody cdv A outer s H vs Q E hr hsp
  exact ⟨t, h.nox, q⟩
end XL

set_option Elab.async false
set_option maxRecDepth 100000
set_option maxHeartbeats 2000000
set_option linter.all false
set_option pp.maxSteps 200
/-! Set comprehensions of ints; dict(zip(xs, ys)). -/
namespace XM
open PySem PySem.Spec PyProof.Rows L2
section
variable {X : Cx}
/-- D.add of an int, D a set that is being made -/
theorem put_int {pins : List (Addr × Obj)} {σ : L2.St} {H : Hp} {s : Shared} {E : Value → Shared → Prop} {D : Addr} {S : Int → Bool} {n : Nat} {k : Int} {tk : Tok} {Q : Value → Shared → Prop} (I : Inv X pins σ H s)
    (hD : H D = some (SetO X.w D S n)) (hz : n + 1 < scanBound) (q : ∀ s', Inv X pins σ (upd H D (SetO X.w D (fun j => S j || decide (j = k)) (if S k = true then n else n + 1))) s' → Q .none s') :
    wpAny (model X.prog X.w) X.A (call (.builtin "set.add") [.ref D, .int k tk]) Q E s :=
  setR_add (setO_get I hD) hz fun h' same made => q _ (I.write (e := D) (t' := s.toks + 1) (by rw [hD]; exact True.intro) (.inl rfl) (fun b u hb hu => (same.2 b hb).trans hu)
    (let ⟨o, _, _, _, ho, _⟩ := made; ⟨o, ho⟩) (setO_new made))
/-- {elt for target in iter if ..}, each elt an int; D the set in the making -/
def tScI (w : World) (wi : TI) (g : TG) (tt : TT) (te : TE) (vs : List Nat) : TE := fun σ H Q => wi σ H fun J H1 => ∀ D, H1 D = none →
  ∃ W : Nat → Nat → Hp → Prop, (∃ m, W 0 m (upd H1 D (SetO w D (fun _ => false) 0))) ∧ ∀ i m H, W i m H → (J.stop i H ∧ Q (.ref D) H) ∨ (J.go i H ∧ ∃ Z : Hp → Prop, (∀ H', Z H' → ∃ m', m' < m ∧ W (i + 1) m' H') ∧
    ∀ x H', J.yld i H x H' → g x (wipe σ vs) H' fun σ2 H2 => wipe σ2 vs = wipe σ vs ∧ tt σ2 H2 fun b H3 => if b = true then te σ2 H3 fun y H4 =>
      ∃ (k : Int) (S : Int → Bool) (n : Nat), y = .int k ∧ H4 D = some (SetO w D S n) ∧ n + 1 < scanBound ∧ Z (upd H4 D (SetO w D (fun j => S j || decide (j = k)) (if S k = true then n else n + 1))) else Z H3)
theorem made_set {pins : List (Addr × Obj)} {s : Shared} {σ : L2.St} {H : Hp} (I : Inv X pins σ H s) :
    Inv X pins σ (upd H s.heap.objs.size (SetO X.w s.heap.objs.size (fun _ => false) 0)) { s with heap := s.heap.push { cls := .type "set", dict := none, data := .set #[] 0 (.fresh 0 0 (!X.w.params.followText "set-order")) } } :=
  I.laid (t' := s.toks) (fun b o e => Heap.get?_push_of_some _ e) (Nat.le_refl _) (setO_new (setR_fresh X.w))
theorem pe_scI {elt tg iter : Expr} {ifs : List Expr} {scope : Scope} {own : List (PySem.Str × Nat)} {pos : Pos} {wi : TI} {g : TG} {tt : TT} {te : TE} (hc : X.calm = true) (hN : X.N.Nodup) (hi : PI X tg iter wi) (ok : BlkOk X.N X.env.scope scope own)
    (hg : ∀ (s : Shared) (H : Hp) (C : Addr) (cl : List (PySem.Str × Addr)) (fp : List Addr), PG (X.blk s H scope (compEnvC scope cl C X.env) fp) tg g)
    (ht : ∀ (s : Shared) (H : Hp) (C : Addr) (cl : List (PySem.Str × Addr)) (fp : List Addr), PTs (X.blk s H scope (compEnvC scope cl C X.env) fp) ifs tt)
    (he : ∀ (s : Shared) (H : Hp) (C : Addr) (cl : List (PySem.Str × Addr)) (fp : List Addr), PE (X.blk s H scope (compEnvC scope cl C X.env) fp) elt te) (hs : ∀ x, foldedSetIterable iter X.env x = pure x := by intro _; rfl) :
    PE X (.SetComp elt [⟨tg, iter, ifs, 0⟩] scope pos) (tScI X.w wi g tt te (own.map (·.2))) := by
  refine ⟨fun pins s σ H Q I0 h0 => ?_⟩
  rw [PpSet.eval_SetComp]
  have frees : ∀ y ∈ scope.names, y.2 = .free → ∃ c, X.env.cells.lookup y.1 = some c := by
    intro y hy e
    rcases ok.free y hy e with z | z <;> exact I0.ok.has _ (by first | exact .inl z | exact .inr z)
  refine wpAny_comprehension_free (use := none) rfl hs (closure_ok frees) ok.kind (fun y hy e => by rw [ok.uniq y hy, e]) (thn (hi.run pins s σ H _ I0 h0) fun xv s1 hx => thn hx fun itv s2 got => ?_)
  obtain ⟨it, fp, tn, J, H2, rfl, I2, T, at0, fresh, q⟩ := got
  refine PpSet.newSet_ok (newEnv_comp ?_)
  have I3 := made_set I2
  obtain ⟨W, ⟨m0, w0⟩, turn⟩ := q s2.heap.objs.size (I2.hok.fresh (Nat.le_refl _))
  have below : ∀ b ∈ fp, b < s2.heap.objs.size := fun b hb => let ⟨_, e, _⟩ := T.obj _ _ at0 b hb; Heap.lt_size e
  generalize hs3 : ({ s2 with heap := s2.heap.push { cls := .type "set", dict := none, data := .set #[] 0 (.fresh 0 0 (!X.w.params.followText "set-order")) } } : Shared) = s3 at I3
  generalize hD : s2.heap.objs.size = D at *
  have k3 : ∀ b o, s2.heap.get? b = some o → s3.heap.get? b = some o := fun b o e => by
    rw [← hs3]
    exact Heap.get?_push_of_some _ e
  have z3 : s3.heap.objs.size = D + 1 := by rw [← hs3, ← hD]; exact Heap.size_push ..
  generalize hH3 : upd H2 D (SetO X.w D (fun _ => false) 0) = H3 at I3 w0
  have fr3 : ∀ b ∈ fp, FpOk X pins H3 b ∧ b < s3.heap.objs.size := fun b hb => by
    have lt := below b hb
    refine ⟨⟨?_, (fresh b hb).2⟩, Nat.lt_of_lt_of_le lt (by rw [z3]; exact Nat.le_succ _)⟩
    rw [← hH3, upd_ne (Nat.ne_of_lt lt)]
    exact (fresh b hb).1
  have at3 : tn 0 s3.heap := T.keep _ _ _ at0 fun b _ => k3 b
  have I4 := block_start I3 ok hN fr3
  generalize hce : compEnvC scope (cellsFrom (s3.heap.objs.size + 1) scope.names (cloFrom X.env.cells scope.names [])) s3.heap.objs.size X.env = ce at I4
  have pg := hce ▸ hg s3 H3 s3.heap.objs.size (cellsFrom (s3.heap.objs.size + 1) scope.names (cloFrom X.env.cells scope.names [])) fp
  have pt := hce ▸ ht s3 H3 s3.heap.objs.size (cellsFrom (s3.heap.objs.size + 1) scope.names (cloFrom X.env.cells scope.names [])) fp
  have pe := hce ▸ he s3 H3 s3.heap.objs.size (cellsFrom (s3.heap.objs.size + 1) scope.names (cloFrom X.env.cells scope.names [])) fp
  generalize hs4 : ({ s3 with heap := pushCells (s3.heap.push { cls := .type "dict", data := .dict #[] }) scope.names } : Shared) = s4 at I4
  have at4 : tn 0 s4.heap := T.keep _ _ _ at3 fun b _ o e => by
    rw [← hs4]
    exact pushCells_keeps _ _ _ _ (Heap.get?_push_of_some _ e)
  have home : ce.locals = s3.heap.objs.size := by rw [← hce]; rfl
  have calmly : ∀ {σ' : L2.St} {H' : Hp} {s' : Shared}, Inv (X.blk s3 H3 scope ce fp) [] σ' H' s' → (∀ b ∈ fp, H' b = none) → ∀ b ∈ fp, FpOk (X.blk s3 H3 scope ce fp) [] H' b := by
    intro σ' H' s' I' hn b hb
    exact ⟨hn b hb, (I'.ok.exf b hb).1, I'.ok.exfs b hb, .inl hb, fun x c e => (I'.ok.exf b hb).2 x c e, fun p hp => (nomatch (show p ∈ ([] : List (Addr × Obj)) from hp))⟩
  have goal : codeAny (model X.prog X.w) X.A (.compLoop (.SetComp elt [⟨tg, iter, ifs, 0⟩] scope pos) 0 (.ref it) (.ref D) ce) (compPost (model X.prog X.w) X.A X.xe none (fun v s' => ∃ x H', Inv X pins σ H' s' ∧ RelV x v ∧ Q x H') (.ref D) s3.heap.objs.size) s4 := by
    refine PpSet.compLoopS_any (fun n s' => ∃ i H', Inv (X.blk s3 H3 scope ce fp) [] (wipe σ (own.map (·.2))) H' s' ∧ tn i s'.heap ∧ (∀ b ∈ fp, H' b = none) ∧ W i n H') ?_ m0 ⟨0, H3, I4, at4, fun b hb => (fr3 b hb).1.1, w0⟩
    rintro n s5 ⟨i, H5, I5, at5, n5, w5⟩
    rcases turn i n H5 w5 with ⟨over, last⟩ | ⟨more, Z, hZ, step⟩
    · refine thnF (T.done (X.blk s3 H3 scope ce fp) rfl rfl rfl hc i [] s5 _ H5 (fun _ _ => False) I5 (calmly I5 n5) at5 over) fun r s6 ⟨hr, I6⟩ => ?_
      subst hr
      have I7 : Inv X pins σ H5 s6 := I3.call' (ch := fp) I6.os I6.base I6.hok I6.bare fun b hb => let z := (fr3 b hb).1.2; ⟨z.2.2.1, z.1, z.2.2.2.1, z.2.2.2.2⟩
      have fC : H5 s3.heap.objs.size = none := home ▸ (show H5 ce.locals = none from I6.free)
      obtain ⟨m, hn, _⟩ := I6.loc
      have hn : s6.heap.Ns s3.heap.objs.size m := home ▸ (show s6.heap.Ns ce.locals m from hn)
      refine ⟨m, hn, fun h'' sb => ?_⟩
      obtain ⟨f0, f1, f2, f3, f4, f5⟩ := I3.fpOk (pins := pins) (Nat.le_refl _) fC
      exact ⟨.ref D, H5, I7.turned (t' := s6.toks) (fun b o hb e => (sb.2 b hb).trans e) f0 f1 f3 f4 f5, rfl, last⟩
    · refine thnF (T.item (X.blk s3 H3 scope ce fp) rfl rfl rfl hc i [] s5 _ H5 (fun _ _ => False) I5 (calmly I5 n5) at5 more) fun r s6 ⟨u, hr, h6⟩ => ?_
      subst hr
      refine thnF h6 fun _ s7 ⟨x, H7, I7, r7, y7, at7, n7⟩ => ?_
      refine thnF (pg.run _ s7 _ H7 x u _ (I7.pinned (calmly I7 n7) (T.obj _ _ at7)) r7 (step x H7 y7)) fun _ s8 ⟨σ8, H8, I8, same, q8⟩ => ?_
      have fin : ∀ {s' : Shared} {H' : Hp}, Inv (X.blk s3 H3 scope ce fp) ([] ++ pinsAt fp s7.heap) σ8 H' s' → Z H' → ∃ m, m < n ∧ ∃ i H', Inv (X.blk s3 H3 scope ce fp) [] (wipe σ (own.map (·.2))) H' s' ∧ tn i s'.heap ∧ (∀ b ∈ fp, H' b = none) ∧ W i m H' := by
        intro s' H' I' z
        obtain ⟨m', lt, w'⟩ := hZ H' z
        have pin : ∀ b ∈ fp, ∀ o, s7.heap.get? b = some o → s'.heap.get? b = some o ∧ H' b = none := fun b hb o e => by
          have y := I'.pin (b, o) (List.mem_append_right _ (List.mem_append_right _ (mem_pinsAt hb e)))
          exact ⟨y.1, y.2.1⟩
        have len : (wipe σ (own.map (·.2))).length = σ8.length := same ▸ wipe_length ..
        refine ⟨m', lt, i + 1, H', (I'.unpinned (pins := [])).weak len (fun j v e => (wipe_some (same ▸ e)).1), T.keep _ _ _ at7 fun b hb o e => (pin b hb o e).1, fun b hb => ?_, w'⟩
        obtain ⟨o, e, _⟩ := T.obj _ _ at7 b hb
        exact (pin b hb o e).2
      refine thnF (pt.run _ s8 σ8 H8 _ I8 q8) fun b s9 ⟨H9, I9, q9⟩ => ?_
      cases b
      · simp only [Bool.false_eq_true, if_false] at q9 ⊢
        exact fin I9 q9
      · simp only [if_true] at q9 ⊢
        refine thnF (pe.run _ s9 σ8 H9 _ I9 q9) fun v s10 ⟨yv, H10, I10, r10, k, S, c, ey, hD10, hz10, nx⟩ => ?_
        subst ey
        obtain ⟨tk, rfl⟩ : ∃ tk, v = .int k tk := r10
        exact put_int (X := X.blk s3 H3 scope ce fp) I10 hD10 hz10 fun s11 I11 => fin I11 nx
  subst hs4 hce hH3 hs3 hD
  exact PpSet.codeAny_compStart_set goal (T.self X.A 0 _ _ _ at4 goal)
/-! ### dict(zip(xs, ys)) -/
theorem kv_zip {ys : List V} {ws : List Value} (rw_ : Vals ys ws) : ∀ ks : List Key, KV (ks.zip ys) (ks.zip ws) := by
  intro ks
  induction rw_ generalizing ks with
  | nil => rw [List.zip_nil_right, List.zip_nil_right]; exact .nil
  | cons h t ih => cases ks with
    | nil => exact .nil
    | cons k ks => exact .cons ⟨rfl, h⟩ (ih ks)
theorem key_at {ks : List Key} {us : List Value} {i : Nat} {u : Value} (r : Vals (ks.map kV) us) (e : us[i]? = some u) : ∃ k, ks[i]? = some k ∧ RelV (kV k) u := by
  have hi : i < us.length := (List.getElem?_eq_some_iff.mp e).1
  have l := r.length
  rw [List.length_map] at l
  have hj : i < ks.length := by omega
  obtain ⟨u', e', r'⟩ := r.get (i := i) (x := kV ks[i]) (by rw [List.getElem?_map, List.getElem?_eq_getElem hj]; rfl)
  rw [e] at e'
  cases e'
  exact ⟨ks[i], List.getElem?_eq_getElem hj, r'⟩
theorem dict_zip {pins : List (Addr × Obj)} {σ : L2.St} {H : Hp} {s : Shared} {a b : Addr} {ks : List Key} {ys : List V} {E : Value → Shared → Prop} {Q : Value → Shared → Prop} (hc : X.calm = true) (I : Inv X pins σ H s) (ha : SqL X.K H a (ks.map kV)) (hb : SqL X.K H b ys) (hz : ks.length ≤ 1000) (hl : ks.length = ys.length)
    (q : ∀ p s', Inv X pins σ (upd H p (.dK (mergeK [] (ks.zip ys)))) s' → H p = none → Q (.ref p) s') :
    wpAny (model X.prog X.w) X.A (call (.type "zip") [.ref a, .ref b]) (fun v s1 => wpAny (model X.prog X.w) X.A (call (.type "dict") [v]) Q E s1) E s := by
  obtain ⟨us, ru, pa, _⟩ := I.list ha
  obtain ⟨ws, rw_, pb, _⟩ := I.list hb
  refine call_zip_2 pa.isList pb.isList fun h' hz_ hTI hTO h1 h2 hsz hk => ?_
  have lu := ru.length
  have lw := rw_.length
  rw [List.length_map] at lu
  have A := PairArg.zip (prog := X.prog) (w := X.w) (s.heap.objs.size + 4) (s.heap.objs.size + 2) (s.heap.objs.size + 3) s.heap.objs.size (s.heap.objs.size + 1) a b (PySem.W.ktu_apart s.heap.objs.size a b pa.lt pb.lt) us.toArray ws.toArray
  have rel := kv_zip rw_ ks
  refine PySem.call_dict_pairs (knd := mixKind X.prog X.w) (kvs := ks.zip ws) A (I.ok.hd hc) ⟨hz_, hTI, ⟨_, _, hTO⟩, h1, h2, pa.isList.at fun o e => hk _ o e, pb.isList.at fun o e => hk _ o e⟩ ⟨?_, fun i key v ⟨e1, e2⟩ => ?_⟩ (by simp; rw [sizeLine_eq]; omega) fun h'' tk hd' k' => ?_
  · simp
    omega
  · rw [List.getElem?_toArray] at e1 e2
    obtain ⟨k, ek, rk⟩ := key_at ru e1
    exact ⟨k, by rw [List.getElem?_zip_eq_some]; exact ⟨ek, e2⟩, kV_is rk⟩
  · have kept : ∀ c o, s.heap.get? c = some o → h''.get? c = some o := fun c o e => by
      have lt := Heap.lt_size e
      refine k' c o ?_ (hk c o e)
      simp only [List.mem_cons, List.not_mem_nil, or_false, not_or]
      exact ⟨Nat.ne_of_lt (Nat.lt_of_lt_of_le lt (Nat.le_add_right _ _)), Nat.ne_of_lt (Nat.lt_of_lt_of_le lt (Nat.le_add_right _ _)), Nat.ne_of_lt lt, Nat.ne_of_lt (Nat.lt_of_lt_of_le lt (Nat.le_add_right _ _))⟩
    have le5 : s.heap.objs.size ≤ h'.objs.size := hsz ▸ Nat.le_add_right _ 5
    have hm : (h'.objs.size == sysModules) = false := beq_eq_false_iff_ne.mpr (Nat.ne_of_gt (Nat.lt_of_lt_of_le I.big le5))
    have hlen : (mergeK [] (ks.zip ys)).length ≤ sizeLine := by
      refine Nat.le_trans (length_mergeK _ []) ?_
      rw [List.length_nil, Nat.zero_add, List.length_zip, sizeLine_eq]
      omega
    exact q _ _ (I.laid (t' := tk) (a := h'.objs.size) kept le5 (show ObjOk X.prog X.w _ _ _ (.dK (mergeK [] (ks.zip ys))) from ⟨hlen, hm, merged [] (ks.zip ws), KV.merge rel .nil, hd'⟩)) (I.hok.fresh le5)
/-- dict(zip(e, f)) -/
def tDictZip (K : PySem.W.Frag) (ta : TA) : TE := fun σ H Q => ta σ H fun vs H1 => ∃ (a b : Addr) (ks : List Key) (ys : List V), vs = [.ref a, .ref b] ∧ SqL K H1 a (ks.map kV) ∧ SqL K H1 b ys ∧ ks.length ≤ 1000 ∧ ks.length = ys.length ∧ ∀ p, H1 p = none → Q (.ref p) (upd H1 p (.dK (mergeK [] (ks.zip ys))))
theorem pe_dictZip {e e2 : Expr} {ta : TA} {p p2 pos pos2 : Pos} (hc : X.calm = true) (hg : Gl X "dict") (hm : X.mg "dict" = none) (hg2 : Gl X "zip") (hm2 : X.mg "zip" = none) (ha : PA X [e, e2] ta)
    (hs : starEach [e, e2] X.env = (false, eval e X.env) :: starEach [e2] X.env := by rfl) (hpl : (backTo pos2 (starEach [e2] X.env)).any (·.1) = false := by rfl) :
    PE X (.Call (.Name "dict" p) [.Call (.Name "zip" p2) [e, e2] [] pos2] [] pos) (tDictZip X.K ta) := by
  refine ⟨fun pins s σ H Q I h => ?_⟩
  refine wpAny_Call_Name_kw (ld_blt I hg hm (by rfl) ?_ (by decide) (by decide))
  refine PyProof.Rows.callWith_type1 ?_ (by rfl) (by rfl)
  show wpAny _ _ (spliced ((false, eval (.Call (.Name "zip" p2) [e, e2] [] pos2) X.env) :: backTo pos [])) _ _ s
  refine Calls.spliced_cons ?_
  refine Call_ (ld_blt I hg2 hm2 PyProof.Rows.boot_zip (PyProof.Rows.callWith_type1 (thn (ha.run pos2 pins s σ H _ I h) fun us s1 ⟨vs, H1, I1, r1, q1⟩ => ?_) hs hpl))
  obtain ⟨a, b, ks, ys, rfl, h1, h2, hz, hl, q⟩ := q1
  obtain ⟨u1, u2, eu, r2, r3⟩ := vals2 r1
  subst eu
  cases r2
  cases r3
  have go := dict_zip (E := X.xe) (Q := fun v s' => ∃ x H', Inv X pins σ H' s' ∧ RelV x v ∧ Q x H') hc I1 h1 h2 hz hl fun p s' I' hp => ⟨.ref p, _, I', rfl, q p hp⟩
  exact wpAny_mono go (fun v s2 z => Calls.spliced_nil z) fun _ _ z => z
end
end XM

set_option Elab.async false
set_option maxRecDepth 100000
set_option maxHeartbeats 2000000
set_option linter.all false
set_option pp.maxSteps 200
namespace LN
open PySem PySem.Spec PyProof.Rows L2 XG XV XL
def top (i : Nat) : Stmt := PySem.Challenge.pw_needrows_k02_canonical_tuples.main.body.getD i (.Pass ⟨0, 0, 0, 0⟩)
abbrev sDice : Stmt := (top 12)
abbrev sPull : Stmt := (top 13)
abbrev sPick : Stmt := (top 14)
abbrev sWhole : Stmt := (top 5)
abbrev sAreW : Stmt := (top 6)
abbrev sChk : Stmt := (top 7)
abbrev sChkA : Stmt := (top 8)
abbrev sBelow : Stmt := (top 9)
abbrev sLi : Stmt := (inClass (top 10) 0)
abbrev sLof : Stmt := (inClass (top 10) 1)
abbrev sLgiven : Stmt := (inClass (top 10) 2)
/-- the built-in names that the text uses -/
structure Bt (mg : Str → Option Value) : Prop where
  int : mg "int" = none
  abs : mg "abs" = none
  max : mg "max" = none
  min : mg "min" = none
  len : mg "len" = none
  range : mg "range" = none
  tuple : mg "tuple" = none
  isinstance : mg "isinstance" = none
  set : mg "set" = none
  sorted : mg "sorted" = none
  type : mg "type" = none
  repr : mg "repr" = none
  list : mg "list" = none
  dict : mg "dict" = none
  zip : mg "zip" = none
/-- a def of the text under its name -/
structure Dn (K : PySem.W.Frag) (mg : Str → Option Value) (x : Str) (st : Stmt) (f : Addr) (fd : FuncData) (ps : List Str) : Prop where
  F : Fun K x x st f fd
  m : mg x = some (.ref f)
  b : Binds K fd ps []
/-- at a: the list of a draw's three numbers -/
def Dice (H : Hp) (a : Addr) : Prop := ∃ g m c : Int, H a = some (.lst [.int g, .int m, .int c])
/-- what else was tracked is as it was -/
def But (a : Addr) (H H' : Hp) : Prop := ∀ b o, b ≠ a → H b = some o → H' b = some o
theorem But.upd {a : Addr} {H : Hp} {o : HO} : But a H (upd H a o) := fun b u hb e => by rw [upd_ne hb]; exact e
theorem But.trans {a : Addr} {H H1 H2 : Hp} (x : But a H H1) (y : But a H1 H2) : But a H H2 := fun b o hb e => y b o hb (x b o hb e)
theorem But.of {a : Addr} {H H1 : Hp} (x : Evl.Ex H H1) : But a H H1 := fun b o _ e => x b o e
theorem sqL_but {K : PySem.W.Frag} {a p : Addr} {H H' : Hp} {xs : List V} (x : But a H H') (n : p ≠ a) (h : SqL K H p xs) : SqL K H' p xs := by
  rcases h with (h | ⟨o, h⟩) | h
  · exact .inl (.inl (x _ _ n h))
  · exact .inl (.inr ⟨o, x _ _ n h⟩)
  · exact .inr h
def spDice (K : PySem.W.Frag) : Sp := fun vs H Q _ => ∃ (p : Addr) (ns : List Int) (at_ : Int), vs = [.ref p, .int at_] ∧ SqL K H p (ns.map V.int) ∧ ns.length ≤ 63 ∧ 0 ≤ at_ ∧
  ∀ (a : Addr) (g m c : Int), H a = none → Q (.ref a) (upd H a (.lst [.int g, .int m, .int c]))
def spPull : Sp := fun vs H Q _ => ∃ (a : Addr) (t : Int), vs = [.ref a, .int t] ∧ Dice H a ∧ 0 < t ∧ t < 1073741824 ∧
  ∀ (r : Int) (g m c : Int), 0 ≤ r → r < t → Q (.int r) (upd H a (.lst [.int g, .int m, .int c]))
def spPick (K : PySem.W.Frag) : Sp := fun vs H Q _ => ∃ (a p : Addr) (xs : List V), vs = [.ref a, .ref p] ∧ Dice H a ∧ p ≠ a ∧ SqL K H p xs ∧ 0 < xs.length ∧ xs.length ≤ 1000 ∧
  ∀ (v : V) (g m c : Int), v ∈ xs → Q v (upd H a (.lst [.int g, .int m, .int c]))
local macro_rules | `(tactic| walk_at "sq") => `(tactic| (first | exact SqL.of (by assumption) | exact SqL.of upd_same | exact SqT.of (by assumption) | exact SqT.of upd_same | assumption))
local macro_rules | `(tactic| walk_at "ar") => `(tactic| (first | decide | exact ⟨by decide, by decide⟩ | (left; exact ⟨by decide, by decide⟩) | (right; exact ⟨by decide, by decide⟩) | omega | exact ⟨by omega, by omega⟩ | (left; exact ⟨by omega, by omega⟩) | (right; exact ⟨by omega, by omega⟩) | assumption | exact ⟨by decide, by decide, by decide⟩ | exact ⟨by decide, by decide, by omega⟩ | (show (0 : Int) < _; decide +kernel) | exact ⟨by decide +kernel, by decide +kernel⟩))
local macro_rules | `(tactic| walk_at "r1") => `(tactic| (first
  | refine ⟨_, rfl, ?_⟩
  | refine ⟨_, _, rfl, rfl, (show (_ : Prop) from by walk_at "ar"), ?_⟩
  | refine ⟨_, _, rfl, rfl, ?_⟩
  | refine ⟨_, _, rfl, ?_⟩
  | refine Or.inl ⟨_, rfl, ?_⟩
  | refine Or.inr ⟨_, rfl, ?_⟩
  | refine ⟨_, _, _, _, rfl, rfl, (by walk_at "sq"), rfl, ?_⟩
  | refine ⟨_, _, _, _, rfl, rfl, (by first | assumption | exact upd_same), rfl, ?_⟩))
theorem atI_in {xs : List V} {i : Int} (h0 : 0 ≤ i) (h1 : i < (xs.length : Int)) : ∃ v, atI xs i = some v ∧ v ∈ xs := by
  have hj : i.toNat < xs.length := by omega
  refine ⟨xs[i.toNat], ?_, List.getElem_mem hj⟩
  unfold atI ixN
  rw [if_pos h0, if_pos h1]
  simp [hj]
section
variable {P : Program} {w : World} {K : PySem.W.Frag} {mg : Str → Option Value} {base : Heap}
theorem scPull : FnScope ["dice", "total", "found", "one", "two"] ["dice", "total"] (defScope sPull) := ⟨rfl, rfl, rfl, by decide +kernel, rfl, by decide +kernel, by decide +kernel⟩
theorem okPull {f : Addr} {fd : FuncData} (F : Fun K "_law_pull" "_law_pull" sPull f fd) (T : Bt mg) : FnOk P w K mg base CX0 1 f fd ["dice", "total"] spPull := by
  refine F.ok scPull (fun vs H Q E h => ?_) (fun cdv A outer s H vs Q E hr h => ?_)
  · obtain ⟨a, t, rfl, _⟩ := h
    rfl
  · obtain ⟨a, t, rfl, ⟨g, m, c, hd⟩, ht, ht2, k⟩ := h
    refine ⟨_, (pss_cons (ps_if (pt_cmpR op_gt (pe_ix ix_list (pv 0) pe_int (fun _ _ => rfl)) pe_int (nomark _)) (pss_cons (ps_set (i := 2) scPull.nd rfl (Or.inl rfl) (pe_op op_mod (pe_callTy call_int1 (by rfl) T.int (by decide +kernel) (pa_cons (pe_ix ix_list (pv 0) pe_int (fun _ _ => rfl)) pa_nil)) (pv 1)))
  (pss_cons (ps_asg (pe_op op_fdiv (pe_ix ix_list (pv 0) pe_int (fun _ _ => rfl)) (pv 1)) (pg_sub (pv 0) pe_int set_list))
  (pss_one (ps_ret (pv 2))))) pss_nil)
  (pss_cons (ps_asg (pe_op op_add (pe_ix ix_list (pv 0) pe_int (fun _ _ => rfl)) pe_int) (pg_sub (pv 0) pe_int set_list))
  (pss_cons (ps_set (i := 3) scPull.nd rfl (Or.inl rfl) (pe_op op_mod (pe_callTy call_int1 (by rfl) T.int (by decide +kernel) (pa_cons (pe_op op_add (pe_ix ix_list (pv 0) pe_int (fun _ _ => rfl)) (pe_op op_mul pe_int (pe_ix ix_list (pv 0) pe_int (fun _ _ => rfl)))) pa_nil)) pe_int))
  (pss_cons (ps_set (i := 4) scPull.nd rfl (Or.inl rfl) (pe_op op_mul (pe_op op_mod (pe_callTy call_int1 (by rfl) T.int (by decide +kernel) (pa_cons (pe_op op_mul (pv 3) (pv 3)) pa_nil)) pe_int) (pv 3)))
  (pss_one (ps_ret (pe_op op_mod (pe_callTy call_int1 (by rfl) T.int (by decide +kernel) (pa_cons (pe_op op_fdiv (pe_op op_mod (pe_callTy call_int1 (by rfl) T.int (by decide +kernel) (pa_cons (pe_op op_add (pv 4) (pe_op op_mul pe_int (pe_ix ix_list (pv 0) pe_int (fun _ _ => rfl)))) pa_nil)) pe_int) pe_int) pa_nil)) (pv 1)))))))), ?_⟩
    repeat walk_at "r1"
    refine ite2 (fun _ => ?_) (fun _ => ?_)
    · repeat walk_at "r1"
      exact k _ _ _ _ (Int.emod_nonneg _ (by omega)) (Int.emod_lt_of_pos _ ht)
    · repeat walk_at "r1"
      exact k _ _ _ _ (Int.emod_nonneg _ (by omega)) (Int.emod_lt_of_pos _ ht)
theorem scDice : FnScope ["script", "at", "cell", "great", "mixed"] ["script", "at"] (defScope sDice) := ⟨rfl, rfl, rfl, by decide +kernel, rfl, by decide +kernel, by decide +kernel⟩
theorem okDice {f : Addr} {fd : FuncData} (F : Fun K "_law_dice" "_law_dice" sDice f fd) (T : Bt mg) : FnOk P w K mg base CX0 1 f fd ["script", "at"] (spDice K) := by
  refine F.ok scDice (fun vs H Q E h => ?_) (fun cdv A outer s H vs Q E hr h => ?_)
  · obtain ⟨p, ns, at_, rfl, _⟩ := h
    rfl
  · obtain ⟨p, ns, at_, rfl, hS, hz, h0, k⟩ := h
    refine ⟨_, (pss_cons (ps_set (i := 2) scDice.nd rfl (Or.inl rfl) (pe_op op_add (pe_op op_mul pe_int (pv 1)) pe_int))
  (pss_cons (ps_if (pt_cmpR op_lt (pv 1) (pe_callB call_len_seq (by rfl) T.len (by decide +kernel) (pa_cons (pv 0) pa_nil)) (nomark _)) (pss_one (ps_set (i := 2) scDice.nd rfl (Or.inl rfl) (pe_ix ix_list (pv 0) (pv 1) (fun _ _ => rfl)))) pss_nil)
  (pss_cons (ps_set (i := 3) scDice.nd rfl (Or.inl rfl) (pe_op op_mod (pe_callTy call_int1 (by rfl) T.int (by decide +kernel) (pa_cons (pe_callB call_abs (by rfl) T.abs (by decide +kernel) (pa_cons (pv 2) pa_nil)) pa_nil)) (pe_op op_powB (pe_op op_pow pe_int pe_int) pe_int)))
  (pss_cons (ps_set (i := 4) scDice.nd rfl (Or.inl rfl) (pe_op op_add (pe_op op_add (pe_op op_add (pe_op op_mul (pe_op op_mod (pe_callTy call_int1 (by rfl) T.int (by decide +kernel) (pa_cons (pv 3) pa_nil)) pe_int) pe_int) (pe_op op_mul pe_int (pv 1))) (pe_op op_mul pe_int (pe_callTy call_int1 (by rfl) T.int (by decide +kernel) (pa_cons (pe_cmpR op_lt (pv 2) pe_int (nomark _)) pa_nil)))) pe_int))
  (pss_one (ps_ret (pe_lst (pa_cons (pe_callB (call_max2 rfl) (by rfl) T.max (by decide +kernel) (pa_cons pe_int (pa_cons (pe_op op_sub (pv 3) (pe_op op_pow pe_int pe_int)) pa_nil))) (pa_cons (pe_op op_mod (pe_callTy call_int1 (by rfl) T.int (by decide +kernel) (pa_cons (pv 4) pa_nil)) pe_int) (pa_cons pe_int pa_nil)))))))))), ?_⟩
    repeat walk_at "r1"
    refine ⟨_, _, rfl, Or.inl hS, ?_⟩
    repeat walk_at "r1"
    refine ite2 (fun hlt => ?_) (fun _ => ?_)
    · have hlt := of_decide_eq_true hlt
      obtain ⟨v, hv, hm⟩ := atI_in (xs := ns.map V.int) h0 hlt
      obtain ⟨z, _, rfl⟩ := List.mem_map.mp hm
      refine ⟨_, rfl, _, rfl, _, _, _, _, rfl, rfl, hS, hv, ?_⟩
      repeat walk_at "r1"
      refine ⟨by show 3 ≤ sizeLine; decide, fun a ha => ?_⟩
      exact k a _ _ _ ha
    · repeat walk_at "r1"
      refine ⟨by show 3 ≤ sizeLine; decide, fun a ha => ?_⟩
      exact k a _ _ _ ha
theorem scPick : FnScope ["dice", "items"] ["dice", "items"] (defScope sPick) := ⟨rfl, rfl, rfl, by decide +kernel, rfl, by decide +kernel, by decide +kernel⟩
theorem okPick {f f1 : Addr} {fd fd1 : FuncData} (F : Fun K "_law_pick" "_law_pick" sPick f fd) (T : Bt mg) (D_law_pull : Dn K mg "_law_pull" sPull f1 fd1 ["dice", "total"]) : FnOk P w K mg base CX0 2 f fd ["dice", "items"] (spPick K) := by
  have G_law_pull : FnOk P w K mg base CX0 1 f1 fd1 ["dice", "total"] spPull := okPull D_law_pull.F T
  refine F.ok scPick (fun vs H Q E h => ?_) (fun cdv A outer s H vs Q E hr h => ?_)
  · obtain ⟨a, p, xs, rfl, _⟩ := h
    rfl
  · obtain ⟨a, p, xs, rfl, hd, hpa, hS, h0, hz, k⟩ := h
    refine ⟨_, (pss_one (ps_ret (pe_ix ix_list (pv 1) (pe_call G_law_pull hr rfl D_law_pull.m D_law_pull.F.kp D_law_pull.b .nil pass0 (pa_cons (pv 0) (pa_cons (pe_callB call_len_seq (by rfl) T.len (by decide +kernel) (pa_cons (pv 1) pa_nil)) pa_nil))) (fun _ _ => rfl)))), ?_⟩
    refine ⟨_, rfl, _, rfl, _, rfl, _, _, rfl, Or.inl hS, a, _, rfl, hd, by omega, by omega, fun r g m c hr0 hr1 => ?_⟩
    obtain ⟨v, hv, hm⟩ := atI_in hr0 hr1
    exact ⟨_, _, _, _, rfl, rfl, sqL_but But.upd hpa hS, hv, k v g m c hm⟩

/-! ### what is new since a heap -/
def nw (H H' : Hp) : Hp := fun b => match H b with
  | none => H' b
  | some _ => none
theorem nw_new {H H' : Hp} {b : Addr} (h : H b = none) : nw H H' b = H' b := by
  unfold nw
  rw [h]
theorem nw_some {H H' : Hp} {b : Addr} {o : HO} (h : nw H H' b = some o) : H b = none ∧ H' b = some o := by
  unfold nw at h
  cases e : H b with
  | none => exact ⟨rfl, by rw [e] at h; exact h⟩
  | some u => rw [e] at h; cases h
theorem nw_ex {H H1 H2 H3 : Hp} (g : ∀ b, H1 b = none → H b = none) (h : ∀ b o, H b = none → H1 b = none → H2 b = some o → H3 b = some o) : Evl.Ex (nw H1 H2) (nw H H3) := fun b o e => by
  obtain ⟨e1, e2⟩ := nw_some e
  rw [nw_new (g b e1)]
  exact h b o (g b e1) e1 e2
theorem nw_off {H H' : Hp} : Evl.Ex (nw H H') H' := fun b o e => (nw_some e).2
/-- the dice at a go on -/
structure Go (a : Addr) (H H' : Hp) : Prop where
  b : But a H H'
  d : Dice H' a
theorem Dice.ne {H : Hp} {a b : Addr} (d : Dice H a) (h : H b = none) : b ≠ a := by
  rintro rfl
  obtain ⟨_, _, _, e⟩ := d
  rw [e] at h
  cases h
theorem Dice.ne' {H H1 : Hp} {a b : Addr} (_ : Dice H a) (d : Dice H1 a) (h : H1 b = none) : b ≠ a := d.ne h
theorem Go.up {a : Addr} {H : Hp} {g m c : Int} : Go a H (upd H a (.lst [.int g, .int m, .int c])) := ⟨But.upd, g, m, c, upd_same⟩
theorem Go.trans {a : Addr} {H H1 H2 : Hp} (x : Go a H H1) (y : Go a H1 H2) : Go a H H2 := ⟨x.b.trans y.b, y.d⟩
theorem Go.new {a b : Addr} {H H1 : Hp} {o : HO} (x : Go a H H1) (h : H1 b = none) : Go a H (upd H1 b o) := by
  refine ⟨x.b.trans (But.of (Evl.Ex.new h)), ?_⟩
  obtain ⟨g, m, c, e⟩ := x.d
  exact ⟨g, m, c, by rw [upd_ne (Ne.symm (x.d.ne h)), e]⟩
theorem Go.fresh {a b : Addr} {H H1 : Hp} (x : Go a H H1) (d : Dice H a) (h : H1 b = none) : H b = none := by
  cases e : H b with
  | none => rfl
  | some o =>
    have := x.b b o (x.d.ne h) e
    rw [h] at this
    cases this
theorem Go.nw {a : Addr} {H H1 H2 : Hp} (x : Go a H H1) (d : Dice H a) : Evl.Ex (LN.nw H1 H2) (LN.nw H H2) := nw_ex (fun b h => x.fresh d h) fun _ _ _ _ e => e
theorem Go.nwu {a t : Addr} {H H1 H2 : Hp} {o : HO} (x : Go a H H1) (d : Dice H a) (ht : H2 t = none) : Evl.Ex (LN.nw H1 H2) (LN.nw H (upd H2 t o)) :=
  nw_ex (fun b h => x.fresh d h) fun b o _ _ e => by rw [upd_ne (ne_of_none e ht)]; exact e
theorem Go.nw2 {a : Addr} {H H1 H2 : Hp} (d : Dice H a) (x : Go a H1 H2) : Evl.Ex (LN.nw H H1) (LN.nw H H2) := nw_ex (fun b h => h) fun b o h _ e => x.b b o (d.ne h) e
theorem Go.refl {a : Addr} {H : Hp} (d : Dice H a) : Go a H H := ⟨fun _ _ _ e => e, d⟩
section
variable {K : PySem.W.Frag} {H H' : Hp}
mutual
theorem dp_mono (e : Evl.Ex H H') : ∀ {d : PyData} {v : V}, Dp K H v d → Dp K H' v d
  | _, _, .non => .non
  | _, _, .bl b => .bl b
  | _, _, .int i => .int i
  | _, _, .str x => .str x
  | _, _, .lst h r => .lst (Evl.ex_l e h) (dpa_mono e r)
  | _, _, .tup h r => .tup (Evl.ex_t e h) (dpa_mono e r)
theorem dpa_mono (e : Evl.Ex H H') : ∀ {ds : List PyData} {vs : List V}, DpAll K H vs ds → DpAll K H' vs ds
  | _, _, .nil => .nil
  | _, _, .cons a b => .cons (dp_mono e a) (dpa_mono e b)
end
theorem dpa_snoc {vs : List V} {ds : List PyData} {v : V} {d : PyData} : DpAll K H vs ds → Dp K H v d → DpAll K H (vs ++ [v]) (ds ++ [d])
  | .nil, h => .cons h .nil
  | .cons a b, h => .cons a (dpa_snoc b h)
end
def spPullG : Sp := fun vs H Q _ => ∃ (a : Addr) (t : Int), vs = [.ref a, .int t] ∧ Dice H a ∧ 0 < t ∧ t < 1073741824 ∧ ∀ (r : Int) (H' : Hp), 0 ≤ r → r < t → Go a H H' → Q (.int r) H'
def spPickG (K : PySem.W.Frag) : Sp := fun vs H Q _ => ∃ (a p : Addr) (xs : List V), vs = [.ref a, .ref p] ∧ Dice H a ∧ p ≠ a ∧ SqL K H p xs ∧ 0 < xs.length ∧ xs.length ≤ 1000 ∧ ∀ (v : V) (H' : Hp), v ∈ xs → Go a H H' → Q v H'
theorem fn_less {P : Program} {w : World} {K : PySem.W.Frag} {mg : Str → Option Value} {base : Heap} {CX : CXT} {k : Nat} {f : Addr} {fd : FuncData} {ps : List Str} {sp sp' : Sp} (F : FnOk P w K mg base CX k f fd ps sp) (h : ∀ vs H Q E, sp' vs H Q E → sp vs H Q E) : FnOk P w K mg base CX k f fd ps sp' :=
  ⟨fun vs H Q E z => F.len vs H Q E (h _ _ _ _ z), fun A outer s H args us vs Q E hr e0 hb r z => F.run A outer s H args us vs Q E hr e0 hb r (h _ _ _ _ z)⟩
theorem pull_go {vs : List V} {H : Hp} {Q : VK} {E : XK} : spPullG vs H Q E → spPull vs H Q E := fun ⟨a, t, h1, h2, h3, h4, h5⟩ => ⟨a, t, h1, h2, h3, h4, fun r g m c r0 r1 => h5 r _ r0 r1 Go.up⟩
theorem pick_go {K : PySem.W.Frag} {vs : List V} {H : Hp} {Q : VK} {E : XK} : spPickG K vs H Q E → spPick K vs H Q E := fun ⟨a, p, xs, h1, h2, h3, h4, h5, h6, h7⟩ => ⟨a, p, xs, h1, h2, h3, h4, h5, h6, fun v g m c hv => h7 v _ hv Go.up⟩
/-! an if with one way on, met twice -/
theorem q_ifB {c : TT} {tb tz : TS} {D : Ends} {σ : L2.St} {H : Hp} (R : Hp → Prop) (hz : ∀ H2, R H2 → tz D σ H2) (h : ∀ Z : Hp → Prop, (∀ H2, R H2 → Z H2) → c σ H (fun b H1 => if b = true then tb { D with nx := tz D } σ H1 else Z H1)) : tSeq (tIfS c tb tNext) tz D σ H := h (fun H2 => tz D σ H2) hz
theorem q_ifT {c : TT} {tb tz : TS} {D : Ends} {σ : L2.St} {H : Hp} (R : Hp → Prop) (hb : ∀ H2, R H2 → tb { D with nx := tz D } σ H2) (h : ∀ Z : Hp → Prop, (∀ H2, R H2 → Z H2) → c σ H (fun b H1 => if b = true then Z H1 else tz D σ H1)) : tSeq (tIfS c tb tNext) tz D σ H := h (fun H2 => tb { D with nx := tz D } σ H2) hb
theorem q_if1 {c : TT} {tb tz : TS} {D : Ends} {σ : L2.St} {H : Hp} (h : c σ H (fun b H1 => if b = true then tb { D with nx := tz D } σ H1 else tz D σ H1)) : tSeq (tIfS c tb tNext) tz D σ H := h
theorem q_asgR {i : Nat} {te : TE} {tz : TS} {D : Ends} {σ : L2.St} {H : Hp} (h : te σ H (fun v H1 => tz D (σ.set i (some v)) H1)) : tSeq (tAsg te (gName i)) tz D σ H := h
theorem g_name {i : Nat} {v : V} {σ : L2.St} {H : Hp} {k : L2.St → Hp → Prop} (h : k (σ.set i (some v)) H) : gName i v σ H k := h
theorem sqL_upd {K : PySem.W.Frag} {H H0 : Hp} {p q : Addr} {xs : List V} {o : HO} (h : SqL K H p xs) (h0 : SqL K H0 p xs) (hq : H0 q = none) : SqL K (upd H q o) p xs := by
  have off : ∀ {u : HO}, H0 p = some u → p ≠ q := fun e => ne_of_none e hq
  rcases h0 with (h0 | ⟨u, h0⟩) | h0
  · rcases h with (h | ⟨o', h⟩) | h
    · exact .inl (.inl (by rw [upd_ne (off h0)]; exact h))
    · exact .inl (.inr ⟨o', by rw [upd_ne (off h0)]; exact h⟩)
    · exact .inr h
  · rcases h with (h | ⟨o', h⟩) | h
    · exact .inl (.inl (by rw [upd_ne (off h0)]; exact h))
    · exact .inl (.inr ⟨o', by rw [upd_ne (off h0)]; exact h⟩)
    · exact .inr h
  · exact .inr h0

/-! ### the program: integers -/
theorem pe_cls {X : Cx} {x : Str} {pos : Pos} {a : Addr} (hg : Gl X x) (hm : X.mg x = some (.ref a)) (hd : (x == ("__debug__" : Str)) = false := by decide) : PE X (.Name x pos) (tC (.ref a)) := pe_glob hg hm rfl hd
theorem pe_tyb {X : Cx} {x : Str} {pos : Pos} {n : String} (hg : Gl X x) (hm : X.mg x = none) (hv : bootBuiltins x = some (.type n)) (hn : x ≠ "__name__" := by decide) (hd : (x == ("__debug__" : Str)) = false := by decide) : PE X (.Name x pos) (tC (.ty n)) := pe_bltn hg hm hv rfl hn hd
def rTyAny (K : PySem.W.Frag) : List V → Hp → VK → Prop := fun xs H Q => rTyp K xs H Q ∨ ∃ a C dx fs, xs = [V.ref a] ∧ H a = some (.ins C dx fs) ∧ Q (.ref C) H
theorem call_tyAny {X : Cx} : CallR X (.type "type") (rTyAny X.K) := by
  intro pins s σ H xs us Q I r h
  rcases h with h | h
  · exact call_type1 pins s σ H xs us Q I r h
  · exact cr_type pins s σ H xs us Q I r h
/-- whether a value is an integer, where that can be told -/
inductive Kd (K : PySem.W.Frag) (H : Hp) : V → Bool → Prop
  | int (i : Int) : Kd K H (.int i) true
  | non : Kd K H .non false
  | bl (b : Bool) : Kd K H (.bl b) false
  | str (x : Str) : Kd K H (.str x) false
  | tup {a : Addr} {xs : List V} (h : SqT K H a xs) : Kd K H (.ref a) false
  | ins {a C dx : Addr} {fs : List (Str × V)} (h : H a = some (.ins C dx fs)) (m : metaIn K C = true) : Kd K H (.ref a) false
section
variable {P : Program} {w : World} {K : PySem.W.Frag} {mg : Str → Option Value} {base : Heap}
def spWhole (K : PySem.W.Frag) : Sp := fun vs H Q _ => ∃ (x : V) (b : Bool), vs = [x] ∧ Kd K H x b ∧ Q (.bl b) H
theorem scWhole : FnScope ["value"] ["value"] (defScope sWhole) := ⟨rfl, rfl, rfl, by decide +kernel, rfl, by decide +kernel, by decide +kernel⟩
theorem okWhole {f : Addr} {fd : FuncData} (F : Fun K "is_whole" "is_whole" sWhole f fd) (T : Bt mg) : FnOk P w K mg base CX0 1 f fd ["value"] (spWhole K) := by
  refine F.ok scWhole (fun vs H Q E h => ?_) (fun cdv A outer s H vs Q E hr h => ?_)
  · obtain ⟨x, b, rfl, _⟩ := h
    rfl
  · obtain ⟨x, b, rfl, k, q⟩ := h
    have hu := Nat.lt_of_succ_lt (hu_of hr)
    refine ⟨_, (pss_one (ps_ret (pe_cmpR (op_eq_tyI hu) (pe_callTy call_tyAny (by rfl) T.type (by decide +kernel) (pa_cons (pv 0) pa_nil)) (pe_tyb (by rfl) T.int (by rfl)) (nomark _)))), ?_⟩
    cases k with
    | int i => exact ⟨_, rfl, .inl ⟨_, "int", rfl, .int i, rfl, .inl ⟨"int", rfl, .int, q⟩⟩⟩
    | non => exact ⟨_, rfl, .inl ⟨_, "NoneType", rfl, .non, rfl, .inl ⟨"NoneType", rfl, .non, q⟩⟩⟩
    | bl b => exact ⟨_, rfl, .inl ⟨_, "bool", rfl, .bl b, rfl, .inl ⟨"bool", rfl, .bool, q⟩⟩⟩
    | str z => exact ⟨_, rfl, .inl ⟨_, "str", rfl, .str z, rfl, .inl ⟨"str", rfl, .str, q⟩⟩⟩
    | tup h => exact ⟨_, rfl, .inl ⟨_, "tuple", rfl, .tup h, rfl, .inl ⟨"tuple", rfl, .tup, q⟩⟩⟩
    | ins h m => exact ⟨_, rfl, .inr ⟨_, _, _, _, rfl, h, rfl, .inr ⟨_, rfl, m, q⟩⟩⟩
def spAreW (K : PySem.W.Frag) : Sp := fun vs H Q _ => ∃ (a : Addr) (ns : List Int), vs = [.ref a] ∧ SqT K H a (ns.map V.int) ∧ Q (.bl true) H
theorem scAreW : FnScope ["value", "one"] ["value"] (defScope sAreW) := ⟨rfl, rfl, rfl, by decide +kernel, rfl, by decide +kernel, by decide +kernel⟩
theorem tyx_tup {K : PySem.W.Frag} {H : Hp} {a : Addr} {xs : List V} (h : SqT K H a xs) : TyX K H (.ref a) (.type "tuple") := by
  rcases h with (h | ⟨o, h⟩) | h
  · exact .base (.tup h)
  · exact .fTuple h
  · obtain ⟨o, its, n, h, hc, _⟩ := h
    exact .kTuple h hc
theorem okAreW {f : Addr} {fd : FuncData} (F : Fun K "are_whole" "are_whole" sAreW f fd) (T : Bt mg) : FnOk P w K mg base CX0 1 f fd ["value"] (spAreW K) := by
  refine F.ok scAreW (fun vs H Q E h => ?_) (fun cdv A outer s H vs Q E hr h => ?_)
  · obtain ⟨a, ns, rfl, _⟩ := h
    rfl
  · obtain ⟨a, ns, rfl, hS, q⟩ := h
    refine ⟨_, (pss_cons (ps_if (pt_not (pt_val (pe_callB call_isi (by rfl) T.isinstance (by decide +kernel) (pa_cons (pv 0) (pa_cons (pe_tyb (by rfl) T.tuple (by rfl)) pa_nil))))) (pss_one (ps_ret pe_bl)) pss_nil)
  (pss_cons (ps_for PassesOwn.never rfl (pi_tup (pv 0)) (pg_name (i := 1) scAreW.nd rfl (Or.inl rfl)) (pss_one (ps_if (pt_cmpR op_ne_II (pe_callTy call_tyAny (by rfl) T.type (by decide +kernel) (pa_cons (pv 1) pa_nil)) (pe_tyb (by rfl) T.int (by rfl)) (nomark _)) (pss_one (ps_ret pe_bl)) pss_nil)))
  (pss_one (ps_ret pe_bl)))), ?_⟩
    refine ⟨_, rfl, _, .ty "tuple", .type "tuple", .type "tuple", true, rfl, .ty "tuple", tyx_tup hS, if_pos (beq_self_eq_true _), true, rfl, iteF ?_⟩
    refine ⟨_, rfl, a, rfl, ⟨_, hS⟩, for_tup (xs := ns.map V.int) (fun i σ' H' => H' = H ∧ ∃ u, σ' = [some (.ref a), u]) ⟨rfl, none, rfl⟩ ?_ ?_ ?_⟩
    · rintro i σ' H' _ ⟨rfl, _⟩
      exact hS
    · rintro i x σ' H' hx ⟨rfl, u, rfl⟩
      obtain ⟨z, _, rfl⟩ : ∃ z, z ∈ ns ∧ V.int z = x := by
        have := List.mem_of_getElem? hx
        exact List.mem_map.mp this
      exact ⟨_, rfl, .inl ⟨_, "int", rfl, .int z, rfl, rfl, _, rfl, iteF ⟨rfl, _, rfl⟩⟩⟩
    · rintro σ' H' ⟨rfl, u, rfl⟩
      exact q

def spChk : Sp := fun vs H Q _ => ∃ i : Int, vs = [.int i] ∧ Q .non H
theorem scChk : FnScope ["value"] ["value"] (defScope sChk) := ⟨rfl, rfl, rfl, by decide +kernel, rfl, by decide +kernel, by decide +kernel⟩
theorem okChk {f f1 : Addr} {fd fd1 : FuncData} (F : Fun K "check_whole" "check_whole" sChk f fd) (T : Bt mg) (Dis_whole : Dn K mg "is_whole" sWhole f1 fd1 ["value"]) : FnOk P w K mg base CX0 2 f fd ["value"] spChk := by
  have Gis_whole : FnOk P w K mg base CX0 1 f1 fd1 ["value"] (spWhole K) := okWhole Dis_whole.F T
  refine F.ok scChk (fun vs H Q E h => ?_) (fun cdv A outer s H vs Q E hr h => ?_)
  · obtain ⟨i, rfl, _⟩ := h
    rfl
  · obtain ⟨i, rfl, q⟩ := h
    refine ⟨_, (pss_one (ps_if (pt_not (pt_val (pe_call Gis_whole hr rfl Dis_whole.m Dis_whole.F.kp Dis_whole.b .nil pass0 (pa_cons (pv 0) pa_nil)))) (pss_one ps_never) pss_nil)), ?_⟩
    exact ⟨_, rfl, _, true, rfl, .int i, true, rfl, q⟩
def spChkA (K : PySem.W.Frag) : Sp := fun vs H Q _ => ∃ (a : Addr) (ns : List Int), vs = [.ref a] ∧ SqT K H a (ns.map V.int) ∧ Q .non H
theorem scChkA : FnScope ["value"] ["value"] (defScope sChkA) := ⟨rfl, rfl, rfl, by decide +kernel, rfl, by decide +kernel, by decide +kernel⟩
theorem okChkA {f f1 : Addr} {fd fd1 : FuncData} (F : Fun K "check_all_whole" "check_all_whole" sChkA f fd) (T : Bt mg) (Dare_whole : Dn K mg "are_whole" sAreW f1 fd1 ["value"]) : FnOk P w K mg base CX0 2 f fd ["value"] (spChkA K) := by
  have Gare_whole : FnOk P w K mg base CX0 1 f1 fd1 ["value"] (spAreW K) := okAreW Dare_whole.F T
  refine F.ok scChkA (fun vs H Q E h => ?_) (fun cdv A outer s H vs Q E hr h => ?_)
  · obtain ⟨a, ns, rfl, _⟩ := h
    rfl
  · obtain ⟨a, ns, rfl, hS, q⟩ := h
    refine ⟨_, (pss_one (ps_if (pt_not (pt_val (pe_call Gare_whole hr rfl Dare_whole.m Dare_whole.F.kp Dare_whole.b .nil pass0 (pa_cons (pv 0) pa_nil)))) (pss_one ps_never) pss_nil)), ?_⟩
    exact ⟨_, rfl, a, ns, rfl, hS, true, rfl, q⟩
/-! ### count_below -/
def cntL (ws : List Int) (k : Int) : Nat := (ws.filter fun z => decide (z < k)).length
theorem cnt_split {ws : List Int} {k : Int} {n : Nat} (hn : n ≤ ws.length) (h1 : ∀ i (h : i < ws.length), i < n → ws[i] < k) (h2 : ∀ i (h : i < ws.length), n ≤ i → k ≤ ws[i]) : cntL ws k = n := by
  have a : (ws.take n).filter (fun z => decide (z < k)) = ws.take n := List.filter_eq_self.mpr fun z hz => by
    obtain ⟨i, hi, rfl⟩ := List.mem_iff_getElem.mp hz
    rw [List.length_take] at hi
    rw [List.getElem_take]
    exact decide_eq_true (h1 i (by omega) (by omega))
  have b : (ws.drop n).filter (fun z => decide (z < k)) = [] := List.filter_eq_nil_iff.mpr fun z hz => by
    obtain ⟨i, hi, rfl⟩ := List.mem_iff_getElem.mp hz
    rw [List.length_drop] at hi
    rw [List.getElem_drop]
    have := h2 (n + i) (by omega) (by omega)
    simp
    omega
  unfold cntL
  have e : ws.filter (fun z => decide (z < k)) = ((ws.take n).filter fun z => decide (z < k)) ++ ((ws.drop n).filter fun z => decide (z < k)) := by
    rw [← List.filter_append, List.take_append_drop]
  rw [e, a, b, List.append_nil, List.length_take]
  omega
theorem atI_int {ws : List Int} {i : Nat} (h : i < ws.length) : atI (ws.map V.int) (i : Int) = some (.int ws[i]) := by
  unfold atI
  rw [Evl.ixN_nat (by rw [List.length_map]; exact h)]
  simp [h]
theorem ev_lenT {σ : L2.St} {H : Hp} {ta : TE} {p : Addr} {xs : List V} (ha : Evl.Ev ta σ H (.ref p)) (h : SqT K H p xs) : Evl.Ev (tCB (Evl.rLenS K) (tCons ta tNil)) σ H (.int (xs.length : Int)) := fun H1 e Q q =>
  ha H1 e _ fun H2 e2 => ⟨p, xs, rfl, .inr (Evl.ex_t (e.trans e2) h), q H2 (e2)⟩
def spBelow (K : PySem.W.Frag) : Sp := fun vs H Q _ => ∃ (g : Addr) (ws : List Int) (k : Int), vs = [.ref g, .int k] ∧ SqT K H g (ws.map V.int) ∧ ws.Pairwise (· < ·) ∧ Evl.RetV (.int (cntL ws k : Nat)) H Q
theorem scBelow : FnScope ["ascending", "number", "low", "high", "middle"] ["ascending", "number"] (defScope sBelow) := ⟨rfl, rfl, rfl, by decide +kernel, rfl, by decide +kernel, by decide +kernel⟩
theorem okBelow {f : Addr} {fd : FuncData} (F : Fun K "count_below" "count_below" sBelow f fd) (T : Bt mg) : FnOk P w K mg base CX0 1 f fd ["ascending", "number"] (spBelow K) := by
  refine F.ok scBelow (fun vs H Q E h => ?_) (fun cdv A outer s H vs Q E hr h => ?_)
  · obtain ⟨g, ws, k, rfl, _⟩ := h
    rfl
  · obtain ⟨g, ws, k, rfl, hS, hP, q⟩ := h
    have lt : ∀ i j (hi : i < ws.length) (hj : j < ws.length), i < j → ws[i] < ws[j] := fun i j hi hj hij => List.pairwise_iff_getElem.mp hP i j hi hj hij
    refine ⟨_, (pss_cons (ps_set (i := 2) scBelow.nd rfl (Or.inl rfl) pe_int)
  (pss_cons (ps_set (i := 3) scBelow.nd rfl (Or.inl rfl) (pe_callB call_len_seq (by rfl) T.len (by decide +kernel) (pa_cons (pv 0) pa_nil)))
  (pss_cons (ps_while PassesOwn.never (pt_cmpR op_lt (pv 2) (pv 3) (nomark _)) (pss_cons (ps_set (i := 4) scBelow.nd rfl (Or.inl rfl) (pe_op op_fdiv (pe_op op_add (pv 2) (pv 3)) pe_int))
  (pss_one (ps_if (pt_cmpR op_lt (pe_ix ix_tup (pv 0) (pv 4) (fun _ _ => rfl)) (pv 1) (nomark _)) (pss_one (ps_set (i := 2) scBelow.nd rfl (Or.inl rfl) (pe_op op_add (pv 4) pe_int))) (pss_one (ps_set (i := 3) scBelow.nd rfl (Or.inl rfl) (pv 4)))))))
  (pss_one (ps_ret (pv 2)))))), ?_⟩
    refine Evl.q_asg Evl.ev_c fun H1 e1 => ?_
    refine Evl.q_asg (ev_lenT (Evl.ev_var rfl) (Evl.ex_t e1 hS)) fun H2 e2 => ?_
    rw [List.length_map]
    refine Evl.q_while (fun m σ' H' => ∃ (lo hi : Nat) (u : Option V), σ' = [some (.ref g), some (.int k), some (.int (lo : Int)), some (.int (hi : Int)), u] ∧ Evl.Ex H H' ∧ m = hi - lo ∧ lo ≤ hi ∧ hi ≤ ws.length ∧
      (∀ i (h : i < ws.length), i < lo → ws[i] < k) ∧ (∀ i (h : i < ws.length), hi ≤ i → k ≤ ws[i])) ws.length ⟨0, ws.length, none, rfl, e1.trans e2, rfl, Nat.zero_le _, Nat.le_refl _, fun i h z => absurd z (Nat.not_lt_zero _), fun i h z => absurd h (Nat.not_lt.mpr z)⟩ ?_
    rintro m σ' H' ⟨lo, hi, u, rfl, ex, rfl, hl, hh, h1, h2⟩
    refine ⟨decide ((lo : Int) < (hi : Int)), Evl.et_test (Evl.ev_op (Evl.ev_var rfl) (Evl.ev_var rfl) Evl.rv_I0), fun hb H3 e3 => ?_, fun hb H3 e3 => ?_⟩
    · have hlt : lo < hi := by
        rw [decide_eq_true_eq] at hb
        omega
      refine ⟨_, fun σ2 H2 h => h, ?_⟩
      have hm : ((lo : Int) + (hi : Int)) / 2 = (((lo + hi) / 2 : Nat) : Int) := by omega
      have hmid : (lo + hi) / 2 < ws.length := by omega
      refine Evl.q_asg (Evl.ev_is (Evl.ev_op (Evl.ev_op (Evl.ev_var rfl) (Evl.ev_var rfl) Evl.rv_I0) Evl.ev_c (Evl.rv_I ⟨by decide, by decide⟩)) (congrArg V.int hm)) fun H4 e4 => ?_
      generalize hM : (lo + hi) / 2 = mid at hmid
      have hS4 := Evl.ex_t ((ex.trans e3).trans e4) hS
      refine Evl.s_if (b := decide (ws[mid] < k)) (Evl.et_test (Evl.ev_op (Evl.ev_op (Evl.ev_var rfl) (Evl.ev_var rfl) (Evl.rv_ixT hS4 (atI_int hmid))) (Evl.ev_var rfl) Evl.rv_I0)) (fun hc H5 e5 => ?_) (fun hc H5 e5 => ?_)
      · have hc := of_decide_eq_true hc
        refine Evl.s_asg (Evl.ev_op (Evl.ev_var rfl) Evl.ev_c Evl.rv_I0) fun H6 e6 => ⟨hi - (mid + 1), by omega, mid + 1, hi, some (.int (mid : Int)), ?_, ((((ex.trans e3).trans e4).trans e5).trans e6), rfl, by omega, hh, fun i h z => ?_, h2⟩
        · rfl
        · rcases Nat.lt_or_ge i mid with y | y
          · have := lt i mid h hmid y
            omega
          · obtain rfl : i = mid := by omega
            exact hc
      · have hc := of_decide_eq_false hc
        refine Evl.s_asg (Evl.ev_var rfl) fun H6 e6 => ⟨mid - lo, by omega, lo, mid, some (.int (mid : Int)), rfl, ((((ex.trans e3).trans e4).trans e5).trans e6), rfl, by omega, by omega, h1, fun i h z => ?_⟩
        rcases Nat.lt_or_ge mid i with y | y
        · have := lt mid i hmid h y
          omega
        · obtain rfl : i = mid := by omega
          omega
    · have hle : lo = hi := by
        rw [decide_eq_false_iff_not] at hb
        omega
      subst hle
      refine Evl.s_ret (Evl.ev_var rfl) fun H4 e4 => ?_
      have := cnt_split hh h1 h2
      rw [← this]
      exact q _ ((ex.trans e3).trans e4)

/-! ### the class Line -/
structure LC (K : PySem.W.Frag) (C : Addr) : Prop where
  cl : Cls K C
  nG : NoAttr K C "_given"
  mt : metaIn K C = true
  sf : PySem.W.selfFirst K C = true
  ne : OwnNe K C
  nb : PySem.W.findIn K (.ref C) "__bool__" = some none
  ca : PySem.W.findIn K (.ref C) "__class__" = some (some (.builtin "object.__class__"))
  cn : PySem.W.specialIn K (.builtin "object.__class__") "__get__" = some (some (.builtin "getset_descriptor.__get__"))
  ct : PySem.W.takesIn K (.builtin "object.__class__") = some true
  cm : PySem.W.mroIn K C (.type "object") = some true
  isC : PySem.W.kitOne K (.ref C) (.ref C) = some true
  isT : PySem.W.kitOne K (.type "tuple") (.ref C) = some false
  isI : PySem.W.kitOne K (.type "int") (.ref C) = some false
  nfT : PySem.W.notFirst K C (.type "tuple") = true
  nfI : PySem.W.notFirst K C (.type "int") = true
  nfC : PySem.W.notFirst K C (.ref C) = true
/-- ascending, with the members of a list -/
structure Asc (ns ws : List Int) : Prop where
  up : ws.Pairwise (· < ·)
  mem : ∀ k, k ∈ ws ↔ k ∈ ns
theorem asc_ext : ∀ {ws us : List Int}, ws.Pairwise (· < ·) → us.Pairwise (· < ·) → (∀ k, k ∈ ws ↔ k ∈ us) → ws = us
  | [], [], _, _, _ => rfl
  | [], u :: us, _, _, h => absurd ((h u).mpr List.mem_cons_self) (by simp)
  | v :: ws, [], _, _, h => absurd ((h v).mp List.mem_cons_self) (by simp)
  | v :: ws, u :: us, p, q, h => by
    obtain ⟨p1, p2⟩ := List.pairwise_cons.mp p
    obtain ⟨q1, q2⟩ := List.pairwise_cons.mp q
    have e : v = u := by
      have a := (h v).mp List.mem_cons_self
      have b := (h u).mpr List.mem_cons_self
      rcases List.mem_cons.mp a with a | a
      · exact a
      · rcases List.mem_cons.mp b with b | b
        · exact b.symm
        · have := q1 v a
          have := p1 u b
          omega
    subst e
    refine congrArg (v :: ·) (asc_ext p2 q2 fun k => ?_)
    have hk := h k
    constructor
    · intro m
      rcases List.mem_cons.mp (hk.mp (List.mem_cons_of_mem _ m)) with z | z
      · have := p1 k m
        omega
      · exact z
    · intro m
      rcases List.mem_cons.mp (hk.mpr (List.mem_cons_of_mem _ m)) with z | z
      · have := q1 k m
        omega
      · exact z
theorem Asc.eq {ns ws us : List Int} (a : Asc ns ws) (b : Asc ns us) : ws = us := asc_ext a.up b.up fun k => (a.mem k).trans (b.mem k).symm
theorem nodup_len : ∀ {ws ns : List Int}, ws.Pairwise (· < ·) → (∀ k ∈ ws, k ∈ ns) → ws.length ≤ ns.length := fun {ws ns} p h =>
  XT.nodup_len (p.imp fun h => by omega) h
def LineAt (K : PySem.W.Frag) (C : Addr) (H : Hp) (a : Addr) (ws : List Int) : Prop := ∃ dx g, H a = some (.ins C dx [("_given", .ref g)]) ∧ SqT K H g (ws.map V.int)
theorem LineAt.ex {C a : Addr} {H H' : Hp} {ws : List Int} (e : Evl.Ex H H') (h : LineAt K C H a ws) : LineAt K C H' a ws := by
  obtain ⟨dx, g, h1, h2⟩ := h
  exact ⟨dx, g, e _ _ h1, Evl.ex_t e h2⟩
def IsLine (K : PySem.W.Frag) (C : Addr) (ns : List Int) : V → Hp → Prop := fun v H => ∃ a ws, v = .ref a ∧ LineAt K C H a ws ∧ Asc ns ws
theorem stays_line {C : Addr} {ns : List Int} : Stays (IsLine K C ns) := fun v H H' e ⟨a, ws, h1, h2, h3⟩ => ⟨a, ws, h1, h2.ex e, h3⟩
def RetP (R : V → Hp → Prop) (H : Hp) (Q : VK) : Prop := ∀ v H', Evl.Ex H H' → R v H' → Q v H'
/-! __init__ -/
def Lined (C x dx : Addr) (ns : List Int) (H : Hp) (Q : VK) : Prop := ∀ (g : Addr) (ws : List Int) (H' : Hp), Asc ns ws → (∀ b o, b ≠ x → H b = some o → H' b = some o) → H' x = some (.ins C dx [("_given", .ref g)]) → H' g = some (.tup (ws.map V.int)) → Q .non H'
def spLini (K : PySem.W.Frag) (C : Addr) : Sp := fun vs H Q _ => ∃ (x dx p : Addr) (ns : List Int), vs = [.ref x, .ref p] ∧ H x = some (.ins C dx []) ∧ SqT K H p (ns.map V.int) ∧ ns.length ≤ 50 ∧ Lined C x dx ns H Q
def spLin (C : Addr) : Sp := fun vs H Q _ => ∃ (x dx : Addr) (ns : List Int), vs = .ref x :: ns.map V.int ∧ H x = some (.ins C dx []) ∧ ns.length ≤ 50 ∧ Lined C x dx ns H Q
theorem scLi : FnScope ["self", "numbers"] ["self", "numbers"] (defScope sLi) := ⟨rfl, rfl, rfl, by decide +kernel, rfl, by decide +kernel, by decide +kernel⟩
theorem okLi {C f f1 f2 : Addr} {fd fd1 fd2 : FuncData} (F : Fun K "__init__" "Line.__init__" sLi f fd) (T : Bt mg) (c : LC K C) (Dcheck_all_whole : Dn K mg "check_all_whole" sChkA f2 fd2 ["value"]) (Dare_whole : Dn K mg "are_whole" sAreW f1 fd1 ["value"]) : FnR P w K mg base CX0 3 f (spLin C) := by
  have Gcheck_all_whole : FnOk P w K mg base CX0 2 f2 fd2 ["value"] (spChkA K) := okChkA Dcheck_all_whole.F T Dare_whole
  refine FnR.imp (okStar (sp := spLini K C) (ps := ["self"]) (pv := "numbers") F scLi (fun kV doc pm an cdv ct us rest hl => match us, rest, hl with | [_], [], _ => rfl | [_], _ :: _, _ => rfl) (fun cdv A outer s H vs Q E hr h => ?_)) (fun vs H Q E h => ?_)
  · obtain ⟨x, dx, p, ns, rfl, hx, hp, hz, k⟩ := h
    refine ⟨_, (pss_cons (ps_expr (pe_call Gcheck_all_whole hr rfl Dcheck_all_whole.m Dcheck_all_whole.F.kp Dcheck_all_whole.b .nil pass0 (pa_cons (pv 1) pa_nil)))
  (pss_one (ps_fld (pv 0) (pe_callTy call_tuple_of (by rfl) T.tuple (by decide +kernel) (pa_cons (pe_callB (cr_sortedSet rfl) (by rfl) T.sorted (by decide +kernel) (pa_cons (pe_callTy (cr_setT rfl) (by rfl) T.set (by decide +kernel) (pa_cons (pv 1) pa_nil)) pa_nil)) pa_nil)) rfl))), ?_⟩
    refine ⟨_, rfl, p, ns, rfl, hp, _, rfl, p, ns, rfl, hp, by omega, fun p1 n h1 hn => ⟨p1, _, n, rfl, upd_same, by omega, fun ws p2 up mem len h2 => ⟨p2, _, rfl, .inl ⟨SqL.of upd_same, fun p3 h3 => ?_⟩⟩⟩⟩
    have e3 : Evl.Ex H (upd (upd (upd H p1 (SetO w p1 (fun k => decide (k ∈ ns)) n)) p2 (.lst (ws.map V.int))) p3 (.tup (ws.map V.int))) := ((Evl.Ex.new h1).trans (Evl.Ex.new h2)).trans (Evl.Ex.new h3)
    refine ⟨_, rfl, x, C, dx, [], rfl, e3 _ _ hx, c.cl, c.nG, by decide, ?_⟩
    have n0 : H p3 = none := Evl.fresh_back ((Evl.Ex.new h1).trans (Evl.Ex.new (o := .lst (ws.map V.int)) h2)) h3
    have n3 : p3 ≠ x := fun z => by
      rw [z, hx] at n0
      cases n0
    refine k p3 ws _ ⟨up, fun k => ?_⟩ (fun b o hb e => ?_) upd_same ?_
    · rw [mem k, decide_eq_true_eq]
    · rw [upd_ne hb]
      exact e3 _ _ e
    · rw [upd_ne n3, upd_same]
  · obtain ⟨x, dx, ns, rfl, hx, hz, k⟩ := h
    refine ⟨[.ref x], ns.map V.int, rfl, rfl, ?_, fun p hp => ⟨x, dx, p, ns, rfl, (Evl.Ex.new hp) _ _ hx, SqT.of upd_same, hz, fun g ws H' a b h1 h2 => k g ws H' a (fun d o hd e => b d o hd ((Evl.Ex.new hp) _ _ e)) h1 h2⟩⟩
    rw [List.length_map, sizeLine_eq]
    omega
theorem mk_run {C : Addr} {H1 : Hp} {ns : List Int} {Q : VK} {E : XK} (hz : ns.length ≤ 50) (k : ∀ v H2, Evl.Ex H1 H2 → IsLine K C ns v H2 → Q v H2) :
    ∀ x dx, H1 x = none → H1 dx = none → dx ≠ x → spLin C (.ref x :: ns.map V.int) (upd (upd H1 dx (.own x)) x (.ins C dx [])) (fun v H2 => v = .non ∧ Q (.ref x) H2) E := by
  intro x dx hx hd ne
  refine ⟨x, dx, ns, rfl, upd_same, hz, fun g ws H' a b h1 h2 => ⟨rfl, k _ _ (fun d o e => ?_) ⟨x, ws, rfl, ⟨dx, g, h1, SqT.of h2⟩, a⟩⟩⟩
  have n1 : d ≠ x := ne_of_none e hx
  refine b d o n1 ?_
  rw [upd_ne n1, upd_ne (ne_of_none e hd)]
  exact e
section
variable {σ : L2.St} {H : Hp} {te : TE} {ta : TA} {C : Addr} {ns : List Int} {E : XK}
theorem evp_mkS (h : EvP te σ H fun v H => ∃ a, v = .ref a ∧ SqT K H a (ns.map V.int)) (hz : ns.length ≤ 50) : EvP (tMkS K C (spLin C) E te) σ H (IsLine K C ns) := fun H1 e Q q => h H1 e _ fun v H2 e2 ⟨a, ea, ht⟩ =>
  ⟨a, _, ea, .inl ht, mk_run hz fun v H3 e3 p => q v H3 (e2.trans e3) p⟩
theorem evp_mkR (h : Evl.EvA ta σ H (ns.map V.int)) (hz : ns.length ≤ 50) : EvP (StX.tMakeR C (spLin C) E ta) σ H (IsLine K C ns) := fun H1 e Q q => h H1 e _ fun H2 e2 => mk_run hz fun v H3 e3 p => q v H3 (e2.trans e3) p
theorem evp_mk0 : EvP (tMk0 C (spLin C) E) σ H (IsLine K C []) := fun H1 e Q q => mk_run (ns := []) (by decide) fun v H3 e3 p => q v H3 e3 p
end
/-! of -/
def spLof (K : PySem.W.Frag) (C : Addr) : Sp := fun vs H Q _ => ∃ (p : Addr) (ns : List Int), vs = [.ref C, .ref p] ∧ SqT K H p (ns.map V.int) ∧ ns.length ≤ 50 ∧ RetP (IsLine K C ns) H Q
theorem scLof : FnScope ["cls", "numbers"] ["cls", "numbers"] (defScope sLof) := ⟨rfl, rfl, rfl, by decide +kernel, rfl, by decide +kernel, by decide +kernel⟩
theorem okLof {C f f1 f2 fi : Addr} {fd fd1 fd2 fdi : FuncData} (F : Fun K "of" "Line.of" sLof f fd) (T : Bt mg) (c : LC K C) (Fi : Fun K "__init__" "Line.__init__" sLi fi fdi) (M : Mk K C fi)
    (Dcheck_all_whole : Dn K mg "check_all_whole" sChkA f2 fd2 ["value"]) (Dare_whole : Dn K mg "are_whole" sAreW f1 fd1 ["value"]) : FnOk P w K mg base CX0 5 f fd ["cls", "numbers"] (spLof K C) := by
  have Gcheck_all_whole : FnOk P w K mg base CX0 2 f2 fd2 ["value"] (spChkA K) := okChkA Dcheck_all_whole.F T Dare_whole
  have Gi : FnR P w K mg base CX0 3 fi (spLin C) := okLi Fi T c Dcheck_all_whole Dare_whole
  refine F.ok scLof (fun vs H Q E h => ?_) (fun cdv A outer s H vs Q E hr h => ?_)
  · obtain ⟨p, ns, rfl, _⟩ := h
    rfl
  · obtain ⟨p, ns, rfl, hp, hz, k⟩ := h
    have hr2 : Room 2 _ := hr.mono (by decide)
    refine ⟨_, (pss_cons (ps_expr (pe_call Gcheck_all_whole hr2 rfl Dcheck_all_whole.m Dcheck_all_whole.F.kp Dcheck_all_whole.b .nil pass0 (pa_cons (pv 1) pa_nil)))
  (pss_one (ps_ret (pe_clsS (i := 0) M Gi hr rfl (Or.inl rfl) pass0 (pv 1))))), ?_⟩
    refine ⟨_, rfl, p, ns, rfl, hp, rfl, ?_⟩
    exact ⟨_, rfl, p, _, rfl, .inl hp, mk_run hz fun v H3 e3 q => k v H3 e3 q⟩
/-! given -/
section
variable {σ : L2.St} {H : Hp} {C a dx g : Addr} {i : Nat}
theorem ev_giv (c : LC K C) (ha : H a = some (.ins C dx [("_given", .ref g)])) (h : σ[i]? = some (some (.ref a))) : Evl.Ev (tFld K (tVar i) "_given") σ H (.ref g) := fun H1 e Q q =>
  ⟨_, h, a, C, dx, _, .ref g, rfl, e _ _ ha, c.cl, c.nG, rfl, q H1 (Evl.Ex.refl _)⟩
end
def spLgiven (C : Addr) : Sp := fun vs H Q _ => ∃ (a dx g : Addr), vs = [.ref a] ∧ H a = some (.ins C dx [("_given", .ref g)]) ∧ Q (.ref g) H
theorem scLgiven : FnScope ["self"] ["self"] (defScope sLgiven) := ⟨rfl, rfl, rfl, by decide +kernel, rfl, by decide +kernel, by decide +kernel⟩
theorem okLgiven {C f : Addr} {fd : FuncData} (F : Fun K "given" "Line.given" sLgiven f fd) (c : LC K C) : FnOk P w K mg base CX0 1 f fd ["self"] (spLgiven C) := by
  refine F.ok scLgiven (fun vs H Q E h => ?_) (fun cdv A outer s H vs Q E hr h => ?_)
  · obtain ⟨a, dx, g, rfl, _⟩ := h
    rfl
  · obtain ⟨a, dx, g, rfl, ha, q⟩ := h
    refine ⟨_, (pss_one (ps_ret (pe_fld (pv 0) rfl))), ?_⟩
    exact ⟨_, rfl, a, C, dx, _, .ref g, rfl, ha, c.cl, c.nG, rfl, q⟩
/-! places -/
theorem cnt_at {ws : List Int} (p : ws.Pairwise (· < ·)) {i : Nat} (h : i < ws.length) : cntL ws ws[i] = i :=
  cnt_split (Nat.le_of_lt h) (fun j hj z => List.pairwise_iff_getElem.mp p j i hj h z) fun j hj z => by
    rcases Nat.lt_or_ge i j with y | y
    · have := List.pairwise_iff_getElem.mp p i j h hj y
      omega
    · obtain rfl : j = i := by omega
      omega
theorem mem_cnt {ws : List Int} (p : ws.Pairwise (· < ·)) (k : Int) : k ∈ ws ↔ ∃ h : cntL ws k < ws.length, ws[cntL ws k] = k := by
  constructor
  · intro m
    obtain ⟨i, hi, rfl⟩ := List.mem_iff_getElem.mp m
    have e := cnt_at p hi
    exact ⟨by rw [e]; exact hi, by simp [e]⟩
  · rintro ⟨h, e⟩
    exact e ▸ List.getElem_mem h
def plc (ws : List Int) (k : Int) : Int := if k ∈ ws then 2 * (cntL ws k : Int) + 1 else 2 * (cntL ws k : Int)
end
end
end LN

set_option Elab.async false
set_option maxRecDepth 100000
set_option maxHeartbeats 2000000
set_option linter.all false
set_option pp.maxSteps 200
/-! Canonical tuples: what they are, by ranks among the given integers and one's own. -/
namespace LN
open PySem PySem.Spec PyProof.Rows L2 XG XV XL
theorem filt_split {α : Type} (p q : α → Bool) : ∀ l : List α, (l.filter p).length = (l.filter fun x => p x && q x).length + (l.filter fun x => p x && !q x).length
  | [] => rfl
  | x :: l => by
    have h := filt_split p q l
    cases hp : p x <;> cases hq : q x <;> simp [List.filter_cons, hp, hq] <;> omega
/-- those from x on below y -/
def btw (low : List Int) (x y : Int) : List Int := low.filter fun z => decide (x ≤ z) && decide (z < y)
theorem rk_split {low : List Int} {x y : Int} (h : x ≤ y) : cntL low y = cntL low x + (btw low x y).length := by
  unfold cntL btw
  rw [filt_split (fun z => decide (z < y)) (fun z => decide (z < x)) low]
  congr 1
  · congr 1
    apply List.filter_congr
    intro z _
    by_cases a : z < x
    · simp [a]
      omega
    · simp [a]
  · congr 1
    apply List.filter_congr
    intro z _
    by_cases a : z < y <;> by_cases b : z < x <;> simp [a, b] <;> omega
theorem btw_mem {low : List Int} {x y z : Int} : z ∈ btw low x y ↔ z ∈ low ∧ x ≤ z ∧ z < y := by
  unfold btw
  simp [List.mem_filter]
theorem btw_up {low : List Int} {x y : Int} (h : low.Pairwise (· < ·)) : (btw low x y).Pairwise (· < ·) := h.filter _
theorem rk_mono {low : List Int} {x y : Int} (h : x ≤ y) : cntL low x ≤ cntL low y := by
  rw [rk_split (low := low) h]
  omega
theorem rk_lt {low : List Int} {x y : Int} (hx : x ∈ low) (h : x < y) : cntL low x < cntL low y := by
  rw [rk_split (low := low) (Int.le_of_lt h)]
  have : x ∈ btw low x y := btw_mem.mpr ⟨hx, by omega, h⟩
  have := List.length_pos_of_mem this
  omega
theorem rk_same {low : List Int} {x y : Int} (h : x ≤ y) (n : ∀ z ∈ low, x ≤ z → ¬ z < y) : cntL low y = cntL low x := by
  rw [rk_split (low := low) h]
  have : btw low x y = [] := List.eq_nil_iff_forall_not_mem.mpr fun z hz => by
    obtain ⟨a, b, c⟩ := btw_mem.mp hz
    exact n z a b c
  rw [this]
  rfl
theorem rk_succ {low : List Int} {x y : Int} (up : low.Pairwise (· < ·)) (hx : x ∈ low) (h : x < y) (n : ∀ z ∈ low, x < z → ¬ z < y) : cntL low y = cntL low x + 1 := by
  rw [rk_split (low := low) (Int.le_of_lt h)]
  have : btw low x y = [x] := asc_ext (btw_up up) (by simp) fun z => by
    rw [btw_mem, List.mem_singleton]
    constructor
    · rintro ⟨a, b, c⟩
      by_cases e : z = x
      · exact e
      · exact absurd c (n z a (by omega))
    · rintro rfl
      exact ⟨hx, by omega, h⟩
  rw [this]
  rfl
theorem rk_diff {low : List Int} {x y : Int} (up : low.Pairwise (· < ·)) (h : x ≤ y) : (cntL low y : Int) - (cntL low x : Int) ≤ y - x := by
  rw [rk_split (low := low) h]
  have l : (btw low x y).length ≤ ((List.range (y - x).toNat).map fun i : Nat => x + (i : Int)).length := XT.nodup_len ((btw_up (x := x) (y := y) up).imp fun h => by omega) fun z hz => by
    obtain ⟨a, b, c⟩ := btw_mem.mp hz
    exact List.mem_map.mpr ⟨(z - x).toNat, List.mem_range.mpr (by omega), by omega⟩
  rw [List.length_map, List.length_range] at l
  omega
/-! the given integer that a value hangs on -/
def IsG (ws : List Int) (v g : Int) : Prop := g ∈ ws ∧ ((g ≤ v ∧ ∀ w ∈ ws, w ≤ v → w ≤ g) ∨ (v < g ∧ ∀ w ∈ ws, g ≤ w))
theorem isG_uniq {ws : List Int} {v g g' : Int} (h : IsG ws v g) (h' : IsG ws v g') : g = g' := by
  obtain ⟨m, ⟨a, b⟩ | ⟨a, b⟩⟩ := h <;> obtain ⟨m', ⟨a', b'⟩ | ⟨a', b'⟩⟩ := h'
  · have := b g' m' a'
    have := b' g m a
    omega
  · have := b' g m
    omega
  · have := b g' m'
    omega
  · have := b g' m'
    have := b' g m
    omega
def gOf (ws : List Int) (v : Int) : Int := (ws.filter fun w => decide (w ≤ v)).getLast?.getD (ws.headD 0)
theorem last_max {ws : List Int} {g : Int} (up : ws.Pairwise (· < ·)) (h : ws.getLast? = some g) : g ∈ ws ∧ ∀ w ∈ ws, w ≤ g := by
  obtain ⟨ys, rfl⟩ := List.getLast?_eq_some_iff.mp h
  refine ⟨by simp, fun w hw => ?_⟩
  rcases List.mem_append.mp hw with m | m
  · have := (List.pairwise_append.mp up).2.2 w m g (by simp)
    omega
  · rw [List.mem_singleton.mp m]
    omega
theorem gOf_is {ws : List Int} {v : Int} (up : ws.Pairwise (· < ·)) (ne : ws ≠ []) : IsG ws v (gOf ws v) := by
  unfold gOf
  cases e : (ws.filter fun w => decide (w ≤ v)).getLast? with
  | some g =>
    obtain ⟨m, b⟩ := last_max (up.filter _) e
    obtain ⟨m, c⟩ := List.mem_filter.mp m
    exact ⟨m, .inl ⟨of_decide_eq_true c, fun w hw h => b w (List.mem_filter.mpr ⟨hw, decide_eq_true h⟩)⟩⟩
  | none =>
    have e := List.getLast?_eq_none_iff.mp e
    cases ws with
    | nil => exact absurd rfl ne
    | cons w ws =>
      have := List.filter_eq_nil_iff.mp e w List.mem_cons_self
      refine ⟨List.mem_cons_self, .inr ⟨by show v < w; simpa using this, fun u hu => ?_⟩⟩
      show w ≤ u
      rcases List.mem_cons.mp hu with z | z
      · omega
      · have := (List.pairwise_cons.mp up).1 u z
        omega
def can (ws low : List Int) (v : Int) : Int := if ws = [] then (cntL low v : Int) else gOf ws v + (cntL low v : Int) - (cntL low (gOf ws v) : Int)
theorem can_nil {low : List Int} {v : Int} : can [] low v = (cntL low v : Int) := if_pos rfl
theorem can_g {ws low : List Int} {v g : Int} (up : ws.Pairwise (· < ·)) (h : IsG ws v g) : can ws low v = g + (cntL low v : Int) - (cntL low g : Int) := by
  have ne : ws ≠ [] := fun e => by
    rw [e] at h
    exact nomatch h.1
  unfold can
  rw [if_neg ne, isG_uniq (gOf_is up ne) h]
section
variable {ws vs low : List Int} {u v w : Int}
theorem can_eq (up : ws.Pairwise (· < ·)) (hw : v ∈ ws) : can ws low v = v := by
  rw [can_g up ⟨hw, .inl ⟨Int.le_refl _, fun w _ h => h⟩⟩]
  omega
theorem can_below (up : ws.Pairwise (· < ·)) (A : Asc (vs ++ ws) low) (hv : v ∈ vs) (hw : w ∈ ws) (h : v < w) : can ws low v < w := by
  have g := gOf_is (v := v) up (fun e => by rw [e] at hw; cases hw)
  rw [can_g up g]
  obtain ⟨m, ⟨a, b⟩ | ⟨a, b⟩⟩ := g
  · have := rk_diff A.up a
    omega
  · have := rk_lt ((A.mem v).mpr (List.mem_append_left _ hv)) a
    have := b w hw
    omega
theorem can_above (up : ws.Pairwise (· < ·)) (A : Asc (vs ++ ws) low) (hw : w ∈ ws) (h : w < v) : w < can ws low v := by
  obtain ⟨g, G⟩ : ∃ g, IsG ws v g := ⟨_, gOf_is (v := v) up (fun e => by rw [e] at hw; cases hw)⟩
  rw [can_g up G]
  obtain ⟨m, ⟨a, b⟩ | ⟨a, b⟩⟩ := G
  · have := b w hw (by omega)
    rcases Int.lt_or_eq_of_le a with z | z
    · have := rk_lt ((A.mem _).mpr (List.mem_append_right _ m)) z
      omega
    · subst z
      omega
  · have := b w hw
    omega
theorem can_mono (up : ws.Pairwise (· < ·)) (A : Asc (vs ++ ws) low) (hu : u ∈ vs) (h : u < v) : can ws low u < can ws low v := by
  have rl := rk_lt ((A.mem u).mpr (List.mem_append_left _ hu)) h
  by_cases e : ws = []
  · subst e
    rw [can_nil, can_nil]
    omega
  · by_cases z : ∃ w ∈ ws, u < w ∧ w ≤ v
    · obtain ⟨w, hw, h1, h2⟩ := z
      have a := can_below up A hu hw h1
      rcases Int.lt_or_eq_of_le h2 with y | y
      · have := can_above (v := v) up A hw y
        omega
      · subst y
        rw [can_eq (low := low) up hw]
        exact a
    · have g := gOf_is (v := u) up e
      rw [can_g up g]
      have g2 : IsG ws v (gOf ws u) := by
        obtain ⟨m, ⟨a, b⟩ | ⟨a, b⟩⟩ := g
        · refine ⟨m, .inl ⟨by omega, fun w hw h2 => ?_⟩⟩
          by_cases y : w ≤ u
          · exact b w hw y
          · exact absurd ⟨w, hw, by omega, h2⟩ z
        · refine ⟨m, .inr ⟨?_, b⟩⟩
          by_cases y : gOf ws u ≤ v
          · exact absurd ⟨_, m, a, y⟩ z
          · omega
      rw [can_g up g2]
      omega
end
/-! placed alike -/
structure Sim (b a : List Int) : Prop where
  len : b.length = a.length
  ord : ∀ (i j : Nat) (hi : i < b.length) (hj : j < b.length) (hi' : i < a.length) (hj' : j < a.length), b[i] < b[j] ↔ a[i] < a[j]
theorem Sim.symm {b a : List Int} (h : Sim b a) : Sim a b := ⟨h.len.symm, fun i j hi hj hi' hj' => (h.ord i j hi' hj' hi hj).symm⟩
theorem Sim.trans {b a c : List Int} (h : Sim b a) (h' : Sim a c) : Sim b c := ⟨h.len.trans h'.len, fun i j hi hj hi' hj' =>
  (h.ord i j hi hj (by have := h.len; omega) (by have := h.len; omega)).trans (h'.ord i j (by have := h.len; omega) (by have := h.len; omega) hi' hj')⟩
theorem inj_len {b a low high : List Int} (S : Sim b a) (A : Asc b low) (A' : Asc a high) (p q : Int → Bool) (h : ∀ (i : Nat) (hi : i < b.length) (hi' : i < a.length), p b[i] = true → q a[i] = true) : (low.filter p).length ≤ (high.filter q).length := by
  have lt : ∀ {x : Int}, x ∈ b → b.idxOf x < a.length := fun hx => S.len ▸ List.idxOf_lt_length_iff.mpr hx
  have at_ : ∀ {x : Int} (hx : x ∈ b), b[b.idxOf x]'(List.idxOf_lt_length_iff.mpr hx) = x := fun hx => List.getElem_idxOf _
  have e : ((low.filter p).map fun x => a.getD (b.idxOf x) 0).length ≤ (high.filter q).length := by
    refine XT.nodup_len (List.pairwise_map.mpr ?_) fun y hy => ?_
    · refine (A.up.filter p).imp_of_mem fun {x y} hx hy h e => ?_
      have mx := (A.mem x).mp (List.mem_filter.mp hx).1
      have my := (A.mem y).mp (List.mem_filter.mp hy).1
      have := (S.ord _ _ (List.idxOf_lt_length_iff.mpr mx) (List.idxOf_lt_length_iff.mpr my) (lt mx) (lt my)).mp (by rw [at_ mx, at_ my]; exact h)
      rw [List.getD_eq_getElem?_getD, List.getD_eq_getElem?_getD, List.getElem?_eq_getElem (lt mx), List.getElem?_eq_getElem (lt my)] at e
      simp at e
      omega
    · obtain ⟨x, hx, rfl⟩ := List.mem_map.mp hy
      obtain ⟨hl, hp⟩ := List.mem_filter.mp hx
      have mx := (A.mem x).mp hl
      rw [List.getD_eq_getElem?_getD, List.getElem?_eq_getElem (lt mx)]
      refine List.mem_filter.mpr ⟨(A'.mem _).mpr (List.getElem_mem _), ?_⟩
      exact h _ (List.idxOf_lt_length_iff.mpr mx) (lt mx) (by rw [at_ mx]; exact hp)
  rwa [List.length_map] at e
theorem rk_sim {b a low high : List Int} (S : Sim b a) (A : Asc b low) (A' : Asc a high) {i : Nat} (hi : i < b.length) (hi' : i < a.length) : cntL low b[i] = cntL high a[i] := by
  refine Nat.le_antisymm (inj_len S A A' _ _ fun j hj hj' h => ?_) (inj_len S.symm A' A _ _ fun j hj hj' h => ?_)
  · exact decide_eq_true ((S.ord j i hj hi hj' hi').mp (of_decide_eq_true h))
  · exact decide_eq_true ((S.ord j i hj' hi hj hi').mpr (of_decide_eq_true h))
theorem len_sim {b a low high : List Int} (S : Sim b a) (A : Asc b low) (A' : Asc a high) : low.length = high.length := by
  have h1 := inj_len S A A' (fun _ => true) (fun _ => true) fun _ _ _ _ => rfl
  have h2 := inj_len S.symm A' A (fun _ => true) (fun _ => true) fun _ _ _ _ => rfl
  rw [List.filter_eq_self.mpr fun _ _ => rfl, List.filter_eq_self.mpr fun _ _ => rfl] at h1 h2
  omega
theorem sim_rk {b a low high : List Int} (A : Asc b low) (A' : Asc a high) (hl : b.length = a.length) (h : ∀ (i : Nat) (hi : i < b.length) (hi' : i < a.length), cntL low b[i] = cntL high a[i]) : Sim b a := by
  have key : ∀ {l m : List Int} (B : Asc l m) {x y : Int}, x ∈ l → y ∈ l → (x < y ↔ cntL m x < cntL m y) := fun {l m} B {x y} hx hy => by
    constructor
    · exact rk_lt ((B.mem x).mpr hx)
    · intro z
      by_cases e : x < y
      · exact e
      · have := rk_mono (low := m) (show y ≤ x by omega)
        omega
  refine ⟨hl, fun i j hi hj hi' hj' => ?_⟩
  rw [key A (List.getElem_mem hi) (List.getElem_mem hj), key A' (List.getElem_mem hi') (List.getElem_mem hj'), h i hi hi', h j hj hj']
end LN

set_option Elab.async false
set_option maxRecDepth 100000
set_option maxHeartbeats 2000000
set_option linter.all false
set_option pp.maxSteps 200
namespace LN
open PySem PySem.Spec PyProof.Rows L2 XG XV XL
/-! lists behind lists -/
section
variable {ws vs us low low' : List Int}
theorem sim_app (hl : vs.length = us.length) (h1 : ∀ (i j : Nat) (hi : i < vs.length) (hj : j < vs.length) (hi' : i < us.length) (hj' : j < us.length), vs[i] < vs[j] ↔ us[i] < us[j])
    (h2 : ∀ (i : Nat) (hi : i < vs.length) (hi' : i < us.length), ∀ w ∈ ws, (vs[i] < w ↔ us[i] < w) ∧ (w < vs[i] ↔ w < us[i])) : Sim (vs ++ ws) (us ++ ws) := by
  refine ⟨by simp [hl], fun i j hi hj hi' hj' => ?_⟩
  rw [List.length_append] at hi hj hi' hj'
  by_cases a : i < vs.length <;> by_cases b : j < vs.length
  · rw [List.getElem_append_left a, List.getElem_append_left b, List.getElem_append_left (by omega), List.getElem_append_left (by omega)]
    exact h1 i j a b _ _
  · rw [List.getElem_append_left a, List.getElem_append_right (by omega), List.getElem_append_left (by omega), List.getElem_append_right (by omega)]
    simp only [hl]
    exact (h2 i a (by omega) _ (List.getElem_mem _)).1
  · rw [List.getElem_append_right (by omega), List.getElem_append_left b, List.getElem_append_right (by omega), List.getElem_append_left (by omega)]
    simp only [hl]
    exact (h2 j b (by omega) _ (List.getElem_mem _)).2
  · rw [List.getElem_append_right (by omega), List.getElem_append_right (by omega), List.getElem_append_right (by omega), List.getElem_append_right (by omega)]
    simp only [hl]
theorem sim_own (S : Sim (vs ++ ws) (us ++ ws)) {i j : Nat} (hi : i < vs.length) (hj : j < vs.length) (hi' : i < us.length) (hj' : j < us.length) : vs[i] < vs[j] ↔ us[i] < us[j] := by
  have := S.ord i j (by simp; omega) (by simp; omega) (by simp; omega) (by simp; omega)
  rwa [List.getElem_append_left hi, List.getElem_append_left hj, List.getElem_append_left hi', List.getElem_append_left hj'] at this
theorem sim_giv (hl : vs.length = us.length) (S : Sim (vs ++ ws) (us ++ ws)) {i : Nat} (hi : i < vs.length) (hi' : i < us.length) {w : Int} (hw : w ∈ ws) : (vs[i] < w ↔ us[i] < w) ∧ (w < vs[i] ↔ w < us[i]) := by
  obtain ⟨k, hk, rfl⟩ := List.mem_iff_getElem.mp hw
  have e1 : (vs ++ ws)[vs.length + k]'(by simp; omega) = ws[k] := by
    rw [List.getElem_append_right (by omega)]
    simp
  have e2 : (us ++ ws)[vs.length + k]'(by simp; omega) = ws[k] := by
    rw [List.getElem_append_right (by omega)]
    simp [hl]
  have a := S.ord i (vs.length + k) (by simp; omega) (by simp; omega) (by simp; omega) (by simp; omega)
  have b := S.ord (vs.length + k) i (by simp; omega) (by simp; omega) (by simp; omega) (by simp; omega)
  rw [List.getElem_append_left hi, List.getElem_append_left hi', e1, e2] at a b
  exact ⟨a, b⟩
theorem rk_own (hl : vs.length = us.length) (S : Sim (vs ++ ws) (us ++ ws)) (A : Asc (vs ++ ws) low) (A' : Asc (us ++ ws) low') {i : Nat} (hi : i < vs.length) (hi' : i < us.length) : cntL low vs[i] = cntL low' us[i] := by
  have := rk_sim S A A' (i := i) (by simp; omega) (by simp; omega)
  rwa [List.getElem_append_left hi, List.getElem_append_left hi'] at this
theorem rk_giv (hl : vs.length = us.length) (S : Sim (vs ++ ws) (us ++ ws)) (A : Asc (vs ++ ws) low) (A' : Asc (us ++ ws) low') {w : Int} (hw : w ∈ ws) : cntL low w = cntL low' w := by
  obtain ⟨k, hk, rfl⟩ := List.mem_iff_getElem.mp hw
  have e1 : (vs ++ ws)[vs.length + k]'(by simp; omega) = ws[k] := by
    rw [List.getElem_append_right (by omega)]
    simp
  have e2 : (us ++ ws)[vs.length + k]'(by simp; omega) = ws[k] := by
    rw [List.getElem_append_right (by omega)]
    simp [hl]
  have := rk_sim S A A' (i := vs.length + k) (by simp; omega) (by simp; omega)
  rwa [e1, e2] at this
theorem can_sim (up : ws.Pairwise (· < ·)) (hl : vs.length = us.length) (S : Sim (vs ++ ws) (us ++ ws)) (A : Asc (vs ++ ws) low) (A' : Asc (us ++ ws) low') {i : Nat} (hi : i < vs.length) (hi' : i < us.length) : can ws low vs[i] = can ws low' us[i] := by
  by_cases e : ws = []
  · have r := rk_own hl S A A' hi hi'
    subst e
    rw [can_nil, can_nil, r]
  · obtain ⟨g, G⟩ : ∃ g, IsG ws vs[i] g := ⟨_, gOf_is up e⟩
    have G' : IsG ws us[i] g := by
      obtain ⟨m, ⟨a, b⟩ | ⟨a, b⟩⟩ := G
      · refine ⟨m, .inl ⟨?_, fun w hw h => b w hw ?_⟩⟩
        · have := (sim_giv hl S hi hi' m).1
          omega
        · have := (sim_giv hl S hi hi' hw).1
          omega
      · exact ⟨m, .inr ⟨(sim_giv hl S hi hi' m).1.mp a, b⟩⟩
    rw [can_g up G, can_g up G', rk_own hl S A A' hi hi', rk_giv hl S A A' G.1]
def canL (ws low vs : List Int) : List Int := vs.map (can ws low)
theorem canL_len : (canL ws low vs).length = vs.length := List.length_map _
theorem canL_get {i : Nat} (h : i < (canL ws low vs).length) (h' : i < vs.length) : (canL ws low vs)[i] = can ws low vs[i] := List.getElem_map ..
theorem canL_sim (up : ws.Pairwise (· < ·)) (A : Asc (vs ++ ws) low) : Sim (vs ++ ws) (canL ws low vs ++ ws) := by
  refine sim_app canL_len.symm (fun i j hi hj hi' hj' => ?_) fun i hi hi' w hw => ?_
  · rw [canL_get hi' hi, canL_get hj' hj]
    constructor
    · exact can_mono up A (List.getElem_mem _)
    · intro h
      by_cases z : vs[i] < vs[j]
      · exact z
      · by_cases y : vs[j] < vs[i]
        · have := can_mono up A (List.getElem_mem hj) y
          omega
        · have : vs[i] = vs[j] := by omega
          rw [this] at h
          omega
  · rw [canL_get hi' hi]
    have m : vs[i] ∈ vs := List.getElem_mem _
    by_cases z : vs[i] < w
    · have := can_below up A m hw z
      omega
    · by_cases y : w < vs[i]
      · have := can_above (v := vs[i]) up A hw y
        omega
      · have e : vs[i] = w := by omega
        have := can_eq (low := low) up hw
        rw [e, this]
        omega
theorem canL_eq (up : ws.Pairwise (· < ·)) (hl : vs.length = us.length) (S : Sim (vs ++ ws) (us ++ ws)) (A : Asc (vs ++ ws) low) (A' : Asc (us ++ ws) low') : canL ws low vs = canL ws low' us := by
  refine List.ext_getElem (by rw [canL_len, canL_len, hl]) fun i h1 h2 => ?_
  have h3 := h1
  have h4 := h2
  rw [canL_len] at h3 h4
  rw [canL_get h1 h3, canL_get h2 h4]
  exact can_sim up hl S A A' h3 h4
/-- canonical tuples stay -/
theorem canL_stay (up : ws.Pairwise (· < ·)) (A : Asc (vs ++ ws) low) (A' : Asc (canL ws low vs ++ ws) low') : canL ws low' (canL ws low vs) = canL ws low vs :=
  (canL_eq up canL_len.symm (canL_sim up A) A A').symm
theorem canL_iff (up : ws.Pairwise (· < ·)) (hl : vs.length = us.length) (A : Asc (vs ++ ws) low) (A' : Asc (us ++ ws) low') : canL ws low vs = canL ws low' us ↔ Sim (vs ++ ws) (us ++ ws) :=
  ⟨fun h => (canL_sim up A).trans (h ▸ (canL_sim up A').symm), fun S => canL_eq up hl S A A'⟩
/-! how integers compare -/
def cm (x y : Int) : Int := (if decide (x > y) = true then 1 else 0) - (if decide (x < y) = true then 1 else 0)
theorem cm_iff {x y x' y' : Int} : cm x y = cm x' y' ↔ ((x < y ↔ x' < y') ∧ (y < x ↔ y' < x')) := by
  unfold cm
  by_cases a : x < y <;> by_cases b : y < x <;> by_cases c : x' < y' <;> by_cases d : y' < x' <;> simp [a, b, c, d] <;> omega
def ordM (ws vs : List Int) : List (List Int) := vs.map fun x => (ws ++ vs).map fun y => cm x y
theorem ord_iff (hl : vs.length = us.length) : ordM ws vs = ordM ws us ↔ Sim (vs ++ ws) (us ++ ws) := by
  constructor
  · intro h
    have row : ∀ (i : Nat) (hi : i < vs.length) (hi' : i < us.length), ws.map (cm vs[i]) = ws.map (cm us[i]) ∧ vs.map (cm vs[i]) = us.map (cm us[i]) := fun i hi hi' => by
      have e : (ordM ws vs)[i]? = (ordM ws us)[i]? := by rw [h]
      unfold ordM at e
      rw [List.getElem?_map, List.getElem?_map, List.getElem?_eq_getElem hi, List.getElem?_eq_getElem hi'] at e
      have e := Option.some.inj e
      dsimp only at e
      rw [List.map_append, List.map_append] at e
      exact List.append_inj e (by rw [List.length_map, List.length_map])
    refine sim_app hl (fun i j hi hj hi' hj' => ?_) fun i hi hi' w hw => ?_
    · have e : (vs.map (cm vs[i]))[j]? = (us.map (cm us[i]))[j]? := by rw [(row i hi hi').2]
      rw [List.getElem?_map, List.getElem?_map, List.getElem?_eq_getElem hj, List.getElem?_eq_getElem hj'] at e
      exact (cm_iff.mp (Option.some.inj e)).1
    · obtain ⟨k, hk, rfl⟩ := List.mem_iff_getElem.mp hw
      have e : (ws.map (cm vs[i]))[k]? = (ws.map (cm us[i]))[k]? := by rw [(row i hi hi').1]
      rw [List.getElem?_map, List.getElem?_map, List.getElem?_eq_getElem hk] at e
      exact cm_iff.mp (Option.some.inj e)
  · intro S
    unfold ordM
    refine List.ext_getElem (by rw [List.length_map, List.length_map, hl]) fun i h1 h2 => ?_
    rw [List.length_map] at h1 h2
    rw [List.getElem_map, List.getElem_map, List.map_append, List.map_append]
    congr 1
    · refine List.map_congr_left fun w hw => ?_
      exact cm_iff.mpr (sim_giv hl S h1 h2 hw)
    · refine List.ext_getElem (by rw [List.length_map, List.length_map, hl]) fun j h3 h4 => ?_
      rw [List.length_map] at h3 h4
      rw [List.getElem_map, List.getElem_map]
      exact cm_iff.mpr ⟨sim_own S h1 h3 h2 h4, sim_own S h3 h1 h4 h2⟩
def simB (ws vs us : List Int) : Bool := decide (vs.length = us.length) && decide (ordM ws vs = ordM ws us)
theorem simB_iff : simB ws vs us = true ↔ vs.length = us.length ∧ Sim (vs ++ ws) (us ++ ws) := by
  unfold simB
  rw [Bool.and_eq_true, decide_eq_true_eq, decide_eq_true_eq]
  constructor
  · rintro ⟨h, e⟩
    exact ⟨h, (ord_iff h).mp e⟩
  · rintro ⟨h, e⟩
    exact ⟨h, (ord_iff h).mpr e⟩
theorem simB_can (up : ws.Pairwise (· < ·)) (A : Asc (vs ++ ws) low) : simB ws vs (canL ws low vs) = true := simB_iff.mpr ⟨canL_len.symm, canL_sim up A⟩
theorem simB_eq (up : ws.Pairwise (· < ·)) (hl : vs.length = us.length) (A : Asc (vs ++ ws) low) (A' : Asc (us ++ ws) low') : decide (canL ws low vs = canL ws low' us) = simB ws vs us := by
  rw [Bool.eq_iff_iff, decide_eq_true_eq, canL_iff up hl A A', simB_iff]
  exact ⟨fun h => ⟨hl, h⟩, fun h => h.2⟩
/-- what the change of the sorted integers takes to what -/
theorem alike_map (A : Asc (vs ++ ws) low) (A' : Asc (us ++ ws) low') (hl : (vs ++ ws).length = (us ++ ws).length) (hh : low.length = low'.length) : decide ((vs ++ ws).map (fun x => low'.getD (cntL low x) 0) = us ++ ws) = simB ws vs us := by
  have hv : vs.length = us.length := by
    rw [List.length_append, List.length_append] at hl
    omega
  rw [Bool.eq_iff_iff, decide_eq_true_eq, simB_iff]
  have idx : ∀ (i : Nat) (hi : i < (vs ++ ws).length), cntL low (vs ++ ws)[i] < low.length := fun i hi => ((mem_cnt A.up _).mp ((A.mem _).mpr (List.getElem_mem hi))).1
  have back : ∀ (i : Nat) (hi : i < (us ++ ws).length), ∃ h : cntL low' (us ++ ws)[i] < low'.length, low'[cntL low' (us ++ ws)[i]] = (us ++ ws)[i] := fun i hi => (mem_cnt A'.up _).mp ((A'.mem _).mpr (List.getElem_mem hi))
  constructor
  · intro h
    refine ⟨hv, sim_rk A A' hl fun i hi hi' => ?_⟩
    have e : ((vs ++ ws).map (fun x => low'.getD (cntL low x) 0))[i]? = (us ++ ws)[i]? := by rw [h]
    rw [List.getElem?_map, List.getElem?_eq_getElem hi, List.getElem?_eq_getElem hi'] at e
    have e := Option.some.inj e
    dsimp only at e
    have lt := idx i hi
    rw [List.getD_eq_getElem?_getD, List.getElem?_eq_getElem (by omega)] at e
    rw [← e]
    exact (cnt_at A'.up (by omega)).symm
  · rintro ⟨_, S⟩
    refine List.ext_getElem (by rw [List.length_map]; exact hl) fun i h1 h2 => ?_
    rw [List.length_map] at h1
    rw [List.getElem_map, rk_sim S A A' h1 h2]
    obtain ⟨h, e⟩ := back i h2
    rw [List.getD_eq_getElem?_getD, List.getElem?_eq_getElem h]
    exact e
theorem alike_len (A : Asc (vs ++ ws) low) (A' : Asc (us ++ ws) low') (h : (vs ++ ws).length ≠ (us ++ ws).length ∨ low.length ≠ low'.length) : simB ws vs us = false := by
  rw [Bool.eq_false_iff, Ne, simB_iff]
  rintro ⟨hl, S⟩
  rcases h with h | h
  · exact h (by rw [List.length_append, List.length_append, hl])
  · exact h (len_sim S A A')
end
end LN

set_option Elab.async false
set_option maxRecDepth 100000
set_option maxHeartbeats 2000000
set_option linter.all false
set_option pp.maxSteps 200
namespace LN
open PySem PySem.Spec PyProof.Rows L2 XG XV XL
section
variable {ws vs low us : List Int}
theorem cnt_pos {ws : List Int} {k : Int} : 0 < cntL ws k ↔ ∃ w ∈ ws, w < k := by
  unfold cntL
  rw [List.length_pos_iff_exists_mem]
  constructor
  · rintro ⟨w, h⟩
    obtain ⟨m, l⟩ := List.mem_filter.mp h
    exact ⟨w, m, of_decide_eq_true l⟩
  · rintro ⟨w, m, l⟩
    exact ⟨w, List.mem_filter.mpr ⟨m, decide_eq_true l⟩⟩
theorem cnt_zero {ws : List Int} {k : Int} (h : ∀ w ∈ ws, ¬ w < k) : cntL ws k = 0 := by
  rcases Nat.eq_zero_or_pos (cntL ws k) with z | z
  · exact z
  · obtain ⟨w, m, l⟩ := cnt_pos.mp z
    exact absurd l (h w m)
theorem asc_lt {ws : List Int} (up : ws.Pairwise (· < ·)) {i j : Nat} (hi : i < ws.length) (hj : j < ws.length) (h : i < j) : ws[i] < ws[j] := List.pairwise_iff_getElem.mp up i j hi hj h
/-- of the given integers below k, the last one -/
theorem isG_cnt (up : ws.Pairwise (· < ·)) {k : Int} {n : Nat} (hn : n < ws.length) (h1 : ws[n] ≤ k) (h2 : ∀ (j : Nat) (hj : j < ws.length), n < j → k < ws[j]) : IsG ws k ws[n] := by
  refine ⟨List.getElem_mem hn, .inl ⟨h1, fun w hw h => ?_⟩⟩
  obtain ⟨j, hj, rfl⟩ := List.mem_iff_getElem.mp hw
  rcases Nat.lt_trichotomy n j with z | z | z
  · have := h2 j hj z
    omega
  · subst z
    exact Int.le_refl _
  · have := asc_lt up hj hn z
    omega
theorem isG_head (up : ws.Pairwise (· < ·)) {k : Int} (h0 : 0 < ws.length) (h : k < ws[0]) : IsG ws k ws[0] := ⟨List.getElem_mem h0, .inr ⟨h, fun w hw => by
  obtain ⟨j, hj, rfl⟩ := List.mem_iff_getElem.mp hw
  rcases Nat.eq_zero_or_pos j with z | z
  · subst z
    exact Int.le_refl _
  · have := asc_lt up h0 hj z
    omega⟩⟩
/-! what the law reckons -/
theorem law_can (up : ws.Pairwise (· < ·)) (A : Asc (vs ++ ws) low) {v : Int} (hv : v ∈ vs) {here : List Int} (B : Asc (vs.filter fun u => decide (plc ws u = plc ws v)) here) (nv : v ∉ ws) :
    (ws = [] → can ws low v = (cntL here v : Int)) ∧ (∀ h0 : 0 < ws.length, plc ws v = 0 → can ws low v = ws[0] - (here.length : Int) + (cntL here v : Int)) ∧
      (plc ws v ≠ 0 → ∃ h : cntL ws v - 1 < ws.length, plc ws v = 2 * (cntL ws v : Int) ∧ 0 < cntL ws v ∧ can ws low v = ws[cntL ws v - 1] + 1 + (cntL here v : Int)) := by
  have pv : plc ws v = 2 * (cntL ws v : Int) := if_neg nv
  have hm : ∀ u, u ∈ here ↔ u ∈ vs ∧ u ∉ ws ∧ cntL ws u = cntL ws v := fun u => by
    rw [B.mem u, List.mem_filter, decide_eq_true_eq, pv]
    unfold plc
    by_cases m : u ∈ ws
    · simp [m]
      omega
    · simp [m]
      omega
  have lm : ∀ u, u ∈ low ↔ u ∈ vs ∨ u ∈ ws := fun u => by rw [A.mem u, List.mem_append]
  refine ⟨fun e => ?_, fun h0 e => ?_, fun e => ?_⟩
  · subst e
    rw [can_nil]
    have : here = low := asc_ext B.up A.up fun u => by
      rw [hm, lm]
      simp [cntL]
    rw [this]
  · have c0 : cntL ws v = 0 := by omega
    have lt0 : ∀ {u : Int}, u ∉ ws → cntL ws u = 0 → u < ws[0] := fun {u} n c => by
      rcases Int.lt_trichotomy u ws[0] with z | z | z
      · exact z
      · exact absurd (z ▸ List.getElem_mem h0) n
      · have := cnt_pos.mpr ⟨_, List.getElem_mem h0, z⟩
        omega
    have l0 : v < ws[0] := lt0 nv c0
    have inh : ∀ u, u ∈ here ↔ u ∈ low ∧ u < ws[0] := fun u => by
      rw [hm, lm, c0]
      constructor
      · rintro ⟨a, b, c⟩
        exact ⟨.inl a, lt0 b c⟩
      · rintro ⟨a, b⟩
        have nw : ∀ w ∈ ws, ¬ w < ws[0] := fun w hw => by
          obtain ⟨j, hj, rfl⟩ := List.mem_iff_getElem.mp hw
          rcases Nat.eq_zero_or_pos j with z | z
          · subst z
            omega
          · have := asc_lt up h0 hj z
            omega
        refine ⟨a.resolve_right fun m => nw u m b, fun m => nw u m b, cnt_zero fun w hw h => nw w hw (by omega)⟩
    rw [can_g up (isG_head up h0 l0)]
    have a : (low.filter fun z => decide (z < ws[0])) = here := asc_ext (A.up.filter _) B.up fun u => by rw [List.mem_filter, decide_eq_true_eq, inh]
    have b : (low.filter fun z => decide (z < v)) = here.filter fun z => decide (z < v) := asc_ext (A.up.filter _) (B.up.filter _) fun u => by
      rw [List.mem_filter, List.mem_filter, decide_eq_true_eq, inh]
      constructor
      · rintro ⟨x, y⟩
        exact ⟨⟨x, by omega⟩, y⟩
      · rintro ⟨x, y⟩
        exact ⟨x.1, y⟩
    have ea : cntL low ws[0] = here.length := by
      unfold cntL
      rw [a]
    have eb : cntL low v = cntL here v := by
      unfold cntL
      rw [b]
    rw [ea, eb]
    omega
  · have cp : 0 < cntL ws v := by omega
    have cl : cntL ws v ≤ ws.length := List.length_filter_le _ _
    have hn : cntL ws v - 1 < ws.length := by omega
    refine ⟨hn, pv, cp, ?_⟩
    have g1 : ws[cntL ws v - 1] < v := by
      rcases Int.lt_trichotomy ws[cntL ws v - 1] v with z | z | z
      · exact z
      · exact absurd (z ▸ List.getElem_mem hn) nv
      · have h1 := cnt_at up hn
        have h2 := rk_mono (low := ws) (Int.le_of_lt z)
        omega
    have g2 : ∀ w ∈ ws, w < v → w ≤ ws[cntL ws v - 1] := fun w hw h => by
      obtain ⟨j, hj, rfl⟩ := List.mem_iff_getElem.mp hw
      have h1 := cnt_at up hj
      have h2 := rk_lt hw h
      rcases Nat.lt_or_ge j (cntL ws v - 1) with z | z
      · have := asc_lt up hj hn z
        omega
      · obtain rfl : j = cntL ws v - 1 := by omega
        exact Int.le_refl _
    have gm : ws[cntL ws v - 1] ∈ ws := List.getElem_mem hn
    generalize ws[cntL ws v - 1] = g at *
    have G : IsG ws v g := ⟨gm, .inl ⟨Int.le_of_lt g1, fun w hw h => g2 w hw (by
      rcases Int.lt_or_eq_of_le h with z | z
      · exact z
      · exact absurd (z ▸ hw) nv)⟩⟩
    have inh : ∀ u, u ∈ here → u ∉ ws ∧ g < u := fun u hu => by
      obtain ⟨a, b, c⟩ := (hm u).mp hu
      refine ⟨b, ?_⟩
      rcases Int.lt_trichotomy g u with z | z | z
      · exact z
      · exact absurd (z ▸ gm) b
      · have h1 := rk_mono (low := ws) (Int.le_of_lt z)
        have h2 := rk_lt gm g1
        omega
    have e : btw low g v = g :: here.filter fun z => decide (z < v) := asc_ext (btw_up A.up) (List.pairwise_cons.mpr ⟨fun z hz => (inh z (List.mem_filter.mp hz).1).2, B.up.filter _⟩) fun z => by
      rw [btw_mem, List.mem_cons, List.mem_filter, decide_eq_true_eq]
      constructor
      · rintro ⟨a, b, c⟩
        rcases Int.lt_or_eq_of_le b with y | y
        · have nw : z ∉ ws := fun m => by
            have := g2 z m c
            omega
          refine .inr ⟨(hm z).mpr ⟨((lm z).mp a).resolve_right nw, nw, ?_⟩, c⟩
          exact (rk_same (low := ws) (Int.le_of_lt c) fun w hw h1 h2 => by
            have := g2 w hw h2
            omega).symm
        · exact .inl y.symm
      · rintro (rfl | ⟨a, c⟩)
        · exact ⟨(lm z).mpr (.inr gm), Int.le_refl _, g1⟩
        · exact ⟨(lm z).mpr (.inl ((hm z).mp a).1), Int.le_of_lt (inh z a).2, c⟩
    have f : cntL here v = (here.filter fun z => decide (z < v)).length := rfl
    rw [can_g up G, rk_split (low := low) (Int.le_of_lt g1), e, List.length_cons, f]
    omega
/-! what the program reckons -/
/-- how many given integers are not above v -/
def cle (ws : List Int) (v : Int) : Nat := (ws.filter fun w => decide (w ≤ v)).length
theorem cle_le {v : Int} : cle ws v ≤ ws.length := List.length_filter_le _ _
theorem cle_iff (up : ws.Pairwise (· < ·)) {v : Int} {j : Nat} (hj : j < ws.length) : ws[j] ≤ v ↔ j < cle ws v := by
  have e : cle ws v = cntL ws (v + 1) := by
    unfold cle cntL
    congr 1
    exact List.filter_congr fun z _ => decide_eq_decide.mpr (by omega)
  rw [e]
  have c := cnt_at up hj
  constructor
  · intro h
    have := rk_lt (List.getElem_mem hj) (show ws[j] < v + 1 by omega)
    omega
  · intro h
    by_cases z : ws[j] ≤ v
    · exact z
    · have := rk_mono (low := ws) (show v + 1 ≤ ws[j] by omega)
      omega
/-- from where the first ones begin -/
def base0 (ws low : List Int) : Int := if h : 0 < ws.length then ws[0] - 1 - (cntL low ws[0] : Int) else -1
/-- the ascending integers themselves, done up to i: the last one's canonical one -/
def nearAt (ws low us : List Int) (i : Nat) : Int := if h : 0 < i ∧ i - 1 < us.length then can ws low (us[i - 1]'h.2) else base0 ws low
def passAt (ws us : List Int) (i : Nat) : Nat := if h : 0 < i ∧ i - 1 < us.length then cle ws (us[i - 1]'h.2) else 0
theorem step_can (up : ws.Pairwise (· < ·)) (A : Asc (vs ++ ws) low) (U : Asc vs us) {i : Nat} (hi : i < us.length) {near1 : Int} (hn : near1 = if cle ws us[i] = passAt ws us i then nearAt ws low us i else ws.getD (cle ws us[i] - 1) 0) :
    (if cle ws us[i] = 0 ∨ near1 ≠ us[i] then near1 + 1 else near1) = can ws low us[i] := by
  have lm : ∀ u, u ∈ low ↔ u ∈ us ∨ u ∈ ws := fun u => by rw [A.mem u, List.mem_append, U.mem u]
  -- of one's own integers none stands between
  have gap : ∀ z ∈ us, z < us[i] → ∃ h : i - 1 < us.length, 0 < i ∧ z ≤ us[i - 1] := fun z hz h => by
    obtain ⟨j, hj, rfl⟩ := List.mem_iff_getElem.mp hz
    have lt : j < i := by
      rcases Nat.lt_or_ge j i with y | y
      · exact y
      · rcases Nat.lt_or_eq_of_le y with x | x
        · have := asc_lt U.up hi hj x
          omega
        · subst x
          omega
    refine ⟨by omega, by omega, ?_⟩
    rcases Nat.lt_or_ge j (i - 1) with y | y
    · exact Int.le_of_lt (asc_lt U.up hj (by omega) y)
    · obtain rfl : j = i - 1 := by omega
      exact Int.le_refl _
  have cv : cle ws us[i] ≤ ws.length := cle_le
  by_cases c : cle ws us[i] = passAt ws us i
  · rw [if_pos c] at hn
    by_cases h0 : 0 < i
    · have hu : i - 1 < us.length := by omega
      have e1 : passAt ws us i = cle ws us[i - 1] := dif_pos ⟨h0, hu⟩
      have e2 : nearAt ws low us i = can ws low us[i - 1] := dif_pos ⟨h0, hu⟩
      rw [e1] at c
      rw [e2] at hn
      have lt := asc_lt U.up hu hi (show i - 1 < i by omega)
      have none_ : ∀ w ∈ ws, us[i - 1] < w → ¬ w ≤ us[i] := fun w hw h1 h2 => by
        obtain ⟨j, hj, rfl⟩ := List.mem_iff_getElem.mp hw
        have a := (cle_iff up hj).mp h2
        have b := mt (cle_iff up (v := us[i - 1]) hj).mpr (by omega)
        omega
      have rs : cntL low us[i] = cntL low us[i - 1] + 1 := rk_succ A.up ((lm _).mpr (.inl (List.getElem_mem hu))) lt fun z hz h1 h2 => by
        rcases (lm z).mp hz with m | m
        · obtain ⟨_, _, h3⟩ := gap z m h2
          omega
        · exact none_ z m h1 (by omega)
      have next : can ws low us[i] = can ws low us[i - 1] + 1 ∧ (0 < cle ws us[i] → can ws low us[i - 1] ≤ us[i - 1]) := by
        by_cases e : ws = []
        · subst e
          rw [can_nil, can_nil, rs]
          exact ⟨by omega, fun h => by simp [cle] at h⟩
        · have G := gOf_is (v := us[i - 1]) up e
          generalize gOf ws us[i - 1] = g at G
          have G2 : IsG ws us[i] g := by
            obtain ⟨m, ⟨a, b⟩ | ⟨a, b⟩⟩ := G
            · refine ⟨m, .inl ⟨by omega, fun w hw h => ?_⟩⟩
              by_cases y : w ≤ us[i - 1]
              · exact b w hw y
              · exact absurd h (none_ w hw (by omega))
            · have := none_ g m a
              exact ⟨m, .inr ⟨by omega, b⟩⟩
          rw [can_g up G, can_g up G2, rs]
          refine ⟨by omega, fun h => ?_⟩
          obtain ⟨m, ⟨a, b⟩ | ⟨a, b⟩⟩ := G
          · have := rk_diff A.up a
            omega
          · exfalso
            have h0' : 0 < ws.length := by omega
            have := (cle_iff up (v := us[i - 1]) h0').mpr (by omega)
            have := b _ (List.getElem_mem h0')
            omega
      by_cases z : cle ws us[i] = 0
      · rw [if_pos (.inl z), hn, next.1]
      · have := next.2 (by omega)
        rw [if_pos (.inr (by omega)), hn, next.1]
    · obtain rfl : i = 0 := by omega
      have e1 : passAt ws us 0 = 0 := dif_neg (by omega)
      have e2 : nearAt ws low us 0 = base0 ws low := dif_neg (by omega)
      rw [e1] at c
      rw [e2] at hn
      rw [if_pos (.inl c), hn]
      have first : ∀ z ∈ us, ¬ z < us[0] := fun z hz h => by
        obtain ⟨_, h0, _⟩ := gap z hz h
        omega
      by_cases e : ws = []
      · subst e
        rw [can_nil, cnt_zero fun z hz => ?_]
        · rfl
        · exact first z (((lm z).mp hz).resolve_right (fun m => nomatch m))
      · have h0' : 0 < ws.length := List.length_pos_iff.mpr e
        have l0 : us[0] < ws[0] := by
          have := mt (cle_iff up (v := us[0]) h0').mp (by omega)
          omega
        have G := isG_head up h0' l0
        have c0 : cntL low us[0] = 0 := cnt_zero fun z hz h => by
          rcases (lm z).mp hz with m | m
          · exact first z m h
          · obtain ⟨j, hj, rfl⟩ := List.mem_iff_getElem.mp m
            rcases Nat.eq_zero_or_pos j with y | y
            · subst y
              omega
            · have := asc_lt up h0' hj y
              omega
        rw [can_g up G, c0]
        unfold base0
        rw [dif_pos h0']
        omega
  · rw [if_neg c] at hn
    have pl : passAt ws us i < cle ws us[i] := by
      have : passAt ws us i ≤ cle ws us[i] := by
        by_cases h0 : 0 < i
        · have hu : i - 1 < us.length := by omega
          have e1 : passAt ws us i = cle ws us[i - 1] := dif_pos ⟨h0, hu⟩
          have lt := asc_lt U.up hu hi (show i - 1 < i by omega)
          rw [e1]
          rcases Nat.lt_or_ge (cle ws us[i]) (cle ws us[i - 1]) with y | y
          · have h1 : cle ws us[i] < ws.length := Nat.lt_of_lt_of_le y cle_le
            have := (cle_iff up (v := us[i - 1]) h1).mpr y
            have := (cle_iff up (v := us[i]) h1).mp (by omega)
            omega
          · exact y
        · have e1 : passAt ws us i = 0 := dif_neg (by omega)
          omega
      omega
    have hg : cle ws us[i] - 1 < ws.length := by omega
    have e0 : ws.getD (cle ws us[i] - 1) 0 = ws[cle ws us[i] - 1] := by
      rw [List.getD_eq_getElem?_getD, List.getElem?_eq_getElem hg]
      rfl
    rw [e0] at hn
    have g1 : ws[cle ws us[i] - 1] ≤ us[i] := (cle_iff up hg).mpr (by omega)
    have G : IsG ws us[i] ws[cle ws us[i] - 1] := isG_cnt up hg g1 fun j hj h => by
      have := mt (cle_iff up (v := us[i]) hj).mp (by omega)
      omega
    rw [can_g up G]
    rcases Int.lt_or_eq_of_le g1 with y | y
    · rw [if_pos (.inr (by omega)), hn, rk_succ A.up ((lm _).mpr (.inr G.1)) y fun z hz h1 h2 => ?_]
      · omega
      · rcases (lm z).mp hz with m | m
        · obtain ⟨hu, h0, h3⟩ := gap z m h2
          have e1 : passAt ws us i = cle ws us[i - 1] := dif_pos ⟨h0, hu⟩
          have := mt (cle_iff up (v := us[i - 1]) hg).mp (by omega)
          omega
        · obtain ⟨_, ⟨_, b⟩ | ⟨a, _⟩⟩ := G
          · have := b z m (by omega)
            omega
          · omega
    · rw [if_neg (by rw [hn]; omega), hn]
      rw [y]
      omega
end
end LN

set_option Elab.async false
set_option maxRecDepth 100000
set_option maxHeartbeats 2000000
set_option linter.all false
set_option pp.maxSteps 200
namespace LN
open PySem PySem.Spec PyProof.Rows L2 XG XV XL
section
variable {P : Program} {w : World} {K : PySem.W.Frag} {mg : Str → Option Value} {base : Heap} {C : Addr}
section
variable {X : Cx} {σ : L2.St} {H : Hp} {ta tb tc te tf : TE} {tr ts : TA} {E : XK}
theorem ev_chain {r r' : R2} {x y z v : V} (ha : Evl.Ev ta σ H x) (hb : Evl.Ev tb σ H y) (hr : Evl.RV r x y H (.bl true)) (hc : Evl.Ev tc σ H z) (hr' : Evl.RV r' y z H v) : Evl.Ev (tChain r r' ta tb tc) σ H v := fun H1 e Q q =>
  ha H1 e _ fun H2 e2 => hb H2 (e.trans e2) _ fun H3 e3 => hr H3 ((e.trans e2).trans e3) _ fun H4 e4 => ⟨true, rfl, by
    rw [if_pos rfl]
    exact hc H4 (((e.trans e2).trans e3).trans e4) _ fun H5 e5 => hr' H5 ((((e.trans e2).trans e3).trans e4).trans e5) Q fun H6 e6 => q H6 ((((e2.trans e3).trans e4).trans e5).trans e6)⟩
theorem Kd.ex {x : V} {b : Bool} {H H' : Hp} (e : Evl.Ex H H') (k : Kd K H x b) : Kd K H' x b := by
  cases k with
  | int i => exact .int i
  | non => exact .non
  | bl b => exact .bl b
  | str z => exact .str z
  | tup h => exact .tup (Evl.ex_t e h)
  | ins h m => exact .ins (e _ _ h) m
theorem sv_whole {x : V} {b : Bool} (k : Kd K H x b) : Evl.SpV (spWhole K) ([x] ++ []) H (.bl b) := fun H1 e Q q E => ⟨x, b, rfl, k.ex e, q H1 (Evl.Ex.refl _)⟩
theorem evp_catA {a b : Addr} {xs ys : List V} (ha : Evl.Ev ta σ H (.ref a)) (hb : Evl.Ev tb σ H (.ref b)) (h1 : SqT K H a xs) (h2 : SqT K H b ys) (hz : xs.length + ys.length ≤ 1000) : EvP (tOp (rCatA K) ta tb) σ H (fun v H => ∃ p, v = .ref p ∧ SqT K H p (xs ++ ys)) := fun H1 e Q q =>
  ha H1 e _ fun H2 e2 => hb H2 (e.trans e2) _ fun H3 e3 => by
    have E3 := (e.trans e2).trans e3
    refine ⟨a, b, xs, ys, rfl, rfl, Evl.ex_t E3 h1, Evl.ex_t E3 h2, by rw [sizeLine_eq]; omega, fun z => ?_, fun z1 z2 => ?_, fun z1 z2 p hp => ?_⟩
    · exact q _ H3 (e2.trans e3) ⟨b, rfl, by rw [z]; exact Evl.ex_t E3 h2⟩
    · exact q _ H3 (e2.trans e3) ⟨a, rfl, by rw [z2, List.append_nil]; exact Evl.ex_t E3 h1⟩
    · exact q _ _ ((e2.trans e3).trans (Evl.Ex.new hp)) ⟨p, rfl, SqT.of upd_same⟩
theorem dpa_ints {H : Hp} : ∀ ws : List Int, DpAll K H (ws.map V.int) (ws.map PyData.int)
  | [] => .nil
  | k :: ws => .cons (.int k) (dpa_ints ws)
theorem lay_ints : ∀ ws : List Int, PyData.canLayAll0 (ws.map PyData.int) = true
  | [] => rfl
  | k :: ws => by
    show (true && PyData.canLayAll0 (ws.map PyData.int)) = true
    rw [lay_ints ws]
    rfl
theorem dep_ints : ∀ ws : List Int, PyData.depthAll (ws.map PyData.int) = 0
  | [] => rfl
  | k :: ws => by
    show max 0 (PyData.depthAll (ws.map PyData.int)) = 0
    rw [dep_ints ws]
    rfl
theorem shaped_ints (ws : List Int) : SeqAt.shaped (.tuple (ws.map PyData.int)) = true := by
  unfold SeqAt.shaped
  rw [Bool.and_eq_true]
  refine ⟨lay_ints ws, decide_eq_true ?_⟩
  show PyData.depthAll (ws.map PyData.int) + 1 ≤ 64
  rw [dep_ints ws]
  decide
theorem eqv_ints : ∀ ws us : List Int, PyData.eqvAll (ws.map PyData.int) (us.map PyData.int) = decide (ws = us)
  | [], [] => rfl
  | [], _ :: _ => rfl
  | _ :: _, [] => rfl
  | w :: ws, u :: us => by
    show ((w == u) && PyData.eqvAll (ws.map PyData.int) (us.map PyData.int)) = _
    rw [eqv_ints ws us, Bool.eq_iff_iff]
    simp
theorem rv_eqT {H : Hp} {g h : Addr} {ws us : List Int} (h1 : SqT K H g (ws.map V.int)) (h2 : SqT K H h (us.map V.int)) : Evl.RV (rEqD K) (.ref g) (.ref h) H (.bl (decide (ws = us))) := fun H1 e Q q =>
  ⟨_, _, .tup (Evl.ex_t e h1) (dpa_ints ws), .tup (Evl.ex_t e h2) (dpa_ints us), shaped_ints ws, shaped_ints us, by
    show Q (.bl (PyData.eqvAll (ws.map PyData.int) (us.map PyData.int))) H1
    rw [eqv_ints]
    exact q H1 (Evl.Ex.refl _)⟩
theorem flat_ints (ws : List Int) : (ws.map V.int).all flatV = true := by
  rw [List.all_map]
  exact List.all_eq_true.mpr fun _ _ => rfl
theorem inV_ints (k : Int) : ∀ ws : List Int, inV (.int k) (ws.map V.int) = decide (k ∈ ws)
  | [] => rfl
  | u :: us => by
    have ih := inV_ints k us
    unfold inV at ih ⊢
    rw [List.map_cons, List.any_cons, ih]
    have e : eqV (.int u) (.int k) = decide (k = u) := by
      have : eqV (.int u) (.int k) = (u == k) := rfl
      rw [this, Bool.eq_iff_iff, beq_iff_eq, decide_eq_true_eq]
      exact eq_comm
    rw [e, Bool.eq_iff_iff]
    simp
theorem evp_ref {σ : L2.St} {H : Hp} {i : Nat} {p : Addr} {xs : List V} (h : SqT K H p xs) (hi : σ[i]? = some (some (.ref p))) : EvP (tVar i) σ H (fun v H => ∃ a, v = .ref a ∧ SqT K H a xs) := fun H1 e Q q => ⟨_, hi, q _ H1 (Evl.Ex.refl _) ⟨p, rfl, Evl.ex_t e h⟩⟩
theorem raw0 {P : Program} {w : World} {K : PySem.W.Frag} {mg : Str → Option Value} {base : Heap} {k : Nat} {f : Addr} {fd : FuncData} {ps : List Str} {sp : Sp} (F : FnOk P w K mg base CX0 k f fd ps sp) (b : Binds K fd ps []) : FnR P w K mg base CX0 k f sp :=
  FnR.imp (F.raw b .nil) fun vs H Q E h => by
    rw [List.append_nil]
    exact h
theorem shaped_intsL (ws : List Int) : SeqAt.shaped (.list (ws.map PyData.int)) = true := by
  unfold SeqAt.shaped
  rw [Bool.and_eq_true]
  refine ⟨lay_ints ws, decide_eq_true ?_⟩
  show PyData.depthAll (ws.map PyData.int) + 1 ≤ 64
  rw [dep_ints ws]
  decide
theorem rv_neL {g h : Addr} {ws us : List Int} (h1 : SqL K H g (ws.map V.int)) (h2 : SqL K H h (us.map V.int)) : Evl.RV (rNeD K) (.ref g) (.ref h) H (.bl (!decide (ws = us))) := fun H1 e Q q =>
  ⟨_, _, .lst (Evl.ex_l e h1) (dpa_ints ws), .lst (Evl.ex_l e h2) (dpa_ints us), shaped_intsL ws, shaped_intsL us, by
    show Q (.bl (!PyData.eqvAll (ws.map PyData.int) (us.map PyData.int))) H1
    rw [eqv_ints]
    exact q H1 (Evl.Ex.refl _)⟩
theorem el_cat {l : Addr} {xs ys : List V} (ha : Evl.Ev ta σ H (.ref l)) (hl : H l = some (.lst xs)) (hb : Evl.EvL tb σ H ys) (hz : xs.length + ys.length ≤ 100000) : Evl.EvL (tOp rCat ta tb) σ H (xs ++ ys) := fun H1 e Q q =>
  ha H1 e _ fun H2 e2 => hb H2 (e.trans e2) _ fun p H3 hp e3 h3 => ⟨l, p, xs, ys, rfl, rfl, ((e.trans e2).trans e3) _ _ hl, h3, Evl.sz_of hz, fun p' hp' => q p' _ (Evl.fresh_back (e2.trans e3) hp') ((e2.trans e3).trans (Evl.Ex.new hp')) upd_same⟩
theorem evp_tupL {l : Addr} {xs : List V} (ha : Evl.Ev te σ H (.ref l)) (hl : SqL K H l xs) : EvP (tCB (fun xs H Q => ∃ p ys, xs = [.ref p] ∧ ((SqL K H p ys ∧ ∀ l, H l = none → Q (.ref l) (upd H l (.tup ys))) ∨ (SqT K H p ys ∧ Q (.ref p) H))) (tCons te tNil)) σ H (fun v H => ∃ a, v = .ref a ∧ SqT K H a xs) := fun H1 e Q q =>
  ha H1 e _ fun H2 e2 => ⟨l, xs, rfl, .inl ⟨Evl.ex_l (e.trans e2) hl, fun t ht => q _ _ (e2.trans (Evl.Ex.new ht)) ⟨t, rfl, SqT.of upd_same⟩⟩⟩
theorem evp_of {E : XK} {ns : List Int} (ho : Evl.Ev ta σ H (.ref C)) (h : EvP te σ H (fun v H => ∃ a, v = .ref a ∧ SqT K H a (ns.map V.int))) (hz : ns.length ≤ 50) : EvP (ClX.tCMeth C (spLof K C) E ta (tCons te tNil)) σ H (IsLine K C ns) := fun H1 e Q q =>
  ho H1 e _ fun H2 e2 => ⟨rfl, h H2 (e.trans e2) _ fun v H3 e3 ⟨a, ev, ha⟩ => by
    subst ev
    exact ⟨a, ns, rfl, ha, hz, fun v H4 e4 p => q v H4 ((e2.trans e3).trans e4) p⟩⟩
theorem ev_lenL {l : Addr} {ns : List Int} (ha : Evl.Ev ta σ H (.ref l)) (h : SqL K H l (ns.map V.int)) : Evl.Ev (tCB (Evl.rLenS K) (tCons ta tNil)) σ H (.int (ns.length : Int)) := by
  have z := Evl.ev_len ha h
  rw [List.length_map] at z
  exact z
theorem dec_nat {m n : Nat} : decide (V.int (m : Int) = V.int (n : Int)) = decide (m = n) := by
  rw [dec_int, Bool.eq_iff_iff, beq_iff_eq, decide_eq_true_eq]
  omega
theorem given_len {ws : List Int} {f : Nat → Bool} {v : Nat → V} {p : Int → Bool} (h : ∀ i (hi : i < ws.length), f i = p ws[i]) : (Evl.given ws.length f v).length = (ws.filter p).length := by
  have e : ws = (List.range ws.length).map fun i => ws.getD i 0 := by
    refine List.ext_getElem (by simp) fun i h1 h2 => ?_
    simp [h1]
  have a : (ws.filter p).length = (((List.range ws.length).map fun i => ws.getD i 0).filter p).length := by rw [← e]
  rw [a, List.filter_map, List.length_map]
  unfold Evl.given
  rw [List.length_map]
  congr 1
  refine List.filter_congr fun i hi => ?_
  have hi := List.mem_range.mp hi
  rw [h i hi]
  simp [hi]
theorem el_sorted {l : Addr} {ns ws : List Int} (ha : Evl.Ev te σ H (.ref l)) (hl : SqL K H l (ns.map V.int)) (hz : ns.length ≤ 50) (A : Asc ns ws) : Evl.EvL (tCB (rSortedSet w) (tCons (tCB (XT.rSetI K w) (tCons te tNil)) tNil)) σ H (ws.map V.int) := fun H1 e Q q =>
  ha H1 e _ fun H2 e2 => ⟨l, ns, rfl, Evl.ex_l (e.trans e2) hl, by omega, fun p n hp hn => ⟨p, _, n, rfl, upd_same, by omega, fun us p' up mem len hp' => by
    have : us = ws := asc_ext up A.up fun k => by rw [mem k, decide_eq_true_eq, A.mem k]
    subst this
    exact q p' _ (Evl.fresh_back (e2.trans (Evl.Ex.new hp)) hp') ((e2.trans (Evl.Ex.new hp)).trans (Evl.Ex.new hp')) upd_same⟩⟩
theorem rc_intb {b : Bool} : Evl.RC (fun xs H Q => (∃ i, xs = [.int i] ∧ Q (.int i) H) ∨ ∃ k, xs = [.bl k] ∧ Q (.int (if k then 1 else 0)) H) [.bl b] H (.int (if b then 1 else 0)) := fun H1 e Q q => .inr ⟨b, rfl, q H1 (Evl.Ex.refl _)⟩
def IntF (H0 : Hp) : List (List Int) → List V → Hp → Prop
  | [], vs, _ => vs = []
  | ns :: r, vs, H => ∃ p ws, vs = .ref p :: ws ∧ H0 p = none ∧ H p = some (.lst (ns.map V.int)) ∧ IntF H0 r ws H
theorem intF_stays {H0 : Hp} : ∀ r, Stays (IntF H0 r)
  | [] => fun vs H H' _ h => h
  | ns :: r => fun vs H H' e ⟨p, ws, h1, h2, h3, h4⟩ => ⟨p, ws, h1, h2, e _ _ h3, intF_stays r _ _ _ e h4⟩
theorem intF_len {H0 H : Hp} : ∀ {r : List (List Int)} {vs : List V}, IntF H0 r vs H → vs.length = r.length
  | [], _, h => by rw [show _ = [] from h] <;> rfl
  | ns :: r, _, ⟨p, ws, h1, _, _, h4⟩ => by rw [h1, List.length_cons, List.length_cons, intF_len h4]
theorem intF_get {H0 H : Hp} : ∀ {r : List (List Int)} {vs : List V} {v : V}, IntF H0 r vs H → v ∈ vs → ∃ p, ∃ ns ∈ r, v = .ref p ∧ H0 p = none ∧ H p = some (.lst (ns.map V.int))
  | [], _, v, h, hv => by
    rw [show _ = [] from h] at hv
    cases hv
  | ns :: r, _, v, ⟨p, ws, h1, h2, h3, h4⟩, hv => by
    rw [h1] at hv
    rcases List.mem_cons.mp hv with z | z
    · exact ⟨p, ns, List.mem_cons_self, z, h2, h3⟩
    · obtain ⟨p', ns', m, e, q1, q2⟩ := intF_get h4 z
      exact ⟨p', ns', List.mem_cons_of_mem _ m, e, q1, q2⟩
theorem evpa_intsF {ns : List Int} {r : List (List Int)} (h : Evl.EvA tr σ H (ns.map V.int)) (hz : ns.length ≤ 100000) (hr : EvPA ts σ H (IntF H r)) : EvPA (tCons (tLst tr) ts) σ H (IntF H (ns :: r)) := fun H1 e Q q =>
  (Evl.el_lst h (by rw [List.length_map]; exact hz)) H1 e _ fun p H2 hp e2 h2 => hr H2 (e.trans e2) _ fun ws H3 e3 z => q _ H3 (e2.trans e3) ⟨p, ws, rfl, Evl.fresh_back e hp, e3 _ _ h2, z⟩
theorem evp_if {t : TT} {b : Bool} {R : V → Hp → Prop} (h : Evl.EvT t σ H b) (h1 : b = true → EvP ta σ H R) (h2 : b = false → EvP tb σ H R) : EvP (tIf t ta tb) σ H R := fun H1 e Q q => h H1 e _ fun H2 e2 => by
  cases b with
  | true =>
    rw [if_pos rfl]
    exact h1 rfl H2 (e.trans e2) Q fun v H3 e3 z => q v H3 (e2.trans e3) z
  | false =>
    rw [if_neg Bool.false_ne_true]
    exact h2 rfl H2 (e.trans e2) Q fun v H3 e3 z => q v H3 (e2.trans e3) z
theorem ea_neg {σ : L2.St} {H : Hp} {i : Int} : Evl.Ev (tUn (rU fun i => .int (-i)) (tC (.int i))) σ H (.int (-i)) := Evl.ev_un Evl.ev_c Evl.ru_neg
theorem LineAt.ins {a : Addr} {ws : List Int} (h : LineAt K C H a ws) : ∃ dx fs, H a = some (.ins C dx fs) := by
  obtain ⟨dx, g, h, _⟩ := h
  exact ⟨dx, _, h⟩
theorem insC_of {a : Addr} {ws : List Int} (h : LineAt K C H a ws) : StX.InsC X H a C := .inr h.ins
end
/-! ### repr of lists that stand by themselves -/
mutual
inductive RepT (K : PySem.W.Frag) (H : Hp) : V → PyData → Prop
  | non : RepT K H .non .none
  | bl (b : Bool) : RepT K H (.bl b) (.bool b)
  | int (i : Int) : RepT K H (.int i) (.int i)
  | str (x : Str) : RepT K H (.str x) (.str x)
  | lst {a : Addr} {xs : List V} {ds : List PyData} : H a = some (.lst xs) → RepTAll K H xs ds → RepT K H (.ref a) (.list ds)
  | tup {a : Addr} {xs : List V} {ds : List PyData} : SqT K H a xs → RepTAll K H xs ds → RepT K H (.ref a) (.tuple ds)
inductive RepTAll (K : PySem.W.Frag) (H : Hp) : List V → List PyData → Prop
  | nil : RepTAll K H [] []
  | cons {v : V} {vs : List V} {d : PyData} {ds : List PyData} : RepT K H v d → RepTAll K H vs ds → RepTAll K H (v :: vs) (d :: ds)
end
section
variable {X : Cx} {pins : List (Addr × Obj)} {σ : L2.St} {H H' : Hp} {s : Shared} {K : PySem.W.Frag}
mutual
theorem RepT.reads (I : Inv X pins σ H s) : ∀ {d : PyData} {v : V} {u : Value}, RepT X.K H v d → RelV v u → d.hasDict = false ∧ ∃ as, Reads s.heap u d as
  | _, _, _, .non, r => by
    cases r
    exact ⟨rfl, _, Reads.none⟩
  | _, _, _, .bl b, r => by
    cases r
    exact ⟨rfl, _, Reads.bool b⟩
  | _, _, _, .int i, r => by
    obtain ⟨t, rfl⟩ := r
    exact ⟨rfl, _, Reads.int i t⟩
  | _, _, _, .str x, r => by
    obtain ⟨t, rfl⟩ := r
    exact ⟨rfl, _, Reads.str x t⟩
  | _, _, _, .lst hs ha, r => by
    cases r
    obtain ⟨its, rv, ⟨o, n, ho, hc, _, hd⟩, _⟩ := I.list (SqL.of hs)
    obtain ⟨z, as, hr⟩ := RepTAll.reads I ha rv
    exact ⟨z, _, Reads.list ho hc hd hr⟩
  | _, _, _, .tup hs ha, r => by
    cases r
    obtain ⟨its, rv, ⟨o, ho, hc, n, hd⟩, _⟩ := I.tuple hs
    obtain ⟨z, as, hr⟩ := RepTAll.reads I ha rv
    exact ⟨z, _, Reads.tuple ho hc hd hr⟩
theorem RepTAll.reads (I : Inv X pins σ H s) : ∀ {ds : List PyData} {vs : List V} {us : List Value}, RepTAll X.K H vs ds → Vals vs us → PyData.hasDictAll ds = false ∧ ∃ as, ReadsAll s.heap us ds as
  | _, _, _, .nil, r => by
    cases r
    exact ⟨rfl, _, ReadsAll.nil⟩
  | _, _, _, .cons h1 h2, r => by
    cases r with
    | cons r1 r2 =>
      obtain ⟨z1, as, q1⟩ := RepT.reads I h1 r1
      obtain ⟨z2, bs, q2⟩ := RepTAll.reads I h2 r2
      exact ⟨by
        show (_ || _) = false
        rw [z1, z2]
        rfl, _, ReadsAll.cons q1 q2⟩
end
mutual
theorem RepT.mono (e : Evl.Ex H H') : ∀ {d : PyData} {v : V}, RepT K H v d → RepT K H' v d
  | _, _, .non => .non
  | _, _, .bl b => .bl b
  | _, _, .int i => .int i
  | _, _, .str x => .str x
  | _, _, .lst h r => .lst (e _ _ h) (RepTAll.mono e r)
  | _, _, .tup h r => .tup (Evl.ex_t e h) (RepTAll.mono e r)
theorem RepTAll.mono (e : Evl.Ex H H') : ∀ {ds : List PyData} {vs : List V}, RepTAll K H vs ds → RepTAll K H' vs ds
  | _, _, .nil => .nil
  | _, _, .cons a b => .cons (RepT.mono e a) (RepTAll.mono e b)
end
end
def rReprT (K : PySem.W.Frag) : List V → Hp → VK → Prop := fun xs H Q => ∃ x d, xs = [x] ∧ RepT K H x d ∧ d.showable = true ∧ d.depth ≤ 100 ∧ d.shown.length ≤ sizeLine ∧ Q (.str d.shown) H
theorem call_reprT {X : Cx} {k : Nat} (hG : X.A.guards = some []) (hr : Room k X.A) : CallR X (.builtin "repr") (rReprT X.K) := by
  intro pins s σ H xs us Q I r h
  obtain ⟨x, d, rfl, hd, hs, hdp, hz, q⟩ := h
  cases r with
  | @cons _ u _ ur rx rr =>
    cases rr
    have hun : X.A.units + (d.depth + 1) < cLine := by
      have := hr.un
      omega
    cases hd with
    | non =>
      cases rx
      exact PySem.P.repr_of_none ⟨.str _, H, I.tok _, ⟨_, rfl⟩, q⟩
    | bl b =>
      cases rx
      exact PySem.P.repr_of_bool ⟨.str _, H, I.tok _, ⟨_, rfl⟩, q⟩
    | int i =>
      obtain ⟨t, rfl⟩ := rx
      exact PySem.P.repr_of_int (by simpa [PyData.showable] using hs) ⟨.str _, H, I.tok _, ⟨_, rfl⟩, q⟩
    | str y =>
      obtain ⟨t, rfl⟩ := rx
      exact PySem.P.repr_of_str ⟨.str _, H, I.tok _, ⟨_, rfl⟩, q⟩ hz
    | lst h1 h2 =>
      cases rx
      obtain ⟨z, as, hrd⟩ := RepT.reads I (RepT.lst h1 h2) rfl
      exact repr_of_reads' hrd hs (PyData.noDict_hsm z) hG hun (fun _ _ e => e) (fun h' t tk k => ⟨.str _, H, I.kept k, ⟨_, rfl⟩, q⟩) hz
    | tup h1 h2 =>
      cases rx
      obtain ⟨z, as, hrd⟩ := RepT.reads I (RepT.tup h1 h2) rfl
      exact repr_of_reads' hrd hs (PyData.noDict_hsm z) hG hun (fun _ _ e => e) (fun h' t tk k => ⟨.str _, H, I.kept k, ⟨_, rfl⟩, q⟩) hz
section
variable {P : Program} {w : World} {K : PySem.W.Frag} {mg : Str → Option Value} {base : Heap}
section
variable {σ : L2.St} {H : Hp} {ta tb tc te : TE}
theorem ev_reprT {d : PyData} (h : EvP te σ H (fun x H => RepT K H x d)) (h1 : d.showable = true) (h2 : d.depth ≤ 100) (h3 : d.shown.length ≤ sizeLine) : Evl.Ev (tCB (rReprT K) (tCons te tNil)) σ H (.str d.shown) := fun H1 e Q q =>
  h H1 e _ fun x H2 e2 r => ⟨x, d, rfl, r, h1, h2, h3, q H2 e2⟩
theorem shown_bl (b : Bool) : (PyData.bool b).shown.length ≤ sizeLine := by cases b <;> decide
theorem ev_reprB {b : Bool} (h : Evl.Ev te σ H (.bl b)) : Evl.Ev (tCB (rReprT K) (tCons te tNil)) σ H (.str (PyData.bool b).shown) :=
  ev_reprT (fun H1 e Q q => h H1 e Q fun H2 e2 => q _ H2 e2 (.bl b)) (by cases b <;> rfl) (by cases b <;> decide) (shown_bl b)
theorem ev_reprI {i : Int} (hz : i.natAbs < 2 ^ 200) (h : Evl.Ev te σ H (.int i)) : Evl.Ev (tCB (rReprT K) (tCons te tNil)) σ H (.str (PyData.int i).shown) := by
  have l2 : i.natAbs.log2 < 200 := by
    rcases Nat.eq_zero_or_pos i.natAbs with z | z
    · rw [z]
      decide
    · exact (Nat.log2_lt (by omega)).mpr hz
  refine ev_reprT (fun H1 e Q q => h H1 e Q fun H2 e2 => q _ H2 e2 (.int i)) ?_ (Nat.zero_le _) ?_
  · show decide _ = true
    exact decide_eq_true (by omega)
  · have := XS.int_len i
    show ((toString i : String) : Str).length ≤ sizeLine
    rw [sizeLine_eq]
    omega

end
end

section
variable {X : Cx} {σ : L2.St} {H : Hp} {ta tb tc te tf : TE} {tr ts : TA} {E : XK}
theorem q_asgG {te : TE} {g : TG} {tz : TS} {D : Ends} {σ : L2.St} {H : Hp} (h : te σ H (fun v H1 => g v σ H1 fun σ2 H2 => tz D σ2 H2)) : tSeq (tAsg te g) tz D σ H := h
theorem t_tup {ta : TA} {σ : L2.St} {H : Hp} {Q : VK} (h : ta σ H fun xs H1 => xs.length ≤ sizeLine ∧ ∀ t, H1 t = none → Q (.ref t) (upd H1 t (.tup xs))) : tTup ta σ H Q := h
def AtL (K : PySem.W.Frag) (C : Addr) (ws : List Int) : V → Hp → Prop := fun v H => ∃ a, v = .ref a ∧ LineAt K C H a ws
theorem stays_atl {ws : List Int} : Stays (AtL K C ws) := fun v H H' e ⟨a, h1, h2⟩ => ⟨a, h1, h2.ex e⟩
theorem IsLine.atl {ns ws : List Int} {v : V} {H : Hp} (h : IsLine K C ns v H) (A : Asc ns ws) : AtL K C ws v H := by
  obtain ⟨a, us, e, h1, h2⟩ := h
  exact ⟨a, e, h2.eq A ▸ h1⟩
theorem evp_lineV {a : Addr} {ws : List Int} {i : Nat} (h : LineAt K C H a ws) (hi : σ[i]? = some (some (.ref a))) : EvP (tVar i) σ H (AtL K C ws) := fun H1 e Q q => ⟨_, hi, q _ H1 (Evl.Ex.refl _) ⟨a, rfl, h.ex e⟩⟩
def TupAt (K : PySem.W.Frag) (ws : List Int) : V → Hp → Prop := fun v H => ∃ a, v = .ref a ∧ SqT K H a (ws.map V.int)
theorem stays_tup {ws : List Int} : Stays (TupAt K ws) := fun v H H' e ⟨a, h1, h2⟩ => ⟨a, h1, Evl.ex_t e h2⟩
theorem evp_tupV {p : Addr} {ws : List Int} {i : Nat} (h : SqT K H p (ws.map V.int)) (hi : σ[i]? = some (some (.ref p))) : EvP (tVar i) σ H (TupAt K ws) := evp_ref h hi
theorem evp_tupN {xs : List V} (ha : Evl.EvL te σ H xs) : EvP (tCB (fun xs H Q => ∃ p ys, xs = [.ref p] ∧ ((SqL K H p ys ∧ ∀ l, H l = none → Q (.ref l) (upd H l (.tup ys))) ∨ (SqT K H p ys ∧ Q (.ref p) H))) (tCons te tNil)) σ H (fun v H => ∃ a, v = .ref a ∧ SqT K H a xs) := fun H1 e Q q =>
  ha H1 e _ fun l H2 hl e2 h2 => ⟨l, xs, rfl, .inl ⟨SqL.of h2, fun t ht => q _ _ (e2.trans (Evl.Ex.new ht)) ⟨t, rfl, SqT.of upd_same⟩⟩⟩
theorem evp_neT {ws us : List Int} (ha : EvP ta σ H (TupAt K ws)) (hb : EvP tb σ H (TupAt K us)) : EvP (tOp (rNeD K) ta tb) σ H (fun v _ => v = .bl (!decide (ws = us))) :=
  evp_op ha stays_tup hb fun x y H1 e1 ⟨a, ex, h1⟩ ⟨b, ey, h2⟩ Q q => by
    subst ex; subst ey
    refine ⟨_, _, .tup h1 (dpa_ints ws), .tup h2 (dpa_ints us), shaped_ints ws, shaped_ints us, q _ H1 (Evl.Ex.refl _) ?_⟩
    show V.bl (!PyData.eqvAll (ws.map PyData.int) (us.map PyData.int)) = _
    rw [eqv_ints]
theorem evp_eqT {ws us : List Int} (ha : EvP ta σ H (TupAt K ws)) (hb : EvP tb σ H (TupAt K us)) : EvP (tOp (rEqD K) ta tb) σ H (fun v _ => v = .bl (decide (ws = us))) :=
  evp_op ha stays_tup hb fun x y H1 e1 ⟨a, ex, h1⟩ ⟨b, ey, h2⟩ Q q => by
    subst ex; subst ey
    exact rv_eqT h1 h2 H1 (Evl.Ex.refl _) Q fun H2 e2 => q _ H2 e2 rfl
theorem el_sortedN {ns ws : List Int} (ha : Evl.EvL te σ H (ns.map V.int)) (hz : ns.length ≤ 50) (A : Asc ns ws) : Evl.EvL (tCB (rSortedSet w) (tCons (tCB (XT.rSetI K w) (tCons te tNil)) tNil)) σ H (ws.map V.int) := fun H1 e Q q =>
  ha H1 e _ fun l H2 hl e2 h2 => ⟨l, ns, rfl, SqL.of h2, by omega, fun p n hp hn => ⟨p, _, n, rfl, upd_same, by omega, fun us p' up mem len hp' => by
    have : us = ws := asc_ext up A.up fun k => by rw [mem k, decide_eq_true_eq, A.mem k]
    subst this
    exact q p' _ (Evl.fresh_back (e2.trans (Evl.Ex.new hp)) hp') ((e2.trans (Evl.Ex.new hp)).trans (Evl.Ex.new hp')) upd_same⟩⟩
theorem evpa_rep {d : PyData} {ds : List PyData} (h : EvP te σ H (fun v H => RepT K H v d)) (hr : EvPA tr σ H (fun vs H => RepTAll K H vs ds)) : EvPA (tCons te tr) σ H (fun vs H => RepTAll K H vs (d :: ds)) :=
  (evpa_cons h (fun v H H' e p => p.mono e) hr).imp fun vs H1 _ ⟨v, ws, e, hv, hw⟩ => e ▸ .cons hv hw
theorem evpa_rep0 : EvPA tNil σ H (fun vs H => RepTAll K H vs []) := evpa_nil.imp fun vs H1 _ e => e ▸ .nil
theorem repT_len : ∀ {vs : List V} {ds : List PyData}, RepTAll K H vs ds → vs.length = ds.length
  | _, _, .nil => rfl
  | _, _, .cons _ r => congrArg (· + 1) (repT_len r)
theorem evp_replst {ds : List PyData} (h : EvPA tr σ H (fun vs H => RepTAll K H vs ds)) (hz : ds.length ≤ 1000) : EvP (tLst tr) σ H (fun v H => RepT K H v (.list ds)) :=
  (evp_lst h (fun vs H1 H2 e p => p.mono e) (fun vs H1 p => by rw [repT_len p]; omega)).imp fun v H1 _ ⟨p, vs, e, h1, h2⟩ => e ▸ .lst h1 h2
theorem repT_ints : ∀ (ws : List Int) (H : Hp), RepTAll K H (ws.map V.int) (ws.map PyData.int)
  | [], _ => .nil
  | k :: ws, H => .cons (.int k) (repT_ints ws H)
theorem TupAt.rep {ws : List Int} {v : V} {H : Hp} (h : TupAt K ws v H) : RepT K H v (.tuple (ws.map PyData.int)) := by
  obtain ⟨a, e, h⟩ := h
  exact e ▸ .tup h (repT_ints ws H)
theorem evp_is {v : V} {d : PyData} (h : Evl.Ev te σ H v) (r : ∀ H, RepT K H v d) : EvP te σ H (fun v H => RepT K H v d) := fun H1 e Q q => h H1 e Q fun H2 e2 => q _ H2 e2 (r H2)
end
end
end LN

set_option Elab.async false
set_option maxRecDepth 100000
set_option maxHeartbeats 2000000
set_option linter.all false
set_option pp.maxSteps 200
namespace LN
open PySem PySem.Spec PyProof.Rows L2 XG XV XL
abbrev sLfirst : Stmt := (inClass (top 10) 7)
abbrev sLcanof : Stmt := (inClass (top 10) 6)
abbrev sLcan : Stmt := (inClass (top 10) 5)
abbrev sLalike : Stmt := (inClass (top 10) 8)
def rLenSet (w : World) : List V → Hp → VK → Prop := fun xs H Q => ∃ (a : Addr) (S : Int → Bool) (n : Nat), xs = [.ref a] ∧ H a = some (SetO w a S n) ∧ Q (.int (n : Nat)) H
theorem call_lenSet {X : Cx} : CallR X (.builtin "len") (rLenSet X.w) := by
  intro pins s σ H xs us Q I r h
  obtain ⟨a, S, n, rfl, ha, q⟩ := h
  obtain ⟨u, rfl, rx⟩ := vals1 r
  obtain rfl : u = Value.ref a := rx
  obtain ⟨o, es, ep, t, ho, hx, hd, _, _, _, hb, hf, hn, _⟩ := setO_get I ha
  subst hn
  refine PySem.call_len_set ho hx hd hf (by unfold scanBound at hb; omega) ⟨.int es.size, H, I.tok _, ⟨_, rfl⟩, q⟩
section
variable {P : Program} {w : World} {K : PySem.W.Frag} {mg : Str → Option Value} {base : Heap} {C : Addr}
section
variable {X : Cx} {σ : L2.St} {H : Hp} {ta tb tc te tf tv : TE} {tr ts : TA} {E : XK}
def ScP (w : World) (H2 : Hp) (D : Addr) (vs : List Int) (f : Int → Bool) (i : Nat) (H' : Hp) : Prop := i ≤ vs.length ∧ Evl.Ex H2 H' ∧ ∃ (S : Int → Bool) (es : List Int), H' D = some (SetO w D S es.length) ∧ es.Nodup ∧ (∀ k, S k = decide (k ∈ es)) ∧ (∀ k, k ∈ es ↔ k ∈ vs.take i ∧ f k = true) ∧ es.length ≤ i
theorem ev_lenSc {p : Addr} {vs ds : List Int} {j : Nat} {wv : List Nat} {t : TT} (ha : Evl.Ev tv σ H (.ref p)) (hp : SqT K H p (vs.map V.int)) (hz : vs.length ≤ 1000) (hw : ∀ x, wipe ((wipe σ wv).set j (some x)) wv = wipe σ wv) (f : Int → Bool)
    (ht : ∀ z H1, Evl.Ex H H1 → Evl.EvT t ((wipe σ wv).set j (some (.int z))) H1 (f z)) (he : ∀ z H1, Evl.Ex H H1 → Evl.Ev te ((wipe σ wv).set j (some (.int z))) H1 (.int z)) (nd : ds.Nodup) (mem : ∀ k, k ∈ ds ↔ k ∈ vs ∧ f k = true) :
    Evl.Ev (tCB (rLenSet w) (tCons (XM.tScI w (iTup K tv) (gName j) t te wv) tNil)) σ H (.int (ds.length : Nat)) := fun H1 e Q q => ha H1 e _ fun H2 e2 => by
  have E2 := e.trans e2
  refine ⟨p, rfl, ⟨_, Evl.ex_t E2 hp⟩, fun D hD => ?_⟩
  refine ⟨fun i m H' => m = vs.length - i ∧ ScP w H2 D vs f i H', ⟨_, rfl, Nat.zero_le _, Evl.Ex.new hD, _, [], upd_same, .nil, fun k => by simp, fun k => by simp, Nat.le_refl _⟩, ?_⟩
  rintro i m H' ⟨rfl, hi, ex, S, es, hS, hnd, hS1, hS2, hl⟩
  have hq := Evl.ex_t (E2.trans ex) hp
  by_cases hlt : i < vs.length
  · refine .inr ⟨⟨_, _, hq, List.getElem?_eq_getElem (by simpa using hlt)⟩, ScP w H2 D vs f (i + 1), fun H' z => ⟨vs.length - (i + 1), by omega, rfl, z⟩, fun x H'' y => ?_⟩
    · obtain ⟨rfl, y⟩ := y
      have yx := y _ hq
      rw [List.getElem?_map, List.getElem?_eq_getElem hlt] at yx
      cases Option.some.inj yx
      refine ⟨hw _, ht _ _ (E2.trans ex) _ (Evl.Ex.refl _) _ fun H3 e3 => ?_⟩
      have tk : vs.take (i + 1) = vs.take i ++ [vs[i]] := by rw [List.take_add_one, List.getElem?_eq_getElem hlt]; rfl
      cases hf : f vs[i] with
      | false =>
        rw [if_neg (by simp)]
        refine ⟨hlt, ex.trans e3, S, es, e3 _ _ hS, hnd, hS1, fun k => ?_, by omega⟩
        rw [hS2, tk, List.mem_append, List.mem_singleton]
        constructor
        · rintro ⟨a, b⟩
          exact ⟨.inl a, b⟩
        · rintro ⟨a | a, b⟩
          · exact ⟨a, b⟩
          · rw [a, hf] at b
            cases b
      | true =>
        rw [if_pos rfl]
        refine he _ _ ((E2.trans ex).trans e3) _ (Evl.Ex.refl _) _ fun H4 e4 => ⟨vs[i], S, es.length, rfl, (e3.trans e4) _ _ hS, by unfold scanBound; omega, hlt, ((ex.trans e3).trans e4).mut hD, ?_⟩
        cases hk : S vs[i] with
        | true =>
          have hm : vs[i] ∈ es := by
            rw [hS1] at hk
            exact of_decide_eq_true hk
          rw [if_pos rfl]
          refine ⟨_, es, upd_same, hnd, fun k => ?_, fun k => ?_, by omega⟩
          · rw [hS1, Bool.eq_iff_iff, Bool.or_eq_true, decide_eq_true_eq, decide_eq_true_eq]
            constructor
            · rintro (a | a)
              · exact a
              · rw [a]
                exact hm
            · exact .inl
          · rw [hS2, tk, List.mem_append, List.mem_singleton]
            constructor
            · rintro ⟨a, b⟩
              exact ⟨.inl a, b⟩
            · rintro ⟨a | a, b⟩
              · exact ⟨a, b⟩
              · rw [a]
                exact (hS2 _).mp hm
        | false =>
          have hm : vs[i] ∉ es := by
            rw [hS1] at hk
            exact of_decide_eq_false hk
          rw [if_neg (by simp)]
          refine ⟨_, vs[i] :: es, upd_same, List.nodup_cons.mpr ⟨hm, hnd⟩, fun k => ?_, fun k => ?_, by rw [List.length_cons]; omega⟩
          · rw [hS1, Bool.eq_iff_iff, Bool.or_eq_true, decide_eq_true_eq, decide_eq_true_eq, decide_eq_true_eq, List.mem_cons]
            exact or_comm
          · rw [List.mem_cons, hS2, tk, List.mem_append, List.mem_singleton]
            constructor
            · rintro (a | ⟨a, b⟩)
              · exact ⟨.inr a, a ▸ hf⟩
              · exact ⟨.inl a, b⟩
            · rintro ⟨a | a, b⟩
              · exact .inr ⟨a, b⟩
              · exact .inl a
  · obtain rfl : i = vs.length := by omega
    refine .inl ⟨⟨_, hq, by simp⟩, D, S, es.length, rfl, hS, ?_⟩
    have e3 : es.length = ds.length := by
      refine Nat.le_antisymm (XT.nodup_len hnd fun k hk => ?_) (XT.nodup_len nd fun k hk => ?_)
      · rw [mem]
        rw [hS2, List.take_length] at hk
        exact hk
      · rw [hS2, List.take_length]
        exact (mem k).mp hk
    rw [e3]
    exact q _ (e2.trans ex)
end
/-! where the first ones begin -/
def spLfirst (K : PySem.W.Frag) (C : Addr) : Sp := fun vs H Q _ => ∃ (a p : Addr) (ws us low : List Int), vs = [.ref a, .ref p] ∧ LineAt K C H a ws ∧ ws.Pairwise (· < ·) ∧ SqT K H p (us.map V.int) ∧ us.length ≤ 100 ∧ Asc (us ++ ws) low ∧ Evl.RetV (.int (base0 ws low)) H Q
theorem scLfirst : FnScope ["self", "values", "lowest", "value"] ["self", "values"] (defScope sLfirst) := ⟨rfl, rfl, rfl, by decide +kernel, rfl, by decide +kernel, by decide +kernel⟩
theorem okLfirst {f : Addr} {fd : FuncData} (F : Fun K "_first_near" "Line._first_near" sLfirst f fd) (T : Bt mg) (c : LC K C) : FnOk P w K mg base CX0 1 f fd ["self", "values"] (spLfirst K C) := by
  refine F.ok scLfirst (fun vs H Q E h => ?_) (fun cdv A outer s H vs Q E hr h => ?_)
  · obtain ⟨a, p, ws, us, low, rfl, _⟩ := h
    rfl
  · obtain ⟨a, p, ws, us, low, rfl, ⟨dx, g, ha, hg⟩, up, hp, hz, asc, q⟩ := h
    refine ⟨_, (pss_cons (ps_if (pt_not (pt_truth (pe_fld (pv 0) rfl) (fun _ => rfl))) (pss_one (ps_ret (pe_un un_neg pe_int))) pss_nil)
  (pss_cons (ps_set (i := 2) scLfirst.nd rfl (Or.inr rfl) (pe_ix ix_tup (pe_fld (pv 0) rfl) pe_int (fun _ _ => rfl)))
  (pss_one (ps_ret (pe_op op_sub (pe_op op_sub (pv 2) pe_int) (pe_callB call_lenSet (by rfl) T.len (by decide +kernel) (pa_cons (XM.pe_scI (own := [("value", 3)]) (g := gName 3) rfl scLfirst.nd (pi_tup (pv 1)) (blkOk_by (own := [("value", 3)]) (N := ["self", "values", "lowest", "value"]) (sc := defScope sLfirst) (by decide +kernel)) (fun _ _ _ _ _ => (pg_name (i := 3) scLfirst.nd rfl (Or.inl rfl))) (fun _ _ _ _ _ => (pts_one (pt_cmpR op_lt (pv 3) (pv 2) (nomark _)))) (fun _ _ _ _ _ => (pv 3))) pa_nil))))))), ?_⟩
    have tt : Evl.EvT (fun σ H Q => tFld K (tVar 0) "_given" σ H fun x H' => ∃ k, TruV K x H' k ∧ Q k H') [some (.ref a), some (.ref p), none, none] H (!(ws.isEmpty)) := fun H1 e Q q => ev_giv c ha rfl H1 e _ fun H2 e2 => ⟨_, .inr (.inl ⟨_, Evl.ex_t (e.trans e2) hg, by cases ws <;> rfl⟩), q H2 e2⟩
    refine Evl.q_when (b := ws.isEmpty) (Evl.et_is (Evl.et_not tt) (by simp)) (fun hb H1 e1 => ?_) (fun hb H1 e1 => ?_)
    · have : ws = [] := List.isEmpty_iff.mp hb
      subst this
      exact Evl.s_ret (Evl.ev_un Evl.ev_c Evl.ru_neg) fun H2 e2 => q _ (e1.trans e2)
    · have h0 : 0 < ws.length := by
        cases ws with
        | nil => cases hb
        | cons _ _ => simp
      refine Evl.q_asg (Evl.ev_op (ev_giv c (e1 _ _ ha) rfl) Evl.ev_c (Evl.rv_ixT (i := ((0 : Nat) : Int)) (Evl.ex_t e1 hg) (atI_int h0))) fun H2 e2 => ?_
      have E2 := e1.trans e2
      refine Evl.s_ret (Evl.ev_op (Evl.ev_op (Evl.ev_var rfl) Evl.ev_c Evl.rv_I0) (ev_lenSc (ds := low.filter fun z => decide (z < ws[0])) (Evl.ev_var rfl) (Evl.ex_t E2 hp) (by omega) (fun _ => rfl) (fun z => decide (z < ws[0])) (fun z H1 e => Evl.et_test (Evl.ev_op (Evl.ev_var rfl) (Evl.ev_var rfl) Evl.rv_I0)) (fun z H1 e => Evl.ev_var rfl) ((asc.up.filter _).imp fun h => by omega) fun k => ?_) Evl.rv_I0) fun H3 e3 => ?_
      · rw [List.mem_filter, asc.mem k, List.mem_append]
        constructor
        · rintro ⟨a | a, b⟩
          · exact ⟨a, b⟩
          · exfalso
            obtain ⟨n, hn, rfl⟩ := List.mem_iff_getElem.mp a
            have b := of_decide_eq_true b
            rcases Nat.eq_zero_or_pos n with y | y
            · subst y
              omega
            · have := asc_lt up h0 hn y
              omega
        · rintro ⟨a, b⟩
          exact ⟨.inl a, b⟩
      · have z := q _ (E2.trans e3)
        unfold base0 at z
        rw [dif_pos h0] at z
        exact z
end
end LN

set_option Elab.async false
set_option maxRecDepth 100000
set_option maxHeartbeats 2000000
set_option linter.all false
set_option pp.maxSteps 200
namespace LN
open PySem PySem.Spec PyProof.Rows L2 XG XV XL
section
variable {P : Program} {w : World} {K : PySem.W.Frag} {mg : Str → Option Value} {base : Heap} {C : Addr}
section
variable {X : Cx} {σ : L2.St} {H : Hp} {ta tb tc te tf tl tv : TE} {tr ts : TA} {E : XK}
theorem el_mapT {a : Addr} {xs : List Int} {j : Nat} {vs : List Nat} (g : Int → Int) (h : Evl.Ev tl σ H (.ref a)) (hx : SqT K H a (xs.map V.int)) (hz : xs.length ≤ 1000) (hw : ∀ x, wipe ((wipe σ vs).set j (some x)) vs = wipe σ vs)
    (he : ∀ z H1, Evl.Ex H H1 → z ∈ xs → Evl.Ev te ((wipe σ vs).set j (some (.int z))) H1 (.int (g z))) : Evl.EvL (tLc (iTup K tl) (gName j) tYes te vs) σ H ((xs.map g).map V.int) := fun H0 e Q q => h H0 e _ fun H1 e1 => by
  have E1 := e.trans e1
  refine ⟨a, rfl, ⟨_, Evl.ex_t E1 hx⟩, fun Dl hD => lc_tup (xs := xs.map V.int) (Evl.Cw H1 (fun _ => true) (fun i => .int (g (xs.getD i 0))) Dl) ⟨hD, Evl.Ex.new hD, upd_same⟩ (fun i H' _ p' => Evl.ex_t (E1.trans p'.2.1) hx) (fun i x H' hi p' => ⟨hw x, ?_⟩) (fun H' p' => q Dl H' (Evl.fresh_back e1 p'.1) (e1.trans p'.2.1) ?_)⟩
  · rw [List.getElem?_map] at hi
    obtain ⟨z, hz', rfl⟩ := Option.map_eq_some_iff.mp hi
    have lt := (List.getElem?_eq_some_iff.mp hz').1
    have ez : xs.getD i 0 = z := by rw [List.getD_eq_getElem?_getD, hz']; rfl
    exact Evl.cw_turn p' (by omega) et_yes fun _ => by
      rw [ez]
      exact he z H1 E1 (List.mem_of_getElem? hz')
  · have z := p'.2.2
    rw [List.length_map] at z
    rw [z]
    congr 2
    unfold Evl.given
    rw [List.filter_eq_self.mpr fun _ _ => rfl]
    refine List.ext_getElem (by simp) fun i h1 h2 => ?_
    simp at h1 h2
    simp [h1]
theorem el_sortedT {p : Addr} {ns ws : List Int} (ha : Evl.Ev te σ H (.ref p)) (hp : SqT K H p (ns.map V.int)) (hz : ns.length ≤ 50) (A : Asc ns ws) : Evl.EvL (tCB (rSortedSet w) (tCons (tCB (XL.rSetT K w) (tCons te tNil)) tNil)) σ H (ws.map V.int) := fun H1 e Q q =>
  ha H1 e _ fun H2 e2 => ⟨p, ns, rfl, Evl.ex_t (e.trans e2) hp, by omega, fun p n hp hn => ⟨p, _, n, rfl, upd_same, by omega, fun us p' up mem len hp' => by
    have : us = ws := asc_ext up A.up fun k => by rw [mem k, decide_eq_true_eq, A.mem k]
    subst this
    exact q p' _ (Evl.fresh_back (e2.trans (Evl.Ex.new hp)) hp') ((e2.trans (Evl.Ex.new hp)).trans (Evl.Ex.new hp')) upd_same⟩⟩
theorem ev_dget {d : Addr} {kvs : List (Key × V)} {k : Int} {v : V} (ha : Evl.Ev ta σ H (.ref d)) (hb : Evl.Ev tb σ H (.int k)) (hd : H d = some (.dK kvs)) (hv : valV kvs (.inl k) = some v) : Evl.Ev (tDGet ta tb) σ H v := fun H1 e Q q =>
  ha H1 e _ fun H2 e2 => hb H2 (e.trans e2) _ fun H3 e3 => ⟨d, v, rfl, by
    have z := DGet.k (k := .inl k) (((e.trans e2).trans e3) _ _ hd)
    rw [hv] at z
    exact z, q H3 (e2.trans e3)⟩
end
section
variable {X : Cx} {σ : L2.St} {H : Hp} {ta tb tc te tf tl tv : TE} {tr ts : TA} {E : XK}
theorem ev_first {a p : Addr} {ws xs low : List Int} (hf : Evl.Ev tf σ H (.ref a)) (ht : Evl.Ev te σ H (.ref p)) (hl : LineAt K C H a ws) (up : ws.Pairwise (· < ·)) (hp : SqT K H p (xs.map V.int)) (hz : xs.length ≤ 100) (A : Asc (xs ++ ws) low) : Evl.Ev (tMeth C "_first_near" (spLfirst K C) [] E tf (tCons te tNil)) σ H (.int (base0 ws low)) := fun H1 e Q q =>
  hf H1 e _ fun H2 e2 => by
    obtain ⟨dx, g, h1, h2⟩ := hl
    exact ⟨a, dx, _, rfl, (e.trans e2) _ _ h1, rfl, ht H2 (e.trans e2) _ fun H3 e3 => ⟨a, p, ws, xs, low, rfl, ⟨dx, g, ((e.trans e2).trans e3) _ _ h1, Evl.ex_t ((e.trans e2).trans e3) h2⟩, up, Evl.ex_t ((e.trans e2).trans e3) hp, hz, A, fun H4 e4 => q H4 ((e2.trans e3).trans e4)⟩⟩
end
/-- the canonical ones of the first i ascending integers are noted -/
def CP (H0 : Hp) (a p g d : Addr) (ws us low : List Int) (m : Addr) (i : Nat) (σ' : L2.St) (H' : Hp) : Prop :=
  ∃ (u : Option V) (kvs : List (Key × V)), σ' = [some (.ref a), some (.ref p), some (.ref g), some (.ref d), some (.int (nearAt ws low us i)), some (.int (passAt ws us i : Nat)), u] ∧ Evl.Ex H0 H' ∧ H' m = some (.lst (us.map V.int)) ∧ H' d = some (.dK kvs) ∧ kvs.length ≤ i ∧
    ∀ (j : Nat) (hj : j < us.length), j < i → valV kvs (.inl us[j]) = some (.int (can ws low us[j]))
theorem near_next {ws us low : List Int} {i : Nat} (hi : i < us.length) : nearAt ws low us (i + 1) = can ws low us[i] ∧ passAt ws us (i + 1) = cle ws us[i] := ⟨dif_pos ⟨by omega, hi⟩, dif_pos ⟨by omega, hi⟩⟩
theorem pass_le {ws us : List Int} (up : ws.Pairwise (· < ·)) (hu : us.Pairwise (· < ·)) {i : Nat} (hi : i < us.length) : passAt ws us i ≤ cle ws us[i] := by
  by_cases h0 : 0 < i
  · have hj : i - 1 < us.length := by omega
    have e1 : passAt ws us i = cle ws us[i - 1] := dif_pos ⟨h0, hj⟩
    have lt := asc_lt hu hj hi (show i - 1 < i by omega)
    rw [e1]
    rcases Nat.lt_or_ge (cle ws us[i]) (cle ws us[i - 1]) with y | y
    · have h1 : cle ws us[i] < ws.length := Nat.lt_of_lt_of_le y cle_le
      have := (cle_iff up (v := us[i - 1]) h1).mpr y
      have := (cle_iff up (v := us[i]) h1).mp (by omega)
      omega
    · exact y
  · have e1 : passAt ws us i = 0 := dif_neg (by omega)
    omega
def spLcanof (K : PySem.W.Frag) (C : Addr) : Sp := fun vs H Q _ => ∃ (a p : Addr) (ws xs low : List Int), vs = [.ref a, .ref p] ∧ LineAt K C H a ws ∧ ws.Pairwise (· < ·) ∧ SqT K H p (xs.map V.int) ∧ xs.length ≤ 50 ∧ Asc (xs ++ ws) low ∧
  ∀ t H', Evl.Ex H H' → SqT K H' t ((canL ws low xs).map V.int) → Q (.ref t) H'
/-- ascending, without what is there twice -/
theorem asc_ex (ns : List Int) : ∃ ws, Asc ns ws := by
  induction ns with
  | nil => exact ⟨[], .nil, fun k => Iff.rfl⟩
  | cons z ns ih =>
    obtain ⟨ws, up, mem⟩ := ih
    by_cases hz : z ∈ ws
    · refine ⟨ws, up, fun k => ?_⟩
      rw [mem, List.mem_cons]
      constructor
      · exact .inr
      · rintro (rfl | h)
        · exact (mem _).mp hz
        · exact h
    · refine ⟨(ws.filter fun w => decide (w < z)) ++ z :: ws.filter fun w => decide (z < w), List.pairwise_append.mpr ⟨up.filter _, List.pairwise_cons.mpr ⟨fun w hw => of_decide_eq_true (List.mem_filter.mp hw).2, up.filter _⟩, fun x hx y hy => ?_⟩, fun k => ?_⟩
      · have a := of_decide_eq_true (List.mem_filter.mp hx).2
        rcases List.mem_cons.mp hy with rfl | m
        · exact a
        · have := of_decide_eq_true (List.mem_filter.mp m).2
          omega
      · rw [List.mem_append, List.mem_cons, List.mem_filter, List.mem_filter, List.mem_cons, decide_eq_true_eq, decide_eq_true_eq, mem]
        constructor
        · rintro (⟨a, _⟩ | a | ⟨a, _⟩)
          · exact .inr a
          · exact .inl a
          · exact .inr a
        · rintro (a | a)
          · exact .inr (.inl a)
          · rcases Int.lt_trichotomy k z with y | y | y
            · exact .inl ⟨a, y⟩
            · exact .inr (.inl y)
            · exact .inr (.inr ⟨a, y⟩)
theorem scLcanof : FnScope ["self", "values", "given", "moved", "near", "passed", "value"] ["self", "values"] (defScope sLcanof) := ⟨rfl, rfl, rfl, by decide +kernel, rfl, by decide +kernel, by decide +kernel⟩
theorem okLcanof {f f1 f2 ff : Addr} {fd fd1 fd2 fdf : FuncData} (F : Fun K "canonical_of" "Line.canonical_of" sLcanof f fd) (T : Bt mg) (c : LC K C) (Ff : Fun K "_first_near" "Line._first_near" sLfirst ff fdf) (Mf : Meth K C "_first_near" ff) (bf : Binds K fdf ["self", "values"] [])
    (Dcheck_all_whole : Dn K mg "check_all_whole" sChkA f2 fd2 ["value"]) (Dare_whole : Dn K mg "are_whole" sAreW f1 fd1 ["value"]) : FnOk P w K mg base CX0 3 f fd ["self", "values"] (spLcanof K C) := by
  have Gcheck_all_whole : FnOk P w K mg base CX0 2 f2 fd2 ["value"] (spChkA K) := okChkA Dcheck_all_whole.F T Dare_whole
  have Gf : FnOk P w K mg base CX0 1 ff fdf ["self", "values"] (spLfirst K C) := okLfirst Ff T c
  refine F.ok scLcanof (fun vs H Q E h => ?_) (fun cdv A outer s H vs Q E hr h => ?_)
  · obtain ⟨a, p, ws, xs, low, rfl, _⟩ := h
    rfl
  · obtain ⟨a, p, ws, xs, low, rfl, hL, up, hp, hz, asc, k⟩ := h
    have hr1 : Room 1 _ := hr.mono (by decide)
    have hu := hu_of hr
    obtain ⟨us, U⟩ := asc_ex xs
    obtain ⟨dx, g, ha, hg⟩ := hL
    refine ⟨_, (pss_cons (ps_expr (pe_call Gcheck_all_whole hr rfl Dcheck_all_whole.m Dcheck_all_whole.F.kp Dcheck_all_whole.b .nil pass0 (pa_cons (pv 1) pa_nil)))
  (pss_cons (ps_set (i := 2) scLcanof.nd rfl (Or.inl rfl) (pe_fld (pv 0) rfl))
  (pss_cons (ps_set (i := 3) scLcanof.nd rfl (Or.inr rfl) pe_dnewK)
  (pss_cons (ps_set (i := 4) scLcanof.nd rfl (Or.inl rfl) (pe_meth (pv 0) c.cl Mf Gf hr1 bf .nil pass0 (pa_cons (pv 1) pa_nil)))
  (pss_cons (ps_set (i := 5) scLcanof.nd rfl (Or.inl rfl) pe_int)
  (pss_cons (ps_for PassesOwn.never rfl (pi_list (pe_callB (cr_sortedSet rfl) (by rfl) T.sorted (by decide +kernel) (pa_cons (pe_callTy (XL.cr_setT rfl) (by rfl) T.set (by decide +kernel) (pa_cons (pv 1) pa_nil)) pa_nil))) (pg_name (i := 6) scLcanof.nd rfl (Or.inl rfl)) (pss_cons (ps_while PassesOwn.never (PW.pt (pw_and (pt_cmpR op_lt (pv 5) (pe_callB call_len_seq (by rfl) T.len (by decide +kernel) (pa_cons (pv 2) pa_nil)) (nomark _)) (pw_and1 (pt_cmpR op_le (pe_ix ix_tup (pv 2) (pv 5) (fun _ _ => rfl)) (pv 6) (nomark _))))) (pss_cons (ps_set (i := 4) scLcanof.nd rfl (Or.inl rfl) (pe_ix ix_tup (pv 2) (pv 5) (fun _ _ => rfl)))
  (pss_one (ps_set (i := 5) scLcanof.nd rfl (Or.inl rfl) (pe_op op_add (pv 5) pe_int)))))
  (pss_cons (ps_if (PW.pt (pw_or (pt_cmpR op_eq (pv 5) pe_int (nomark _)) (pw_or1 (pt_cmpR op_ne (pv 4) (pv 6) (nomark _))))) (pss_one (ps_set (i := 4) scLcanof.nd rfl (Or.inl rfl) (pe_op op_add (pv 4) pe_int))) pss_nil)
  (pss_one (ps_dput hu (pv 3) (pv 6) (pv 4) rfl)))))
  (pss_one (ps_ret (pe_callTy call_tuple_of (by rfl) T.tuple (by decide +kernel) (pa_cons (pe_lc (own := [("value", 6)]) (g := gName 6) (tt := tYes) rfl scLcanof.nd (pi_tup (pv 1)) (blkOk_by (own := [("value", 6)]) (N := ["self", "values", "given", "moved", "near", "passed", "value"]) (sc := defScope sLcanof) (by decide +kernel)) (fun _ _ _ _ _ => (pg_name (i := 6) scLcanof.nd rfl (Or.inl rfl))) (fun _ _ _ _ _ => pts_nil) (fun _ _ _ _ _ => (pe_dget hu (pv 3) (pv 6) (fun _ _ => rfl)))) pa_nil)))))))))), ?_⟩
    refine Evl.q_drop (v := .non) (Evl.ev_call (Evl.ea_cons (Evl.ev_var rfl) Evl.ea_nil) (fun H1 e Q q E => ⟨p, xs, rfl, Evl.ex_t e hp, q H1 (Evl.Ex.refl _)⟩)) fun H1 e1 => ?_
    refine Evl.q_asg (ev_giv c (e1 _ _ ha) rfl) fun H2 e2 => ?_
    refine q_asgG fun d hd => ?_
    have e3 := (e1.trans e2).trans (Evl.Ex.new (o := .dK []) hd)
    have hd0 : H d = none := Evl.fresh_back (e1.trans e2) hd
    refine Evl.q_asg (ev_first (Evl.ev_var rfl) (Evl.ev_var rfl) ⟨dx, g, e3 _ _ ha, Evl.ex_t e3 hg⟩ up (Evl.ex_t e3 hp) (by omega) asc) fun H4 e4 => ?_
    refine Evl.q_asg Evl.ev_c fun H5 e5 => ?_
    have E5 := (e3.trans e4).trans e5
    have hd5 : H5 d = some (.dK []) := (e4.trans e5) _ _ upd_same
    refine Evl.q_forNLn (xs := us.map V.int) (el_sortedT (Evl.ev_var rfl) (Evl.ex_t E5 hp) hz U) (CP H a p g d ws us low) (fun m H6 hm e6 h6 => ⟨none, [], ?_, E5.trans e6, h6, e6 _ _ hd5, Nat.le_refl _, fun j hj h => absurd h (Nat.not_lt_zero _)⟩) ?_ ?_ ?_
    · have n0 : nearAt ws low us 0 = base0 ws low := dif_neg (by omega)
      have p0 : passAt ws us 0 = 0 := dif_neg (by omega)
      rw [n0, p0]
      rfl
    · rintro m i σ' H' _ ⟨u, kvs, _, _, hm, _⟩
      exact SqL.of hm
    · rintro m i x σ' H' hx ⟨u, kvs, rfl, ex, hm, hdk, hl, hk⟩
      rw [List.getElem?_map] at hx
      obtain ⟨v, hv, rfl⟩ := Option.map_eq_some_iff.mp hx
      obtain ⟨hi, rfl⟩ := List.getElem?_eq_some_iff.mp hv
      have hil : us.length ≤ 50 := Nat.le_trans (nodup_len U.up fun k hk => (U.mem k).mp hk) hz
      refine Evl.q_while (fun m σ'' H'' => ∃ pn : Nat, σ'' = [some (.ref a), some (.ref p), some (.ref g), some (.ref d), some (.int (if pn = passAt ws us i then nearAt ws low us i else ws.getD (pn - 1) 0)), some (.int (pn : Nat)), some (.int us[i])] ∧ Evl.Ex H' H'' ∧ m = cle ws us[i] - pn ∧ pn ≤ cle ws us[i] ∧ passAt ws us i ≤ pn)
        (cle ws us[i] - passAt ws us i) ⟨passAt ws us i, by rw [if_pos rfl]; rfl, Evl.Ex.refl _, rfl, pass_le up U.up hi, Nat.le_refl _⟩ ?_
      rintro m' σ'' H'' ⟨pn, rfl, exw, rfl, hpn, hpp⟩
      have hgw := Evl.ex_t (ex.trans exw) hg
      have lenw : ∀ {σ : L2.St} {H1 : Hp}, Evl.Ex H'' H1 → σ[2]? = some (some (.ref g)) → Evl.Ev (tCB (Evl.rLenS K) (tCons (tVar 2) tNil)) σ H1 (.int (ws.length : Int)) := fun {σ H1} e h => by
        have z := ev_lenT (K := K) (xs := ws.map V.int) (Evl.ev_var h) (Evl.ex_t e hgw)
        rw [List.length_map] at z
        exact z
      refine ⟨decide (pn < cle ws us[i]), Evl.et_is (Evl.et_and (a := decide (pn < ws.length)) (b := decide (ws.getD pn 0 ≤ us[i])) (Evl.et_test (Evl.ev_is (Evl.ev_op (Evl.ev_var rfl) (lenw (Evl.Ex.refl _) rfl) Evl.rv_I0) ?_)) fun hb => ?_) ?_, fun hb H1 e1 => ?_, fun hb H1 e1 => ?_⟩
      · congr 1
        exact decide_eq_decide.mpr (by omega)
      · have hlt := of_decide_eq_true hb
        refine Evl.et_test (Evl.ev_is (Evl.ev_op (Evl.ev_op (Evl.ev_var rfl) (Evl.ev_var rfl) (Evl.rv_ixT hgw (atI_int hlt))) (Evl.ev_var rfl) Evl.rv_I0) ?_)
        rw [List.getD_eq_getElem?_getD, List.getElem?_eq_getElem hlt]
        rfl
      · rw [Bool.eq_iff_iff, Bool.and_eq_true, decide_eq_true_eq, decide_eq_true_eq, decide_eq_true_eq]
        constructor
        · rintro ⟨h1, h2⟩
          rw [List.getD_eq_getElem?_getD, List.getElem?_eq_getElem h1] at h2
          exact (cle_iff up h1).mp h2
        · intro h
          have h1 : pn < ws.length := Nat.lt_of_lt_of_le h cle_le
          refine ⟨h1, ?_⟩
          rw [List.getD_eq_getElem?_getD, List.getElem?_eq_getElem h1]
          exact (cle_iff up h1).mpr h
      · have hlt := of_decide_eq_true hb
        have h1 : pn < ws.length := Nat.lt_of_lt_of_le hlt cle_le
        refine ⟨_, fun σ2 H2 h => h, ?_⟩
        refine Evl.q_asg (Evl.ev_op (Evl.ev_var rfl) (Evl.ev_var rfl) (Evl.rv_ixT (Evl.ex_t e1 hgw) (atI_int h1))) fun H2 e2 => ?_
        refine Evl.s_asg (Evl.ev_op (Evl.ev_var rfl) Evl.ev_c Evl.rv_I0) fun H3 e3 => ⟨cle ws us[i] - (pn + 1), by omega, pn + 1, ?_, ((exw.trans e1).trans e2).trans e3, rfl, by omega, by omega⟩
        have e9 : (if pn + 1 = passAt ws us i then nearAt ws low us i else ws.getD (pn + 1 - 1) 0) = ws[pn] := by
          rw [if_neg (show ¬ pn + 1 = passAt ws us i by omega), List.getD_eq_getElem?_getD, Nat.add_sub_cancel, List.getElem?_eq_getElem h1]
          rfl
        rw [e9]
        rfl
      · have hpe : pn = cle ws us[i] := by
          have := of_decide_eq_false hb
          omega
        subst hpe
        have sc := step_can up asc U hi rfl
        generalize hnr : (if cle ws us[i] = passAt ws us i then nearAt ws low us i else ws.getD (cle ws us[i] - 1) 0) = nr at sc ⊢
        refine Evl.q_ifAsg (v := .int (can ws low us[i])) (b := decide (cle ws us[i] = 0 ∨ nr ≠ us[i])) (Evl.et_is (Evl.et_or (a := decide (cle ws us[i] = 0)) (b := decide (nr ≠ us[i])) (Evl.et_test (Evl.ev_is (Evl.ev_op (Evl.ev_var rfl) Evl.ev_c (Evl.rv_eq rfl)) ?_)) fun _ => Evl.et_test (Evl.ev_is (Evl.ev_op (Evl.ev_var rfl) (Evl.ev_var rfl) (Evl.rv_ne rfl)) ?_)) ?_) (fun hc => ?_) (fun hc => ?_) fun H2 e2 => ?_
        · congr 1
          rw [dec_int, Bool.eq_iff_iff, beq_iff_eq, decide_eq_true_eq]
          omega
        · congr 1
          rw [dec_int, Bool.eq_iff_iff, Bool.not_eq_true', beq_eq_false_iff_ne, decide_eq_true_eq]
        · rw [Bool.eq_iff_iff, Bool.or_eq_true, decide_eq_true_eq, decide_eq_true_eq, decide_eq_true_eq]
        · rw [if_pos (of_decide_eq_true hc)] at sc
          rw [← sc]
          exact Evl.ev_op (Evl.ev_var rfl) Evl.ev_c Evl.rv_I0
        · rw [if_neg (of_decide_eq_false hc)] at sc
          rw [← sc]
          rfl
        · have EX := ((exw.trans e1).trans e2)
          obtain ⟨n1, n2⟩ := near_next (ws := ws) (low := low) hi
          refine ⟨_, rfl, _, rfl, _, rfl, d, _, rfl, DPut.k (k := .inl us[i]) (EX _ _ hdk) (by rw [sizeLine_eq]; omega), some (.int us[i]), _, by rw [n1, n2]; rfl, (ex.trans EX).mut hd0, ?_, upd_same, Nat.le_trans (length_putK _ _ _) (by omega), fun j hj h => ?_⟩
          · rw [upd_ne (fun e => by rw [e, hdk] at hm; cases hm)]
            exact EX _ _ hm
          · rw [valV_put]
            by_cases e : j = i
            · subst e
              rw [if_pos rfl]
            · rw [if_neg (fun z => by
                injection z with z
                rcases Nat.lt_or_gt_of_ne e with y | y
                · have := asc_lt U.up hj hi y
                  omega
                · omega)]
              exact hk j hj (by omega)
    · rintro m σ' H' ⟨u, kvs, rfl, ex, hm, hdk, hl, hk⟩
      rw [List.length_map] at hk
      refine s_retP (evp_tupN (el_mapT (can ws low) (Evl.ev_var rfl) (Evl.ex_t ex hp) (by omega) (fun _ => rfl) fun z H1 e hz1 => ev_dget (Evl.ev_var rfl) (Evl.ev_var rfl) (e _ _ hdk) ?_)) fun v H1 e ⟨t, ev, ht⟩ => ?_
      · obtain ⟨j, hj, rfl⟩ := List.mem_iff_getElem.mp ((U.mem z).mpr hz1)
        exact hk j hj hj
      · subst ev
        exact k t _ (ex.trans e) ht
end
end LN

set_option Elab.async false
set_option maxRecDepth 100000
set_option maxHeartbeats 2000000
set_option linter.all false
set_option pp.maxSteps 200
namespace LN
open PySem PySem.Spec PyProof.Rows L2 XG XV XL
section
variable {P : Program} {w : World} {K : PySem.W.Frag} {mg : Str → Option Value} {base : Heap} {C : Addr}
/-! canonical(*values) -/
def spLcani (K : PySem.W.Frag) (C : Addr) : Sp := fun vs H Q _ => ∃ (a p : Addr) (ws xs low : List Int), vs = [.ref a, .ref p] ∧ LineAt K C H a ws ∧ ws.Pairwise (· < ·) ∧ SqT K H p (xs.map V.int) ∧ xs.length ≤ 50 ∧ Asc (xs ++ ws) low ∧
  ∀ t H', Evl.Ex H H' → SqT K H' t ((canL ws low xs).map V.int) → Q (.ref t) H'
def spLcan (K : PySem.W.Frag) (C : Addr) : Sp := fun vs H Q _ => ∃ (a : Addr) (ws xs low : List Int), vs = .ref a :: xs.map V.int ∧ LineAt K C H a ws ∧ ws.Pairwise (· < ·) ∧ xs.length ≤ 50 ∧ Asc (xs ++ ws) low ∧
  ∀ t H', Evl.Ex H H' → SqT K H' t ((canL ws low xs).map V.int) → Q (.ref t) H'
theorem scLcan : FnScope ["self", "values"] ["self", "values"] (defScope sLcan) := ⟨rfl, rfl, rfl, by decide +kernel, rfl, by decide +kernel, by decide +kernel⟩
theorem okLcan {f fo : Addr} {fd fdo : FuncData} (F : Fun K "canonical" "Line.canonical" sLcan f fd) (T : Bt mg) (c : LC K C) (Go_ : FnOk P w K mg base CX0 3 fo fdo ["self", "values"] (spLcanof K C)) (Mo : Meth K C "canonical_of" fo) (bo : Binds K fdo ["self", "values"] []) : FnR P w K mg base CX0 4 f (spLcan K C) := by
  refine FnR.imp (okStar (sp := spLcani K C) (ps := ["self"]) (pv := "values") F scLcan (fun kV doc pm an cdv ct us rest hl => match us, rest, hl with | [_], [], _ => rfl | [_], _ :: _, _ => rfl) (fun cdv A outer s H vs Q E hr h => ?_)) (fun vs H Q E h => ?_)
  · obtain ⟨a, p, ws, xs, low, rfl, ⟨dx, g, ha, hg⟩, up, hp, hz, asc, k⟩ := h
    refine ⟨_, (pss_one (ps_ret (pe_meth (pv 0) c.cl Mo Go_ hr bo .nil pass0 (pa_cons (pv 1) pa_nil)))), ?_⟩
    exact ⟨_, rfl, a, dx, _, rfl, ha, rfl, _, rfl, a, p, ws, xs, low, rfl, ⟨dx, g, ha, hg⟩, up, hp, hz, asc, k⟩
  · obtain ⟨a, ws, xs, low, rfl, hL, up, hz, asc, k⟩ := h
    refine ⟨[.ref a], xs.map V.int, rfl, rfl, by rw [List.length_map, sizeLine_eq]; omega, fun p hp => ⟨a, p, ws, xs, low, rfl, hL.ex (Evl.Ex.new hp), up, SqT.of upd_same, hz, asc, fun t H' e h => k t H' ((Evl.Ex.new hp).trans e) h⟩⟩
/-! are_alike -/
theorem val_other {acc : List (Key × V)} : ∀ {more : List (Key × V)} {k : Key}, (∀ p ∈ more, p.1 ≠ k) → valV (mergeK acc more) k = valV acc k := by
  intro more
  induction more generalizing acc with
  | nil => intro k _; rfl
  | cons p more ih =>
    intro k h
    show valV (mergeK (putK acc p.1 p.2) more) k = _
    rw [ih fun q hq => h q (List.mem_cons_of_mem _ hq), valV_put, if_neg fun e => h p List.mem_cons_self e.symm]
theorem val_zip {acc : List (Key × V)} : ∀ {low high : List Int}, low.Pairwise (· < ·) → low.length = high.length → ∀ x ∈ low, valV (mergeK acc ((low.map Sum.inl).zip (high.map V.int))) (.inl x) = some (.int (high.getD (cntL low x) 0)) := by
  intro low
  induction low generalizing acc with
  | nil => intro high _ _ x hx; cases hx
  | cons l low ih =>
    intro high up hl x hx
    cases high with
    | nil => cases hl
    | cons h high =>
      obtain ⟨u1, u2⟩ := List.pairwise_cons.mp up
      show valV (mergeK (putK acc (.inl l) (.int h)) ((low.map Sum.inl).zip (high.map V.int))) (.inl x) = _
      rcases List.mem_cons.mp hx with e | m
      · subst e
        have c0 : cntL (x :: low) x = 0 := cnt_zero fun w hw => by
          rcases List.mem_cons.mp hw with e | m
          · omega
          · have := u1 w m
            omega
        rw [val_other, valV_put, if_pos rfl, c0]
        · rfl
        · intro p hp e
          obtain ⟨k, hk, e2⟩ := List.mem_map.mp (List.of_mem_zip hp).1
          rw [← e2] at e
          injection e with e
          have := u1 k hk
          omega
      · have lt := u1 x m
        have c1 : cntL (l :: low) x = cntL low x + 1 := by
          unfold cntL
          rw [List.filter_cons, if_pos (decide_eq_true lt), List.length_cons]
        rw [ih u2 (by simpa using hl) x m, c1]
        rfl
section
variable {X : Cx} {σ : L2.St} {H : Hp} {ta tb tc te tf tl tv : TE} {tr ts : TA} {E : XK}
theorem evp_dictZip {a b : Addr} {ks : List Key} {ys : List V} (ha : Evl.Ev ta σ H (.ref a)) (hb : Evl.Ev tb σ H (.ref b)) (h1 : SqL K H a (ks.map kV)) (h2 : SqL K H b ys) (hz : ks.length ≤ 1000) (hl : ks.length = ys.length) :
    EvP (XM.tDictZip K (tCons ta (tCons tb tNil))) σ H (fun v H => ∃ d, v = .ref d ∧ H d = some (.dK (mergeK [] (ks.zip ys)))) := fun H1 e Q q => ha H1 e _ fun H2 e2 => hb H2 (e.trans e2) _ fun H3 e3 =>
  ⟨a, b, ks, ys, rfl, Evl.ex_l ((e.trans e2).trans e3) h1, Evl.ex_l ((e.trans e2).trans e3) h2, hz, hl, fun p hp => q _ _ ((e2.trans e3).trans (Evl.Ex.new hp)) ⟨p, rfl, upd_same⟩⟩
theorem map_inl (low : List Int) : (low.map Sum.inl : List Key).map kV = low.map V.int := by
  rw [List.map_map]
  rfl
end
def spLalike (K : PySem.W.Frag) (C : Addr) : Sp := fun vs H Q _ => ∃ (a p r : Addr) (ws xs ys : List Int), vs = [.ref a, .ref p, .ref r] ∧ LineAt K C H a ws ∧ SqT K H p (xs.map V.int) ∧ SqT K H r (ys.map V.int) ∧ xs.length ≤ 20 ∧ ys.length ≤ 20 ∧ ws.length ≤ 20 ∧ Evl.RetV (.bl (simB ws xs ys)) H Q
theorem scLalike : FnScope ["self", "one", "other", "before", "after", "low", "high", "change", "value"] ["self", "one", "other"] (defScope sLalike) := ⟨rfl, rfl, rfl, by decide +kernel, rfl, by decide +kernel, by decide +kernel⟩
theorem okLalike {f f1 f2 : Addr} {fd fd1 fd2 : FuncData} (F : Fun K "are_alike" "Line.are_alike" sLalike f fd) (T : Bt mg) (c : LC K C) (Dcheck_all_whole : Dn K mg "check_all_whole" sChkA f2 fd2 ["value"]) (Dare_whole : Dn K mg "are_whole" sAreW f1 fd1 ["value"]) : FnOk P w K mg base CX0 3 f fd ["self", "one", "other"] (spLalike K C) := by
  have Gcheck_all_whole : FnOk P w K mg base CX0 2 f2 fd2 ["value"] (spChkA K) := okChkA Dcheck_all_whole.F T Dare_whole
  refine F.ok scLalike (fun vs H Q E h => ?_) (fun cdv A outer s H vs Q E hr h => ?_)
  · obtain ⟨a, p, r, ws, xs, ys, rfl, _⟩ := h
    rfl
  · obtain ⟨a, p, r, ws, xs, ys, rfl, ⟨dx, g, ha, hg⟩, hp, hq, hx, hy, hw, k⟩ := h
    have hu := hu_of hr
    refine ⟨_, (pss_cons (ps_expr (pe_call Gcheck_all_whole hr rfl Dcheck_all_whole.m Dcheck_all_whole.F.kp Dcheck_all_whole.b .nil pass0 (pa_cons (pv 1) pa_nil)))
  (pss_cons (ps_expr (pe_call Gcheck_all_whole hr rfl Dcheck_all_whole.m Dcheck_all_whole.F.kp Dcheck_all_whole.b .nil pass0 (pa_cons (pv 2) pa_nil)))
  (pss_cons (ps_set (i := 3) scLalike.nd rfl (Or.inl rfl) (pe_op op_catA (pv 1) (pe_fld (pv 0) rfl)))
  (pss_cons (ps_set (i := 4) scLalike.nd rfl (Or.inl rfl) (pe_op op_catA (pv 2) (pe_fld (pv 0) rfl)))
  (pss_cons (ps_set (i := 5) scLalike.nd rfl (Or.inl rfl) (pe_callB (cr_sortedSet rfl) (by rfl) T.sorted (by decide +kernel) (pa_cons (pe_callTy (XL.cr_setT rfl) (by rfl) T.set (by decide +kernel) (pa_cons (pv 3) pa_nil)) pa_nil)))
  (pss_cons (ps_set (i := 6) scLalike.nd rfl (Or.inl rfl) (pe_callB (cr_sortedSet rfl) (by rfl) T.sorted (by decide +kernel) (pa_cons (pe_callTy (XL.cr_setT rfl) (by rfl) T.set (by decide +kernel) (pa_cons (pv 4) pa_nil)) pa_nil)))
  (pss_cons (ps_if (PW.pt (pw_or (pt_cmpR op_ne (pe_callB call_len_seq (by rfl) T.len (by decide +kernel) (pa_cons (pv 3) pa_nil)) (pe_callB call_len_seq (by rfl) T.len (by decide +kernel) (pa_cons (pv 4) pa_nil)) (nomark _)) (pw_or1 (pt_cmpR op_ne (pe_callB call_len_seq (by rfl) T.len (by decide +kernel) (pa_cons (pv 5) pa_nil)) (pe_callB call_len_seq (by rfl) T.len (by decide +kernel) (pa_cons (pv 6) pa_nil)) (nomark _))))) (pss_one (ps_ret pe_bl)) pss_nil)
  (pss_cons (ps_set (i := 7) scLalike.nd rfl (Or.inr rfl) (XM.pe_dictZip rfl (by rfl) T.dict (by rfl) T.zip (pa_cons (pv 5) (pa_cons (pv 6) pa_nil))))
  (pss_one (ps_ret (pe_cmpR (op_eqD hr.units) (pe_callTy call_tuple_of (by rfl) T.tuple (by decide +kernel) (pa_cons (pe_lc (own := [("value", 8)]) (g := gName 8) (tt := tYes) rfl scLalike.nd (pi_tup (pv 3)) (blkOk_by (own := [("value", 8)]) (N := ["self", "one", "other", "before", "after", "low", "high", "change", "value"]) (sc := defScope sLalike) (by decide +kernel)) (fun _ _ _ _ _ => (pg_name (i := 8) scLalike.nd rfl (Or.inl rfl))) (fun _ _ _ _ _ => pts_nil) (fun _ _ _ _ _ => (pe_dget hu (pv 7) (pv 8) (fun _ _ => rfl)))) pa_nil)) (pv 4) (nomark _)))))))))))), ?_⟩
    refine Evl.q_drop (v := .non) (Evl.ev_call (Evl.ea_cons (Evl.ev_var rfl) Evl.ea_nil) (fun H1 e Q q E => ⟨p, xs, rfl, Evl.ex_t e hp, q H1 (Evl.Ex.refl _)⟩)) fun H1 e1 => ?_
    refine Evl.q_drop (v := .non) (Evl.ev_call (Evl.ea_cons (Evl.ev_var rfl) Evl.ea_nil) (fun H2 e Q q E => ⟨r, ys, rfl, Evl.ex_t (e1.trans e) hq, q H2 (Evl.Ex.refl _)⟩)) fun H2 e2 => ?_
    have E2 := e1.trans e2
    refine q_asgP (evp_catA (Evl.ev_var rfl) (ev_giv c (E2 _ _ ha) rfl) (Evl.ex_t E2 hp) (Evl.ex_t E2 hg) (by rw [List.length_map, List.length_map]; omega)) fun v H3 e3 ⟨b1, ev, hb1⟩ => ?_
    subst ev
    have E3 := E2.trans e3
    refine q_asgP (evp_catA (Evl.ev_var rfl) (ev_giv c (E3 _ _ ha) rfl) (Evl.ex_t E3 hq) (Evl.ex_t E3 hg) (by rw [List.length_map, List.length_map]; omega)) fun v H4 e4 ⟨b2, ev, hb2⟩ => ?_
    subst ev
    rw [← List.map_append] at hb1 hb2
    have hb1 := Evl.ex_t e4 hb1
    obtain ⟨low, A⟩ := asc_ex (xs ++ ws)
    obtain ⟨high, A'⟩ := asc_ex (ys ++ ws)
    have l1 : (xs ++ ws).length ≤ 40 := by rw [List.length_append]; omega
    have l2 : (ys ++ ws).length ≤ 40 := by rw [List.length_append]; omega
    have l3 : low.length ≤ 40 := Nat.le_trans (nodup_len A.up fun k hk => (A.mem k).mp hk) l1
    refine Evl.q_asgL (el_sortedT (Evl.ev_var rfl) hb1 (by omega) A) fun lo H5 n5 e5 h5 => ?_
    refine Evl.q_asgL (el_sortedT (Evl.ev_var rfl) (Evl.ex_t e5 hb2) (by omega) A') fun hi H6 n6 e6 h6 => ?_
    have hb1 := Evl.ex_t (e5.trans e6) hb1
    have hb2 := Evl.ex_t (e5.trans e6) hb2
    have h5 := e6 _ _ h5
    have E6 := ((E3.trans e4).trans e5).trans e6
    have len1 := ev_lenT (K := K) (σ := [some (.ref a), some (.ref p), some (.ref r), some (.ref b1), some (.ref b2), some (.ref lo), some (.ref hi), none, none]) (ta := tVar 3) (Evl.ev_var rfl) hb1
    have len2 := ev_lenT (K := K) (σ := [some (.ref a), some (.ref p), some (.ref r), some (.ref b1), some (.ref b2), some (.ref lo), some (.ref hi), none, none]) (ta := tVar 4) (Evl.ev_var rfl) hb2
    rw [List.length_map] at len1 len2
    refine Evl.q_when (b := decide ((xs ++ ws).length ≠ (ys ++ ws).length) || decide (low.length ≠ high.length)) (Evl.et_or (Evl.et_test (Evl.ev_is (Evl.ev_op len1 len2 (Evl.rv_ne rfl)) ?_)) fun _ => Evl.et_test (Evl.ev_is (Evl.ev_op (ev_lenL (Evl.ev_var rfl) (SqL.of h5)) (ev_lenL (Evl.ev_var rfl) (SqL.of h6)) (Evl.rv_ne rfl)) ?_)) (fun hb H7 e7 => ?_) fun hb H7 e7 => ?_
    · congr 1
      rw [dec_nat]
      simp
    · congr 1
      rw [dec_nat]
      simp
    · have z : simB ws xs ys = false := alike_len A A' (by
        rw [Bool.or_eq_true, decide_eq_true_eq, decide_eq_true_eq] at hb
        exact hb)
      rw [z] at k
      exact Evl.s_ret Evl.ev_c fun H8 e8 => k _ ((E6.trans e7).trans e8)
    · rw [Bool.or_eq_false_iff, decide_eq_false_iff_not, decide_eq_false_iff_not, Decidable.not_not, Decidable.not_not] at hb
      obtain ⟨q1, q2⟩ := hb
      refine q_asgP (evp_dictZip (ks := low.map Sum.inl) (ys := high.map V.int) (Evl.ev_var rfl) (Evl.ev_var rfl) (by rw [map_inl]; exact SqL.of (e7 _ _ h5)) (SqL.of (e7 _ _ h6)) (by rw [List.length_map]; omega) (by rw [List.length_map, List.length_map]; exact q2)) fun v H8 e8 ⟨d, ev, hd⟩ => ?_
      subst ev
      have E8 := e7.trans e8
      have key := evp_eqT (K := K) (σ := [some (.ref a), some (.ref p), some (.ref r), some (.ref b1), some (.ref b2), some (.ref lo), some (.ref hi), some (.ref d), none]) (H := H8) (evp_tupN (el_mapT (j := 8) (vs := [8]) (tl := tVar 3) (te := tDGet (tVar 7) (tVar 8)) (fun x => high.getD (cntL low x) 0) (Evl.ev_var rfl) (Evl.ex_t E8 hb1) (by omega) (fun _ => rfl) fun z H9 e hz => ev_dget (Evl.ev_var rfl) (Evl.ev_var rfl) (e _ _ hd) (val_zip A.up q2 z ((A.mem z).mpr hz)))) (evp_tupV (i := 4) (Evl.ex_t E8 hb2) rfl)
      rw [alike_map A A' q1 q2] at key
      exact s_retP key fun v H9 e9 ev => by
        subst ev
        exact k _ (((E6.trans e7).trans e8).trans e9)
end
end LN

set_option Elab.async false
set_option maxRecDepth 100000
set_option maxHeartbeats 2000000
set_option linter.all false
set_option pp.maxSteps 200
namespace LN
open PySem PySem.Spec PyProof.Rows L2 XG XV XL
abbrev sGiven : Stmt := (top 15)
abbrev sValues : Stmt := (top 16)
abbrev sPlace : Stmt := (top 17)
section
variable {P : Program} {w : World} {K : PySem.W.Frag} {mg : Str → Option Value} {base : Heap}
def Bd (n : Nat) (z : Int) : Prop := z.natAbs ≤ n * 10 ^ 38
instance {n : Nat} {z : Int} : Decidable (Bd n z) := inferInstanceAs (Decidable (z.natAbs ≤ n * 10 ^ 38))
theorem Bd.mono {m n : Nat} {z : Int} (h : Bd m z) (l : m ≤ n) : Bd n z := Nat.le_trans h (Nat.mul_le_mul_right _ l)
theorem Bd.add {m n : Nat} {y z : Int} (h : Bd m y) (h' : Bd n z) : Bd (m + n) (y + z) := by
  unfold Bd at *
  rw [Nat.add_mul]
  omega
def pools : List (List Int) := [[0, 1, 2, 3, 5, 9], [4, 6, 8, 20], [-9, -1, 0, 10], [10 ^ 38, 1 - 10 ^ 38, 3], [7]]
theorem pools_ok : ∀ ns ∈ pools, 0 < ns.length ∧ ns.length ≤ 10 ∧ ∀ z ∈ ns, Bd 1 z := by decide
theorem ev_big {σ : L2.St} {H : Hp} : Evl.Ev (tOp (rI CPowB fun i j => .int (i ^ j.toNat)) (tC (.int 10)) (tC (.int 38))) σ H (.int (10 ^ 38)) := Evl.ev_op Evl.ev_c Evl.ev_c (Evl.rv_I ⟨by decide, by decide⟩)
def spGiven : Sp := fun vs H Q _ => ∃ a : Addr, vs = [.ref a] ∧ Dice H a ∧ ∀ (l : Addr) (ws : List Int) (H' : Hp), H l = none → H' l = some (.lst (ws.map V.int)) → ws.Pairwise (· < ·) → ws.length ≤ 5 → (∀ z ∈ ws, Bd 1 z) → Go a H H' → Q (.ref l) H'
theorem scGiven : FnScope ["dice", "pools", "pool", "turn"] ["dice"] (defScope sGiven) := ⟨rfl, rfl, rfl, by decide +kernel, rfl, by decide +kernel, by decide +kernel⟩
theorem okGiven {f f1 f2 : Addr} {fd fd1 fd2 : FuncData} (F : Fun K "_law_given" "_law_given" sGiven f fd) (T : Bt mg) (D_law_pull : Dn K mg "_law_pull" sPull f1 fd1 ["dice", "total"]) (D_law_pick : Dn K mg "_law_pick" sPick f2 fd2 ["dice", "items"]) : FnOk P w K mg base CX0 3 f fd ["dice"] spGiven := by
  have G_law_pull : FnOk P w K mg base CX0 1 f1 fd1 ["dice", "total"] spPullG := fn_less (okPull D_law_pull.F T) fun _ _ _ _ => pull_go
  have G_law_pick : FnOk P w K mg base CX0 2 f2 fd2 ["dice", "items"] (spPickG K) := fn_less (okPick D_law_pick.F T D_law_pull) fun _ _ _ _ => pick_go
  refine F.ok scGiven (fun vs H Q E h => ?_) (fun cdv A outer s H vs Q E hr h => ?_)
  · obtain ⟨a, rfl, _⟩ := h
    rfl
  · obtain ⟨a, rfl, hd, k⟩ := h
    have hr1 : Room 1 _ := hr.mono (by decide)
    refine ⟨_, (pss_cons (ps_set (i := 1) scGiven.nd rfl (Or.inl rfl) (pe_lst (pa_cons (pe_lst (pa_cons pe_int (pa_cons pe_int (pa_cons pe_int (pa_cons pe_int (pa_cons pe_int (pa_cons pe_int pa_nil))))))) (pa_cons (pe_lst (pa_cons pe_int (pa_cons pe_int (pa_cons pe_int (pa_cons pe_int pa_nil))))) (pa_cons (pe_lst (pa_cons (pe_un un_neg pe_int) (pa_cons (pe_un un_neg pe_int) (pa_cons pe_int (pa_cons pe_int pa_nil))))) (pa_cons (pe_lst (pa_cons (pe_op op_powB pe_int pe_int) (pa_cons (pe_op op_sub pe_int (pe_op op_powB pe_int pe_int)) (pa_cons pe_int pa_nil)))) (pa_cons (pe_lst (pa_cons pe_int pa_nil)) pa_nil)))))))
  (pss_cons (ps_set (i := 2) scGiven.nd rfl (Or.inr rfl) (pe_call G_law_pick hr rfl D_law_pick.m D_law_pick.F.kp D_law_pick.b .nil pass0 (pa_cons (pv 0) (pa_cons (pv 1) pa_nil))))
  (pss_one (ps_ret (pe_callB (cr_sortedSet rfl) (by rfl) T.sorted (by decide +kernel) (pa_cons (pe_callTy (XT.cr_setI rfl) (by rfl) T.set (by decide +kernel) (pa_cons (pe_lc (own := [("turn", 3)]) (g := gName 3) (tt := tYes) rfl scGiven.nd (pi_range1 (by rfl) T.range (pa_cons (pe_call G_law_pull hr1 rfl D_law_pull.m D_law_pull.F.kp D_law_pull.b .nil pass0 (pa_cons (pv 0) (pa_cons pe_int pa_nil))) pa_nil)) (blkOk_by (own := [("turn", 3)]) (N := ["dice", "pools", "pool", "turn"]) (sc := defScope sGiven) (by decide +kernel)) (fun _ _ _ _ _ => (pg_name (i := 3) scGiven.nd rfl (Or.inl rfl))) (fun _ _ _ _ _ => pts_nil) (fun _ _ _ _ _ => (pe_call G_law_pick hr rfl D_law_pick.m D_law_pick.F.kp D_law_pick.b .nil pass0 (pa_cons (pv 0) (pa_cons (pv 2) pa_nil))))) pa_nil)) pa_nil)))))), ?_⟩
    refine q_asgP (evp_lst (PA := IntF H pools) (evpa_intsF (ns := [0, 1, 2, 3, 5, 9]) (Evl.ea_cons Evl.ev_c (Evl.ea_cons Evl.ev_c (Evl.ea_cons Evl.ev_c (Evl.ea_cons Evl.ev_c (Evl.ea_cons Evl.ev_c (Evl.ea_cons Evl.ev_c Evl.ea_nil)))))) (by decide)
      (evpa_intsF (ns := [4, 6, 8, 20]) (Evl.ea_cons Evl.ev_c (Evl.ea_cons Evl.ev_c (Evl.ea_cons Evl.ev_c (Evl.ea_cons Evl.ev_c Evl.ea_nil)))) (by decide) (evpa_intsF (ns := [-9, -1, 0, 10]) (Evl.ea_cons ea_neg (Evl.ea_cons ea_neg (Evl.ea_cons Evl.ev_c (Evl.ea_cons Evl.ev_c Evl.ea_nil)))) (by decide)
      (evpa_intsF (ns := [10 ^ 38, 1 - 10 ^ 38, 3]) (Evl.ea_cons ev_big (Evl.ea_cons (Evl.ev_op Evl.ev_c ev_big Evl.rv_I0) (Evl.ea_cons Evl.ev_c Evl.ea_nil))) (by decide) (evpa_intsF (ns := [7]) (Evl.ea_cons Evl.ev_c Evl.ea_nil) (by decide) evpa_nil))))) (intF_stays _) (fun vs H1 z => by rw [intF_len z]; decide)) fun v H1 e1 z => ?_
    obtain ⟨p, vs, rfl, hp, hv⟩ := z
    have d1 : Dice H1 a := by
      obtain ⟨x, y, z, h⟩ := hd
      exact ⟨x, y, z, e1 _ _ h⟩
    have npa : p ≠ a := fun e => by
      obtain ⟨x, y, z, h⟩ := d1
      rw [← e, hp] at h
      have := intF_len hv
      injection h with h
      injection h with h
      rw [h] at this
      exact absurd this (show ¬ (3 = 5) by decide)
    refine q_asgR ⟨_, rfl, _, rfl, a, p, vs, rfl, d1, npa, SqL.of hp, by rw [intF_len hv]; decide, by rw [intF_len hv]; decide, fun v H2 hm x2 => ?_⟩
    obtain ⟨pp, ns, hns, rfl, np, hpp⟩ := intF_get hv hm
    obtain ⟨z0, z1, zs⟩ := pools_ok ns hns
    have nppa : pp ≠ a := hd.ne np
    refine ⟨_, rfl, a, 5, rfl, x2.d, by decide, by decide, fun r H3 r0 r1 x3 => ⟨_, rfl, by omega, by omega, fun Dl hDl => ?_⟩⟩
    have x1 : Go a H H1 := ⟨But.of e1, d1⟩
    have X3 := (x1.trans x2).trans x3
    have nl : H Dl = none := X3.fresh hd hDl
    have nla : Dl ≠ a := hd.ne nl
    refine lc_range (lo := 0) (n := r.toNat) (fun i H' => ∃ ms : List Int, Go a H H' ∧ H' Dl = some (.lst (ms.map V.int)) ∧ H' pp = some (.lst (ns.map V.int)) ∧ ms.length = i ∧ ∀ z ∈ ms, Bd 1 z) ?_ ?_ ?_
    · exact ⟨[], X3.new hDl, upd_same, by rw [upd_ne (fun e => by rw [e] at hpp; exact absurd ((x2.trans x3).b _ _ nla hpp) (by rw [hDl]; intro z; cases z))]; exact (x2.trans x3).b _ _ nppa hpp, rfl, fun z hz => (nomatch hz)⟩
    · rintro i H' hi ⟨ms, xg, hl, hq, hm, hs⟩
      refine ⟨rfl, _, rfl, _, rfl, a, pp, ns.map V.int, rfl, xg.d, nppa, SqL.of hq, by rw [List.length_map]; exact z0, by rw [List.length_map]; omega, fun v H4 hv4 x4 => ?_⟩
      obtain ⟨z, hz, rfl⟩ := List.mem_map.mp hv4
      refine ⟨_, x4.b _ _ nla hl, by rw [List.length_map, sizeLine_eq]; omega, ms ++ [z], ⟨fun b o hb e => ?_, ?_⟩, by rw [upd_same, List.map_append]; rfl, ?_, by rw [List.length_append, hm]; rfl, fun y hy => ?_⟩
      · rw [upd_ne (ne_of_none e nl)]
        exact x4.b _ _ hb (xg.b _ _ hb e)
      · obtain ⟨g1, g2, g3, e⟩ := x4.d
        exact ⟨g1, g2, g3, by rw [upd_ne (Ne.symm nla)]; exact e⟩
      · rw [upd_ne (fun e => by
          have h1 := (x2.trans x3).b _ _ nppa hpp
          rw [e, hDl] at h1
          cases h1)]
        exact x4.b _ _ nppa hq
      · rcases List.mem_append.mp hy with h | h
        · exact hs y h
        · rw [List.mem_singleton.mp h]
          exact zs z hz
    · rintro H' ⟨ms, xg, hl, hq, hm, hs⟩
      refine ⟨Dl, ms, rfl, SqL.of hl, by omega, fun p n hp hn => ⟨p, _, n, rfl, upd_same, by omega, fun us p' up mem len hp' => ?_⟩⟩
      have mem' : ∀ k, k ∈ us ↔ k ∈ ms := fun k => by rw [mem k, decide_eq_true_eq]
      refine k p' us _ ((xg.new hp).fresh hd hp') upd_same up ?_ (fun z hz => hs z ((mem' z).mp hz)) ((xg.new hp).new hp')
      have := nodup_len up fun k hk => (mem' k).mp hk
      omega
/-! the place, counted -/
def spPlace (K : PySem.W.Frag) : Sp := fun vs H Q _ => ∃ (l : Addr) (k : Int) (ws : List Int), vs = [.ref l, .int k] ∧ H l = some (.lst (ws.map V.int)) ∧ ws.length ≤ 40 ∧ Evl.RetV (.int (plc ws k)) H Q
theorem scPlace : FnScope ["given", "number", "one"] ["given", "number"] (defScope sPlace) := ⟨rfl, rfl, rfl, by decide +kernel, rfl, by decide +kernel, by decide +kernel⟩
theorem ev_count {σ : L2.St} {H : Hp} {l : Addr} {ws : List Int} {j : Nat} {vs : List Nat} {tl te : TE} {t : TT} (f : Int → Bool) (ha : Evl.Ev tl σ H (.ref l)) (hl : SqL K H l (ws.map V.int)) (hz : ws.length ≤ 100) (hw : ∀ x, wipe ((wipe σ vs).set j (some x)) vs = wipe σ vs)
    (ht : ∀ z H1, Evl.Ex H H1 → Evl.EvT t ((wipe σ vs).set j (some (.int z))) H1 (f z)) (he : ∀ z H1, Evl.Ex H H1 → Evl.Ev te ((wipe σ vs).set j (some (.int z))) H1 (.int z)) : Evl.Ev (tCB (Evl.rLenS K) (tCons (tLc (iList K tl) (gName j) t te vs) tNil)) σ H (.int ((ws.filter f).length : Int)) := by
  have z := Evl.ev_lenN (K := K) (Evl.el_lcL (K := K) (σ := σ) (H := H) (tl := tl) (t := t) (te := te) (j := j) (vs := vs) (a := l) (xs := ws.map V.int) (fun i => f (ws.getD i 0)) (fun i => .int (ws.getD i 0)) ha hl (by rw [List.length_map]; omega) hw (fun i x H2 e2 hx => ?_) (fun i x H2 e2 hx _ => ?_))
  · rw [List.length_map, given_len (p := f) (fun i hi => by simp [hi])] at z
    exact z
  · rw [List.getElem?_map] at hx
    obtain ⟨y, hy, rfl⟩ := Option.map_eq_some_iff.mp hx
    have : ws.getD i 0 = y := by rw [List.getD_eq_getElem?_getD, hy]; rfl
    rw [this]
    exact ht y H2 e2
  · rw [List.getElem?_map] at hx
    obtain ⟨y, hy, rfl⟩ := Option.map_eq_some_iff.mp hx
    have : ws.getD i 0 = y := by rw [List.getD_eq_getElem?_getD, hy]; rfl
    rw [this]
    exact he y H2 e2
theorem okPlace {f : Addr} {fd : FuncData} (F : Fun K "_law_place" "_law_place" sPlace f fd) (T : Bt mg) : FnOk P w K mg base CX0 1 f fd ["given", "number"] (spPlace K) := by
  refine F.ok scPlace (fun vs H Q E h => ?_) (fun cdv A outer s H vs Q E hr h => ?_)
  · obtain ⟨l, k, ws, rfl, _⟩ := h
    rfl
  · obtain ⟨l, k, ws, rfl, hl, hz, q⟩ := h
    refine ⟨_, (pss_one (ps_ret (pe_op op_add (pe_op op_mul pe_int (pe_callB call_len_seq (by rfl) T.len (by decide +kernel) (pa_cons (pe_lc (own := [("one", 2)]) (g := gName 2) rfl scPlace.nd (pi_list (pv 0)) (blkOk_by (own := [("one", 2)]) (N := ["given", "number", "one"]) (sc := defScope sPlace) (by decide +kernel)) (fun _ _ _ _ _ => (pg_name (i := 2) scPlace.nd rfl (Or.inl rfl))) (fun _ _ _ _ _ => (pts_one (pt_cmpR op_lt (pv 2) (pv 1) (nomark _)))) (fun _ _ _ _ _ => (pv 2))) pa_nil))) (pe_callTy call_int1 (by rfl) T.int (by decide +kernel) (pa_cons (pe_cmpR op_in_seq (pv 1) (pv 0) (by rfl)) pa_nil))))), ?_⟩
    refine Evl.s_ret (Evl.ev_is (Evl.ev_op (Evl.ev_op Evl.ev_c (ev_count (fun z => decide (z < k)) (Evl.ev_var rfl) (SqL.of hl) (by omega) (fun _ => rfl) (fun z H1 e => Evl.et_test (Evl.ev_op (Evl.ev_var rfl) (Evl.ev_var rfl) Evl.rv_I0)) (fun z H1 e => Evl.ev_var rfl)) (Evl.rv_I (.inl ⟨by decide, by decide⟩))) (Evl.ev_cb (Evl.ea_cons (Evl.ev_op (Evl.ev_var rfl) (Evl.ev_var rfl) (Evl.rv_isL (SqL.of hl) rfl (flat_ints ws))) Evl.ea_nil) rc_intb) Evl.rv_I0) ?_) fun H2 e2 => q H2 e2
    rw [inV_ints]
    unfold plc cntL
    by_cases hk : k ∈ ws
    · simp [hk]
    · simp [hk]
end
end LN

set_option Elab.async false
set_option maxRecDepth 100000
set_option maxHeartbeats 2000000
set_option linter.all false
set_option pp.maxSteps 200
namespace LN
open PySem PySem.Spec PyProof.Rows L2 XG XV XL
abbrev sMoved : Stmt := (top 20)
section
variable {P : Program} {w : World} {K : PySem.W.Frag} {mg : Str → Option Value} {base : Heap}
theorem q_asgV {te : TE} {j : Nat} {tz : TS} {D : Ends} {σ : L2.St} {H : Hp} (R : V → Hp → Prop) (hR : ∀ v H1, R v H1 → tz D (σ.set j (some v)) H1) (h : ∀ Z : VK, (∀ v H1, R v H1 → Z v H1) → te σ H Z) : tSeq (tAsg te (gName j)) tz D σ H := h _ hR
theorem iteC {b c : Bool} (e : b = c) {p q : Prop} (h1 : c = true → p) (h2 : c = false → q) : if b = true then p else q := by
  subst e
  cases b with
  | true => exact h1 rfl
  | false => exact h2 rfl
theorem but_upd2 {a f : Addr} {H H1 : Hp} {o : HO} (x : But a H H1) (h : H f = none) : But a H (upd H1 f o) := fun b u hb e => by
  rw [upd_ne (ne_of_none e h)]
  exact x b u hb e
theorem Go.ex {a : Addr} {H H1 H2 : Hp} (x : Go a H H1) (e : Evl.Ex H1 H2) : Go a H H2 := by
  obtain ⟨g1, g2, g3, h⟩ := x.d
  exact ⟨x.b.trans (But.of e), g1, g2, g3, e _ _ h⟩
def spValues : Sp := fun vs H Q _ => ∃ (a l : Addr) (ws : List Int), vs = [.ref a, .ref l] ∧ Dice H a ∧ l ≠ a ∧ H l = some (.lst (ws.map V.int)) ∧ ws.length ≤ 5 ∧ (∀ z ∈ ws, Bd 1 z) ∧
  ∀ (t : Addr) (xs : List Int) (H' : Hp), H t = none → H' t = some (.tup (xs.map V.int)) → xs.length ≤ 5 → (∀ z ∈ xs, Bd 8 z) → Go a H H' → Q (.ref t) H'
theorem scValues : FnScope ["dice", "given", "found", "turn", "base"] ["dice", "given"] (defScope sValues) := ⟨rfl, rfl, rfl, by decide +kernel, rfl, by decide +kernel, by decide +kernel⟩
def steps : List Int := [0, 0, 1, -1, 2, 3, -4, 10 ^ 38, 10]
theorem steps_ok : ∀ z ∈ steps, Bd 1 z := by decide
theorem okValues {f f1 f2 : Addr} {fd fd1 fd2 : FuncData} (F : Fun K "_law_values" "_law_values" sValues f fd) (T : Bt mg) (D_law_pull : Dn K mg "_law_pull" sPull f1 fd1 ["dice", "total"]) (D_law_pick : Dn K mg "_law_pick" sPick f2 fd2 ["dice", "items"]) : FnOk P w K mg base CX0 3 f fd ["dice", "given"] spValues := by
  have G_law_pull : FnOk P w K mg base CX0 1 f1 fd1 ["dice", "total"] spPullG := fn_less (okPull D_law_pull.F T) fun _ _ _ _ => pull_go
  have G_law_pick : FnOk P w K mg base CX0 2 f2 fd2 ["dice", "items"] (spPickG K) := fn_less (okPick D_law_pick.F T D_law_pull) fun _ _ _ _ => pick_go
  refine F.ok scValues (fun vs H Q E h => ?_) (fun cdv A outer s H vs Q E hr h => ?_)
  · obtain ⟨a, l, ws, rfl, _⟩ := h
    rfl
  · obtain ⟨a, l, ws, rfl, hd, la, hl, hz, hb, k⟩ := h
    have hr1 : Room 1 _ := hr.mono (by decide)
    refine ⟨_, (pss_cons (ps_set (i := 2) scValues.nd rfl (Or.inl rfl) (pe_lst pa_nil))
  (pss_cons (ps_for PassesOwn.never rfl (pi_range1 (by rfl) T.range (pa_cons (pe_call G_law_pull hr1 rfl D_law_pull.m D_law_pull.F.kp D_law_pull.b .nil pass0 (pa_cons (pv 0) (pa_cons pe_int pa_nil))) pa_nil)) (pg_name (i := 3) scValues.nd rfl (Or.inl rfl)) (pss_cons (ps_set (i := 4) scValues.nd rfl (Or.inl rfl) (pe_ifExp (PW.pt (pw_or (pt_cmpR (op_eqD hr.units) (pv 2) (pe_lst pa_nil) (nomark _)) (pw_or1 (pt_cmpR op_gt (pe_call G_law_pull hr1 rfl D_law_pull.m D_law_pull.F.kp D_law_pull.b .nil pass0 (pa_cons (pv 0) (pa_cons pe_int pa_nil))) pe_int (nomark _))))) (pe_call G_law_pick hr rfl D_law_pick.m D_law_pick.F.kp D_law_pick.b .nil pass0 (pa_cons (pv 0) (pa_cons (pe_op op_cat (pv 1) (pe_lst (pa_cons pe_int (pa_cons pe_int pa_nil)))) pa_nil))) (pe_call G_law_pick hr rfl D_law_pick.m D_law_pick.F.kp D_law_pick.b .nil pass0 (pa_cons (pv 0) (pa_cons (pv 2) pa_nil)))))
  (pss_one (ps_expr (pe_bm PySem.F.plainAttrs_list PySem.F.slot_list_append PySem.F.type_list_append mt_append (pv 2) (pa_cons (pe_op op_add (pv 4) (pe_call G_law_pick hr rfl D_law_pick.m D_law_pick.F.kp D_law_pick.b .nil pass0 (pa_cons (pv 0) (pa_cons (pe_lst (pa_cons pe_int (pa_cons pe_int (pa_cons pe_int (pa_cons (pe_un un_neg pe_int) (pa_cons pe_int (pa_cons pe_int (pa_cons (pe_un un_neg pe_int) (pa_cons (pe_op op_powB pe_int pe_int) (pa_cons pe_int pa_nil)))))))))) pa_nil)))) pa_nil))))))
  (pss_one (ps_ret (pe_callTy call_tuple_of (by rfl) T.tuple (by decide +kernel) (pa_cons (pv 2) pa_nil)))))), ?_⟩
    refine q_asgR ⟨by decide, fun fo hfo => ?_⟩
    have x0 : Go a H (upd H fo (.lst [])) := (Go.refl hd).new hfo
    have foa : fo ≠ a := hd.ne hfo
    refine ⟨_, rfl, a, 6, rfl, x0.d, by decide, by decide, fun r H1 r0 r1 x1 => ⟨_, rfl, by omega, by omega, for_range (lo := 0) (n := r.toNat)
      (fun i σ' H' => ∃ (xs : List Int) (u1 u2 : Option V), σ' = [some (.ref a), some (.ref l), some (.ref fo), u1, u2] ∧ H' fo = some (.lst (xs.map V.int)) ∧ xs.length = i ∧ (∀ z ∈ xs, Bd (i + 2) z) ∧ Go a H H' ∧ H' l = some (.lst (ws.map V.int))) ?_ ?_ ?_⟩⟩
    · refine ⟨[], none, none, rfl, x1.b _ _ foa upd_same, rfl, fun z hz => (nomatch hz), x0.trans x1, x1.b _ _ la ?_⟩
      rw [upd_ne (ne_of_none hl hfo)]
      exact hl
    · rintro i σ' H' hi ⟨xs, u1, u2, rfl, hx, hn, hB, xg, hl'⟩
      refine g_name (q_asgV (fun v H1 => ∃ z, v = .int z ∧ Bd (i + 2) z ∧ Go a H' H1) (fun v H1 hR => ?_) (fun Z hZ => ?_))
      · obtain ⟨z, rfl, hz2, x2⟩ := hR
        have hx1 := x2.b _ _ foa hx
        refine ⟨_, rfl, .inl ⟨rfl, _, SqL.of hx1⟩, _, rfl, _, rfl, ?_⟩
        refine (Evl.el_lst (vs := steps.map V.int) (Evl.ea_cons Evl.ev_c (Evl.ea_cons Evl.ev_c (Evl.ea_cons Evl.ev_c (Evl.ea_cons ea_neg (Evl.ea_cons Evl.ev_c (Evl.ea_cons Evl.ev_c (Evl.ea_cons ea_neg (Evl.ea_cons ev_big (Evl.ea_cons Evl.ev_c Evl.ea_nil))))))))) (by decide)) H1 (Evl.Ex.refl _) _ fun q H2 hq e2 h2 => ?_
        have x3 : Go a H1 H2 := (Go.refl x2.d).ex e2
        refine ⟨a, q, _, rfl, x3.d, x2.d.ne hq, SqL.of h2, by decide, by decide, fun v H4 hv x4 => ?_⟩
        obtain ⟨y, hy, rfl⟩ := List.mem_map.mp hv
        have X4 := (x2.trans x3).trans x4
        refine ⟨_, _, rfl, rfl, fo, _, _, rfl, rfl, X4.b _ _ foa hx, by rw [List.length_map, sizeLine_eq]; omega, xs ++ [z + y], _, _, rfl, by rw [upd_same, List.map_append]; rfl, by rw [List.length_append, hn]; rfl, fun u hu => ?_, ?_, ?_⟩
        · rcases List.mem_append.mp hu with m | m
          · exact (hB u m).mono (by omega)
          · rw [List.mem_singleton.mp m]
            exact (hz2.add (steps_ok y hy)).mono (by omega)
        · exact ⟨but_upd2 (xg.trans X4).b hfo, by
            obtain ⟨g1, g2, g3, e⟩ := X4.d
            exact ⟨g1, g2, g3, by rw [upd_ne (Ne.symm foa)]; exact e⟩⟩
        · rw [upd_ne (ne_of_none hl hfo)]
          exact X4.b _ _ la hl'
      · have given_ : ∀ H3, Go a H' H3 → ∀ E, tCall (spPickG K) [] E (tCons (tVar 0) (tCons (tOp rCat (tVar 1) (tLst (tCons (tC (.int 0)) (tCons (tC (.int 100)) tNil)))) tNil)) [some (.ref a), some (.ref l), some (.ref fo), some (.int ((0 : Int) + (i : Int))), u2] H3 Z := fun H3 x3 E => by
          refine ⟨_, rfl, _, rfl, by decide, fun q hq => ?_⟩
          have x4 := (Go.refl x3.d).new (o := .lst [.int 0, .int 100]) hq
          have hl3 := x3.b _ _ la hl'
          refine ⟨l, q, _, _, rfl, rfl, (Evl.Ex.new hq) _ _ hl3, upd_same, by rw [List.length_map, sizeLine_eq]; show ws.length + 2 ≤ 16777216; omega, fun m hm => ?_⟩
          have x5 := x4.new (o := .lst (ws.map V.int ++ [.int 0, .int 100])) hm
          refine ⟨a, m, _, rfl, x5.d, x4.d.ne hm, SqL.of upd_same, by rw [List.length_append]; show 0 < _ + 2; omega, by rw [List.length_append, List.length_map]; show _ + 2 ≤ 1000; omega, fun v H6 hv x6 => ?_⟩
          have : ∃ z, v = .int z ∧ Bd 1 z := by
            rcases List.mem_append.mp hv with y | y
            · obtain ⟨z, hz, rfl⟩ := List.mem_map.mp y
              exact ⟨z, rfl, hb z hz⟩
            · simp only [List.mem_cons, List.not_mem_nil, or_false] at y
              rcases y with rfl | rfl <;> exact ⟨_, rfl, by decide⟩
          obtain ⟨z, rfl, hz⟩ := this
          exact hZ _ _ ⟨z, rfl, hz.mono (by omega), (x3.trans x5).trans x6⟩
        refine ⟨_, rfl, by decide, fun p hp => ⟨_, _, .lst (SqL.of ((Evl.Ex.new hp) _ _ hx)) (dpa_ints xs), .lst (SqL.of upd_same) (dpa_ints []), shaped_intsL xs, shaped_intsL [], _, rfl, ?_⟩⟩
        have xp := (Go.refl xg.d).new (o := .lst []) hp
        refine iteC (eqv_ints xs []) (fun c => ?_) (fun c => ?_)
        · refine iteC (b := true) rfl (fun _ => given_ _ xp _) (fun h => nomatch h)
        · have ne : xs ≠ [] := of_decide_eq_false c
          refine ⟨_, rfl, a, 3, rfl, xp.d, by decide, by decide, fun r2 H3 q0 q1 x3 => ⟨_, _, rfl, rfl, _, rfl, ?_⟩⟩
          refine ite2 (fun _ => given_ _ (xp.trans x3) _) (fun _ => ?_)
          have hx3 := (xp.trans x3).b _ _ foa hx
          refine ⟨_, rfl, _, rfl, a, fo, _, rfl, x3.d, foa, SqL.of hx3, by rw [List.length_map]; exact List.length_pos_iff.mpr ne, by rw [List.length_map]; omega, fun v H4 hv x4 => ?_⟩
          obtain ⟨z, hz, rfl⟩ := List.mem_map.mp hv
          exact hZ _ _ ⟨z, rfl, hB z hz, (xp.trans x3).trans x4⟩
    · rintro σ' H' ⟨xs, u1, u2, rfl, hx, hn, hB, xg, hl'⟩
      refine ⟨_, rfl, fo, _, rfl, .inl ⟨SqL.of hx, fun t ht => ?_⟩⟩
      have l6 : r.toNat ≤ 5 := by omega
      exact k t xs _ (xg.fresh hd ht) upd_same (by omega) (fun z hz => (hB z hz).mono (by omega)) (xg.new ht)
end
end LN

set_option Elab.async false
set_option maxRecDepth 100000
set_option maxHeartbeats 2000000
set_option linter.all false
set_option pp.maxSteps 200
namespace LN
open PySem PySem.Spec PyProof.Rows L2 XG XV XL
abbrev sCanon : Stmt := (top 18)
abbrev sOrder : Stmt := (top 19)
def lcScope (st : Stmt) : Scope := match defBody st with
  | [.Return (some (.ListComp _ _ sc _)) _] => sc
  | _ => defScope st
def nestS (st : Stmt) : Scope := relabel (lcScope st) (envOfC "" (defScope st) 0 0 .none)
section
variable {P : Program} {w : World} {K : PySem.W.Frag} {mg : Str → Option Value} {base : Heap}
section
variable {X : Cx} {σ : L2.St} {H : Hp} {ta tb tc te tf tl tv : TE} {t : TT} {tr ts : TA} {E : XK}
theorem pi_listK {X : Cx} {K : PySem.W.Frag} {tg l : Expr} {tl : TE} (hl : PE X l tl) (hK : X.K = K := by rfl) : PI X tg l (iList K tl) := hK ▸ pi_list hl
theorem call_list_ofK {X : Cx} {K : PySem.W.Frag} (hK : X.K = K := by rfl) : CallR X (.type "list") (Evl.rListS K) := hK ▸ call_list_of
theorem blkOk_in {X : Cx} {N : List Str} {sc scope : Scope} {own : List (Str × Nat)} (hN : X.N = N) (hs : X.env.scope = sc) (h : blkC N sc scope own = true) : BlkOk X.N X.env.scope scope own := by
  rw [hN, hs]
  exact blkOk_by h
theorem given_filt {ws : List Int} {f : Int → Bool} {g : Int → Int} : Evl.given ws.length (fun i => f (ws.getD i 0)) (fun i => .int (g (ws.getD i 0))) = ((ws.filter f).map g).map V.int := by
  have e : ws = (List.range ws.length).map fun i => ws.getD i 0 := by
    refine List.ext_getElem (by simp) fun i h1 h2 => ?_
    simp [h1]
  unfold Evl.given
  have a : (ws.filter f).map g = (((List.range ws.length).map fun i => ws.getD i 0).filter f).map g := by rw [← e]
  rw [a, List.filter_map, List.map_map, List.map_map]
  rfl
theorem el_filtT {a : Addr} {xs : List Int} {j : Nat} {vs : List Nat} (f : Int → Bool) (h : Evl.Ev tl σ H (.ref a)) (hx : SqT K H a (xs.map V.int)) (hz : xs.length ≤ 1000) (hw : ∀ x, wipe ((wipe σ vs).set j (some x)) vs = wipe σ vs)
    (ht : ∀ z H1, Evl.Ex H H1 → Evl.EvT t ((wipe σ vs).set j (some (.int z))) H1 (f z)) (he : ∀ z H1, Evl.Ex H H1 → Evl.Ev te ((wipe σ vs).set j (some (.int z))) H1 (.int z)) : Evl.EvL (tLc (iTup K tl) (gName j) t te vs) σ H ((xs.filter f).map V.int) := fun H0 e Q q => h H0 e _ fun H1 e1 => by
  have E1 := e.trans e1
  refine ⟨a, rfl, ⟨_, Evl.ex_t E1 hx⟩, fun Dl hD => lc_tup (xs := xs.map V.int) (Evl.Cw H1 (fun i => f (xs.getD i 0)) (fun i => .int (id (xs.getD i 0))) Dl) ⟨hD, Evl.Ex.new hD, upd_same⟩ (fun i H' _ p' => Evl.ex_t (E1.trans p'.2.1) hx) (fun i x H' hi p' => ⟨hw x, ?_⟩) (fun H' p' => q Dl H' (Evl.fresh_back e1 p'.1) (e1.trans p'.2.1) ?_)⟩
  · rw [List.getElem?_map] at hi
    obtain ⟨z, hz', rfl⟩ := Option.map_eq_some_iff.mp hi
    have lt := (List.getElem?_eq_some_iff.mp hz').1
    have ez : xs.getD i 0 = z := by rw [List.getD_eq_getElem?_getD, hz']; rfl
    exact Evl.cw_turn p' (by omega) (by rw [ez]; exact ht z H1 E1) fun _ => by
      rw [ez]
      exact he z H1 E1
  · have z := p'.2.2
    rw [List.length_map, given_filt, List.map_id] at z
    exact z
theorem el_mapN {xs : List Int} {j : Nat} {vs : List Nat} (g : Int → Int) (h : Evl.EvL tl σ H (xs.map V.int)) (hz : xs.length ≤ 1000) (hw : ∀ x, wipe ((wipe σ vs).set j (some x)) vs = wipe σ vs)
    (he : ∀ z H1, Evl.Ex H H1 → Evl.Ev te ((wipe σ vs).set j (some (.int z))) H1 (.int (g z))) : Evl.EvL (tLc (iList K tl) (gName j) tYes te vs) σ H ((xs.map g).map V.int) := by
  have z := Evl.el_lcNL (K := K) (σ := σ) (H := H) (tl := tl) (t := tYes) (te := te) (j := j) (vs := vs) (xs := xs.map V.int) (fun i => (fun _ => true) (xs.getD i 0)) (fun i => .int (g (xs.getD i 0))) h (by rw [List.length_map]; omega) hw (fun i x H2 e2 hx => et_yes) (fun i x H2 e2 hx _ => ?_)
  · rw [List.length_map, given_filt (f := fun _ => true), List.filter_eq_self.mpr fun _ _ => rfl] at z
    exact z
  · rw [List.getElem?_map] at hx
    obtain ⟨y, hy, rfl⟩ := Option.map_eq_some_iff.mp hx
    have : xs.getD i 0 = y := by rw [List.getD_eq_getElem?_getD, hy]; rfl
    rw [this]
    exact he y H2 e2
theorem el_listT {p : Addr} {xs : List V} (ha : Evl.Ev te σ H (.ref p)) (hp : SqT K H p xs) : Evl.EvL (tCB (Evl.rListS K) (tCons te tNil)) σ H xs := fun H1 e Q q =>
  ha H1 e _ fun H2 e2 => ⟨p, xs, rfl, .inr (Evl.ex_t (e.trans e2) hp), fun l hl => q l _ (Evl.fresh_back e2 hl) (e2.trans (Evl.Ex.new hl)) upd_same⟩
end
/-! rows of ints, beside the list D -/
def RowsN (D : Addr) : List (List Int) → List V → Hp → Prop
  | [], vs, _ => vs = []
  | ns :: r, vs, H => ∃ p ws, vs = .ref p :: ws ∧ p ≠ D ∧ H p = some (.lst (ns.map V.int)) ∧ RowsN D r ws H
theorem rowsN_off {D : Addr} {H H' : Hp} (e : ∀ b o, b ≠ D → H b = some o → H' b = some o) : ∀ {r : List (List Int)} {vs : List V}, RowsN D r vs H → RowsN D r vs H'
  | [], _, h => h
  | ns :: r, _, ⟨p, ws, h1, h2, h3, h4⟩ => ⟨p, ws, h1, h2, e _ _ h2 h3, rowsN_off e h4⟩
theorem rowsN_snoc {D p : Addr} {H : Hp} {ns : List Int} (hp : p ≠ D) (h : H p = some (.lst (ns.map V.int))) : ∀ {r : List (List Int)} {vs : List V}, RowsN D r vs H → RowsN D (r ++ [ns]) (vs ++ [.ref p]) H
  | [], _, z => by
    rw [show _ = [] from z]
    exact ⟨p, [], rfl, hp, h, rfl⟩
  | ms :: r, _, ⟨q, ws, h1, h2, h3, h4⟩ => by
    rw [h1]
    exact ⟨q, _, rfl, h2, h3, rowsN_snoc hp h h4⟩
theorem rowsN_len {D : Addr} {H : Hp} : ∀ {r : List (List Int)} {vs : List V}, RowsN D r vs H → vs.length = r.length
  | [], _, h => by rw [show _ = [] from h] <;> rfl
  | ns :: r, _, ⟨p, ws, h1, _, _, h4⟩ => by rw [h1, List.length_cons, List.length_cons, rowsN_len h4]
def rowD (ns : List Int) : PyData := .list (ns.map PyData.int)
def matD (M : List (List Int)) : PyData := .list (M.map rowD)
theorem rowsN_dp {D : Addr} {H : Hp} : ∀ {r : List (List Int)} {vs : List V}, RowsN D r vs H → DpAll K H vs (r.map rowD)
  | [], _, h => by
    rw [show _ = [] from h]
    exact .nil
  | ns :: r, _, ⟨p, ws, h1, _, h3, h4⟩ => by
    rw [h1]
    exact .cons (.lst (SqL.of h3) (dpa_ints ns)) (rowsN_dp h4)
theorem lay_rows : ∀ M : List (List Int), PyData.canLayAll0 (M.map rowD) = true
  | [] => rfl
  | r :: M => by
    show (PyData.canLayAll0 (r.map PyData.int) && PyData.canLayAll0 (M.map rowD)) = true
    rw [lay_rows M, lay_ints r]
    rfl
theorem dep_rows : ∀ M : List (List Int), PyData.depthAll (M.map rowD) ≤ 1
  | [] => by decide
  | r :: M => by
    show max (PyData.depthAll (r.map PyData.int) + 1) (PyData.depthAll (M.map rowD)) ≤ 1
    rw [dep_ints r]
    have := dep_rows M
    omega
theorem shaped_mat (M : List (List Int)) : SeqAt.shaped (matD M) = true := by
  unfold SeqAt.shaped
  rw [Bool.and_eq_true]
  refine ⟨lay_rows M, decide_eq_true ?_⟩
  show PyData.depthAll (M.map rowD) + 1 ≤ 64
  have := dep_rows M
  omega
theorem eqv_rows : ∀ M N : List (List Int), PyData.eqvAll (M.map rowD) (N.map rowD) = decide (M = N)
  | [], [] => rfl
  | [], _ :: _ => rfl
  | _ :: _, [] => rfl
  | r :: M, q :: N => by
    show (PyData.eqvAll (r.map PyData.int) (q.map PyData.int) && PyData.eqvAll (M.map rowD) (N.map rowD)) = _
    rw [eqv_rows M N, eqv_ints, Bool.eq_iff_iff]
    simp
/-! how integers compare -/
def spOrder (K : PySem.W.Frag) : Sp := fun vs H Q _ => ∃ (l p : Addr) (ws xs : List Int), vs = [.ref l, .ref p] ∧ H l = some (.lst (ws.map V.int)) ∧ SqT K H p (xs.map V.int) ∧ ws.length ≤ 40 ∧ xs.length ≤ 40 ∧ ∀ v H', Evl.Ex H H' → Dp K H' v (matD (ordM ws xs)) → Q v H'
theorem scOrder : FnScope ["given", "values", "other", "one"] ["given", "values"] (defScope sOrder) := ⟨rfl, rfl, rfl, by decide +kernel, rfl, by decide +kernel, by decide +kernel⟩
theorem okOrder {f : Addr} {fd : FuncData} (F : Fun K "_law_order" "_law_order" sOrder f fd) (T : Bt mg) : FnOk P w K mg base CX0 1 f fd ["given", "values"] (spOrder K) := by
  refine F.ok scOrder (fun vs H Q E h => ?_) (fun cdv A outer s H vs Q E hr h => ?_)
  · obtain ⟨l, p, ws, xs, rfl, _⟩ := h
    rfl
  · obtain ⟨l, p, ws, xs, rfl, hl, hp, hz, hx, k⟩ := h
    refine ⟨_, (pss_one (ps_ret (pe_lc (own := [("one", 3)]) (g := gName 3) (tt := tYes) rfl scOrder.nd (pi_tup (pv 1)) (blkOk_by (own := [("one", 3)]) (N := ["given", "values", "other", "one"]) (sc := defScope sOrder) (by decide +kernel)) (fun _ _ _ _ _ => (pg_name (i := 3) scOrder.nd rfl (Or.inr rfl))) (fun _ _ _ _ _ => pts_nil) (fun _ _ _ _ _ => (pe_lc (own := [("other", 2)]) (g := gName 2) (tt := tYes) rfl scOrder.nd (pi_listK (K := K) (pe_op op_cat (pv 0) (pe_callTy (call_list_ofK (K := K)) (by rfl) T.list (by decide +kernel) (pa_cons (pv 1) pa_nil)))) (blkOk_in (own := [("other", 2)]) (N := ["given", "values", "other", "one"]) (sc := nestS sOrder) rfl rfl (by decide +kernel)) (fun _ _ _ _ _ => (pg_name (i := 2) scOrder.nd rfl (Or.inl rfl))) (fun _ _ _ _ _ => pts_nil) (fun _ _ _ _ _ => (pe_op op_sub (pe_callTy call_int1 (by rfl) T.int (by decide +kernel) (pa_cons (pe_cmpR op_gt (pv 3) (pv 2) (nomark _)) pa_nil)) (pe_callTy call_int1 (by rfl) T.int (by decide +kernel) (pa_cons (pe_cmpR op_lt (pv 3) (pv 2) (nomark _)) pa_nil))))))))), ?_⟩
    refine ⟨_, rfl, p, rfl, ⟨_, hp⟩, fun Dl hD => ?_⟩
    refine lc_tup (xs := xs.map V.int) (fun i H' => ∃ vs, Evl.Ex H H' ∧ H' Dl = some (.lst vs) ∧ RowsN Dl (ordM ws xs |>.take i) vs H' ∧ i ≤ xs.length) ⟨[], Evl.Ex.new hD, upd_same, rfl, Nat.zero_le _⟩ (fun i H' _ ⟨vs, ex, _⟩ => Evl.ex_t ex hp) (fun i x H' hi ⟨vs, ex, hd, hR, _⟩ => ⟨rfl, ?_⟩) (fun H' ⟨vs, ex, hd, hR, _⟩ => ?_)
    · rw [List.getElem?_map] at hi
      obtain ⟨z, hz', rfl⟩ := Option.map_eq_some_iff.mp hi
      have lt := (List.getElem?_eq_some_iff.mp hz').1
      refine et_yes H' (Evl.Ex.refl _) _ fun H1 e1 => ?_
      have E1 := ex.trans e1
      rw [if_pos rfl]
      refine (el_mapN (xs := ws ++ xs) (fun y => cm z y) (by
        rw [List.map_append]
        exact el_cat (Evl.ev_var rfl) (E1 _ _ hl) (el_listT (Evl.ev_var rfl) (Evl.ex_t E1 hp)) (by rw [List.length_map, List.length_map]; omega)) (by rw [List.length_append]; omega) (fun _ => rfl) fun y H2 e2 => Evl.ev_op (Evl.ev_cb (Evl.ea_cons (Evl.ev_op (Evl.ev_var rfl) (Evl.ev_var rfl) Evl.rv_I0) Evl.ea_nil) rc_intb) (Evl.ev_cb (Evl.ea_cons (Evl.ev_op (Evl.ev_var rfl) (Evl.ev_var rfl) Evl.rv_I0) Evl.ea_nil) rc_intb) Evl.rv_I0) H1 (Evl.Ex.refl _) _ fun q H2 hq e2 h2 => ?_
      have nq : q ≠ Dl := fun e => by
        rw [e, e1 _ _ hd] at hq
        cases hq
      have lv := rowsN_len hR
      refine ⟨vs, (e1.trans e2) _ _ hd, ?_, vs ++ [.ref q], (E1.trans e2).mut hD, upd_same, ?_, lt⟩
      · rw [lv, List.length_take, sizeLine_eq]
        omega
      · have tk : (ordM ws xs).take (i + 1) = (ordM ws xs).take i ++ [(ws ++ xs).map fun y => cm z y] := by
          unfold ordM
          rw [List.take_add_one, List.getElem?_map, hz']
          rfl
        rw [tk]
        exact rowsN_off (fun b o hb e => by rw [upd_ne hb]; exact e) (rowsN_snoc nq h2 (rowsN_off (fun b o _ e => (e1.trans e2) _ _ e) hR))
    · rw [List.length_map] at hR
      have e : (ordM ws xs).take xs.length = ordM ws xs := List.take_of_length_le (by unfold ordM; rw [List.length_map]; omega)
      rw [e] at hR
      exact k _ _ ex (.lst (SqL.of hd) (rowsN_dp hR))
end
end LN

set_option Elab.async false
set_option maxRecDepth 100000
set_option maxHeartbeats 2000000
set_option linter.all false
set_option pp.maxSteps 200
namespace LN
open PySem PySem.Spec PyProof.Rows L2 XG XV XL
section
variable {P : Program} {w : World} {K : PySem.W.Frag} {mg : Str → Option Value} {base : Heap}
/-! moved within the gaps -/
def mv (ws : List Int) (far x : Int) : Int := if (plc ws x = 0 ∨ plc ws x = 2 * (ws.length : Int)) ∧ x ∉ ws then x + (if plc ws x = 2 * (ws.length : Int) then far else 0 - far) else x
theorem mv_bd {ws : List Int} {far x : Int} {n : Nat} (hf : Bd 1 far) (hx : Bd n x) : Bd (n + 1) (mv ws far x) := by
  have h : Bd 1 (0 - far) := by
    unfold Bd at *
    omega
  unfold mv
  split
  · split
    · exact hx.add hf
    · exact hx.add h
  · exact hx.mono (by omega)
section
variable {σ : L2.St} {H : Hp} {ta tb te : TE} {E : XK}
theorem rv_eqL {g h : Addr} {ws us : List Int} (h1 : SqL K H g (ws.map V.int)) (h2 : SqL K H h (us.map V.int)) : Evl.RV (rEqD K) (.ref g) (.ref h) H (.bl (decide (ws = us))) := fun H1 e Q q =>
  ⟨_, _, .lst (Evl.ex_l e h1) (dpa_ints ws), .lst (Evl.ex_l e h2) (dpa_ints us), shaped_intsL ws, shaped_intsL us, by
    show Q (.bl (PyData.eqvAll (ws.map PyData.int) (us.map PyData.int))) H1
    rw [eqv_ints]
    exact q H1 (Evl.Ex.refl _)⟩
theorem ev_place {l : Addr} {ws : List Int} {k : Int} (ha : Evl.Ev ta σ H (.ref l)) (hb : Evl.Ev tb σ H (.int k)) (hl : H l = some (.lst (ws.map V.int))) (hz : ws.length ≤ 40) : Evl.Ev (tCall (spPlace K) [] E (tCons ta (tCons tb tNil))) σ H (.int (plc ws k)) :=
  Evl.ev_call (Evl.ea_cons ha (Evl.ea_cons hb Evl.ea_nil)) fun H1 e Q q E => ⟨l, k, ws, rfl, e _ _ hl, hz, fun H2 e2 => q H2 e2⟩
end
def spMoved (K : PySem.W.Frag) : Sp := fun vs H Q _ => ∃ (a l p : Addr) (ws xs : List Int), vs = [.ref a, .ref l, .ref p] ∧ Dice H a ∧ l ≠ a ∧ H l = some (.lst (ws.map V.int)) ∧ ws.length ≤ 5 ∧ H p = some (.tup (xs.map V.int)) ∧ xs.length ≤ 5 ∧ (∀ z ∈ xs, Bd 8 z) ∧
  ∀ (t : Addr) (ys : List Int) (H' : Hp), H t = none → H' t = some (.tup (ys.map V.int)) → ys.length ≤ 5 → (∀ z ∈ ys, Bd 9 z) → Go a H H' → Q (.ref t) H'
theorem scMoved : FnScope ["dice", "given", "values", "far", "found", "value", "place", "step"] ["dice", "given", "values"] (defScope sMoved) := ⟨rfl, rfl, rfl, by decide +kernel, rfl, by decide +kernel, by decide +kernel⟩
theorem okMoved {f f1 f2 f3 : Addr} {fd fd1 fd2 fd3 : FuncData} (F : Fun K "_law_moved" "_law_moved" sMoved f fd) (T : Bt mg) (D_law_pull : Dn K mg "_law_pull" sPull f1 fd1 ["dice", "total"]) (D_law_pick : Dn K mg "_law_pick" sPick f2 fd2 ["dice", "items"]) (D_law_place : Dn K mg "_law_place" sPlace f3 fd3 ["given", "number"]) : FnOk P w K mg base CX0 3 f fd ["dice", "given", "values"] (spMoved K) := by
  have G_law_pick : FnOk P w K mg base CX0 2 f2 fd2 ["dice", "items"] (spPickG K) := fn_less (okPick D_law_pick.F T D_law_pull) fun _ _ _ _ => pick_go
  have G_law_place : FnOk P w K mg base CX0 1 f3 fd3 ["given", "number"] (spPlace K) := okPlace D_law_place.F T
  refine F.ok scMoved (fun vs H Q E h => ?_) (fun cdv A outer s H vs Q E hr h => ?_)
  · obtain ⟨a, l, p, ws, xs, rfl, _⟩ := h
    rfl
  · obtain ⟨a, l, p, ws, xs, rfl, hd, la, hl, hz, hp, hx, hB, k⟩ := h
    have hr1 : Room 1 _ := hr.mono (by decide)
    refine ⟨_, (pss_cons (ps_set (i := 3) scMoved.nd rfl (Or.inl rfl) (pe_call G_law_pick hr rfl D_law_pick.m D_law_pick.F.kp D_law_pick.b .nil pass0 (pa_cons (pv 0) (pa_cons (pe_lst (pa_cons pe_int (pa_cons pe_int (pa_cons pe_int pa_nil)))) pa_nil))))
  (pss_cons (ps_set (i := 4) scMoved.nd rfl (Or.inl rfl) (pe_lst pa_nil))
  (pss_cons (ps_for PassesOwn.never rfl (pi_tup (pv 2)) (pg_name (i := 5) scMoved.nd rfl (Or.inl rfl)) (pss_cons (ps_set (i := 6) scMoved.nd rfl (Or.inl rfl) (pe_call G_law_place hr1 rfl D_law_place.m D_law_place.F.kp D_law_place.b .nil pass0 (pa_cons (pv 1) (pa_cons (pv 5) pa_nil))))
  (pss_cons (ps_set (i := 7) scMoved.nd rfl (Or.inl rfl) (pe_ifExp (pt_cmpR op_eq (pv 6) (pe_op op_mul pe_int (pe_callB call_len_seq (by rfl) T.len (by decide +kernel) (pa_cons (pv 1) pa_nil))) (nomark _)) (pv 3) (pe_op op_sub pe_int (pv 3))))
  (pss_one (ps_expr (pe_bm PySem.F.plainAttrs_list PySem.F.slot_list_append PySem.F.type_list_append mt_append (pv 4) (pa_cons (pe_ifExp (PW.pt (pw_and (pt_cmpR op_in_seq (pv 6) (pe_tup (pa_cons pe_int (pa_cons (pe_op op_mul pe_int (pe_callB call_len_seq (by rfl) T.len (by decide +kernel) (pa_cons (pv 1) pa_nil))) pa_nil))) (by rfl)) (pw_and1 (pt_cmpR op_notIn_seq (pv 5) (pv 1) (by rfl))))) (pe_op op_add (pv 5) (pv 7)) (pv 5)) pa_nil)))))))
  (pss_one (ps_ret (pe_callTy call_tuple_of (by rfl) T.tuple (by decide +kernel) (pa_cons (pv 4) pa_nil))))))), ?_⟩
    have pa : p ≠ a := fun e => by
      obtain ⟨g1, g2, g3, h⟩ := hd
      rw [e, h] at hp
      cases hp
    -- how far
    refine q_asgR ⟨_, rfl, ?_⟩
    refine (Evl.el_lst (vs := [.int 0, .int 1, .int 5]) (Evl.ea_cons Evl.ev_c (Evl.ea_cons Evl.ev_c (Evl.ea_cons Evl.ev_c Evl.ea_nil))) (by decide)) H (Evl.Ex.refl _) _ fun q H1 hq e1 h1 => ?_
    have x1 : Go a H H1 := (Go.refl hd).ex e1
    refine ⟨a, q, _, rfl, x1.d, hd.ne hq, SqL.of h1, by decide, by decide, fun v H2 hv x2 => ?_⟩
    obtain ⟨far, rfl, hf⟩ : ∃ far, v = .int far ∧ Bd 1 far := by
      simp only [List.mem_cons, List.not_mem_nil, or_false] at hv
      rcases hv with rfl | rfl | rfl <;> exact ⟨_, rfl, by decide⟩
    have X2 := x1.trans x2
    have hl2 := X2.b _ _ la hl
    have hp2 := X2.b _ _ pa hp
    refine q_asgR ⟨by decide, fun fo hfo => ?_⟩
    have hfo0 : H fo = none := X2.fresh hd hfo
    have e3 := Evl.Ex.new (o := .lst []) hfo
    refine ⟨_, rfl, p, rfl, ⟨_, SqT.of (e3 _ _ hp2)⟩, for_tup (xs := xs.map V.int) (fun i σ' H' => ∃ (u1 u2 u3 : Option V), σ' = [some (.ref a), some (.ref l), some (.ref p), some (.int far), some (.ref fo), u1, u2, u3] ∧ Evl.Ex H2 H' ∧ H' fo = some (.lst (((xs.take i).map (mv ws far)).map V.int)) ∧ i ≤ xs.length) ⟨none, none, none, rfl, e3, upd_same, Nat.zero_le _⟩ ?_ ?_ ?_⟩
    · rintro i σ' H' _ ⟨u1, u2, u3, rfl, ex, hL, _⟩
      exact SqT.of (ex _ _ hp2)
    · rintro i x σ' H' hx' ⟨u1, u2, u3, rfl, ex, hL, _⟩
      rw [List.getElem?_map] at hx'
      obtain ⟨z, hz', rfl⟩ := Option.map_eq_some_iff.mp hx'
      have lt := (List.getElem?_eq_some_iff.mp hz').1
      refine g_name ?_
      have hl3 := ex _ _ hl2
      have len : ∀ {σ : L2.St} {H1 : Hp}, Evl.Ex H' H1 → σ[1]? = some (some (.ref l)) → Evl.Ev (tCB (Evl.rLenS K) (tCons (tVar 1) tNil)) σ H1 (.int (ws.length : Int)) := fun e h => ev_lenL (Evl.ev_var h) (SqL.of (e _ _ hl3))
      have two : ∀ {σ : L2.St} {H1 : Hp}, Evl.Ex H' H1 → σ[1]? = some (some (.ref l)) → Evl.Ev (tOp (rI CMul fun i j => .int (i * j)) (tC (.int 2)) (tCB (Evl.rLenS K) (tCons (tVar 1) tNil))) σ H1 (.int (2 * (ws.length : Int))) := fun e h => Evl.ev_op Evl.ev_c (len e h) (Evl.rv_I (.inl ⟨by decide, by decide⟩))
      refine Evl.q_asg (ev_place (Evl.ev_var rfl) (Evl.ev_var rfl) hl3 (by omega)) fun H3 e3 => ?_
      refine Evl.q_asg (v := .int (if plc ws z = 2 * (ws.length : Int) then far else 0 - far)) (Evl.ev_if (b := decide (plc ws z = 2 * (ws.length : Int))) (Evl.et_test (Evl.ev_is (Evl.ev_op (Evl.ev_var rfl) (two e3 rfl) (Evl.rv_eq rfl)) ?_)) (fun hc => ?_) (fun hc => ?_)) fun H4 e4 => ?_
      · rw [dec_int]
        congr 1
      · rw [if_pos (of_decide_eq_true hc)]
        exact Evl.ev_var rfl
      · rw [if_neg (of_decide_eq_false hc)]
        exact Evl.ev_op Evl.ev_c (Evl.ev_var rfl) Evl.rv_I0
      have E4 := e3.trans e4
      refine Evl.s_app (v := .int (mv ws far z)) (E4 _ _ hL) (Evl.ev_var rfl) (Evl.ev_if (b := decide ((plc ws z = 0 ∨ plc ws z = 2 * (ws.length : Int)) ∧ z ∉ ws)) (Evl.et_is (Evl.et_and (a := decide (plc ws z = 0 ∨ plc ws z = 2 * (ws.length : Int))) (b := decide (z ∉ ws)) (Evl.et_test (Evl.ev_is (Evl.ev_inU (Evl.ev_var rfl) (Evl.eu_tup (vs := [.int 0, .int (2 * (ws.length : Int))]) (Evl.ea_cons Evl.ev_c (Evl.ea_cons (two E4 rfl) Evl.ea_nil)) (show 2 ≤ 100000 by decide)) rfl rfl) ?_)) fun _ => Evl.et_test (Evl.ev_is (Evl.ev_op (Evl.ev_var rfl) (Evl.ev_var rfl) (Evl.rv_niL (SqL.of (E4 _ _ hl3)) rfl (flat_ints ws))) ?_)) ?_) (fun hc => ?_) (fun hc => ?_)) (by rw [List.length_map, List.length_map, List.length_take]; omega) fun H5 e5 => ⟨_, _, _, rfl, ((ex.trans E4).trans e5).mut hfo, ?_, lt⟩
      · have := inV_ints (plc ws z) [0, 2 * (ws.length : Int)]
        rw [show ([.int 0, .int (2 * (ws.length : Int))] : List V) = [0, 2 * (ws.length : Int)].map V.int from rfl, this]
        simp
      · rw [inV_ints]
        simp
      · rw [Bool.decide_and]
      · unfold mv
        rw [if_pos (of_decide_eq_true hc)]
        exact Evl.ev_op (Evl.ev_var rfl) (Evl.ev_var rfl) Evl.rv_I0
      · unfold mv
        rw [if_neg (of_decide_eq_false hc)]
        exact Evl.ev_var rfl
      · rw [upd_same, List.take_add_one, hz']
        simp
    · rintro σ' H' ⟨u1, u2, u3, rfl, ex, hL, _⟩
      rw [List.length_map, List.take_length] at hL
      refine ⟨_, rfl, fo, _, rfl, .inl ⟨SqL.of hL, fun t ht => ?_⟩⟩
      refine k t (xs.map (mv ws far)) _ (X2.fresh hd (Evl.fresh_back ex ht)) upd_same (by rw [List.length_map]; exact hx) (fun y hy => ?_) ((X2.ex ex).new ht)
      obtain ⟨z, hz', rfl⟩ := List.mem_map.mp hy
      exact mv_bd hf (hB z hz')
/-! the canonical tuple, by the law's own count -/
def spCanon (K : PySem.W.Frag) : Sp := fun vs H Q _ => ∃ (l p : Addr) (ws xs low : List Int), vs = [.ref l, .ref p] ∧ H l = some (.lst (ws.map V.int)) ∧ ws.Pairwise (· < ·) ∧ ws.length ≤ 20 ∧ SqT K H p (xs.map V.int) ∧ xs.length ≤ 20 ∧ Asc (xs ++ ws) low ∧
  ∀ t H', Evl.Ex H H' → SqT K H' t ((canL ws low xs).map V.int) → Q (.ref t) H'
theorem scCanon : FnScope ["given", "values", "found", "value", "place", "here", "one", "rank"] ["given", "values"] (defScope sCanon) := ⟨rfl, rfl, rfl, by decide +kernel, rfl, by decide +kernel, by decide +kernel⟩
theorem okCanon {f f3 : Addr} {fd fd3 : FuncData} (F : Fun K "_law_canonical" "_law_canonical" sCanon f fd) (T : Bt mg) (D_law_place : Dn K mg "_law_place" sPlace f3 fd3 ["given", "number"]) : FnOk P w K mg base CX0 2 f fd ["given", "values"] (spCanon K) := by
  have G_law_place : FnOk P w K mg base CX0 1 f3 fd3 ["given", "number"] (spPlace K) := okPlace D_law_place.F T
  refine F.ok scCanon (fun vs H Q E h => ?_) (fun cdv A outer s H vs Q E hr h => ?_)
  · obtain ⟨l, p, ws, xs, low, rfl, _⟩ := h
    rfl
  · obtain ⟨l, p, ws, xs, low, rfl, hl, up, hz, hp, hx, asc, k⟩ := h
    refine ⟨_, (pss_cons (ps_set (i := 2) scCanon.nd rfl (Or.inl rfl) (pe_lst pa_nil))
  (pss_cons (ps_for PassesOwn.never rfl (pi_tup (pv 1)) (pg_name (i := 3) scCanon.nd rfl (Or.inr rfl)) (pss_cons (ps_set (i := 4) scCanon.nd rfl (Or.inr rfl) (pe_call G_law_place hr rfl D_law_place.m D_law_place.F.kp D_law_place.b .nil pass0 (pa_cons (pv 0) (pa_cons (pv 3) pa_nil))))
  (pss_cons (ps_set (i := 5) scCanon.nd rfl (Or.inl rfl) (pe_callB (cr_sortedSet rfl) (by rfl) T.sorted (by decide +kernel) (pa_cons (pe_callTy (XT.cr_setI rfl) (by rfl) T.set (by decide +kernel) (pa_cons (pe_lc (own := [("one", 6)]) (g := gName 6) rfl scCanon.nd (pi_tup (pv 1)) (blkOk_by (own := [("one", 6)]) (N := ["given", "values", "found", "value", "place", "here", "one", "rank"]) (sc := defScope sCanon) (by decide +kernel)) (fun _ _ _ _ _ => (pg_name (i := 6) scCanon.nd rfl (Or.inl rfl))) (fun _ _ _ _ _ => (pts_one (pt_cmpR op_eq (pe_call G_law_place hr rfl D_law_place.m D_law_place.F.kp D_law_place.b .nil pass0 (pa_cons (pv 0) (pa_cons (pv 6) pa_nil))) (pv 4) (nomark _)))) (fun _ _ _ _ _ => (pv 6))) pa_nil)) pa_nil)))
  (pss_cons (ps_set (i := 7) scCanon.nd rfl (Or.inl rfl) (pe_callB call_len_seq (by rfl) T.len (by decide +kernel) (pa_cons (pe_lc (own := [("one", 6)]) (g := gName 6) rfl scCanon.nd (pi_list (pv 5)) (blkOk_by (own := [("one", 6)]) (N := ["given", "values", "found", "value", "place", "here", "one", "rank"]) (sc := defScope sCanon) (by decide +kernel)) (fun _ _ _ _ _ => (pg_name (i := 6) scCanon.nd rfl (Or.inl rfl))) (fun _ _ _ _ _ => (pts_one (pt_cmpR op_lt (pv 6) (pv 3) (nomark _)))) (fun _ _ _ _ _ => (pv 6))) pa_nil)))
  (pss_one (ps_if (pt_cmpR op_in_seq (pv 3) (pv 0) (by rfl)) (pss_one (ps_expr (pe_bm PySem.F.plainAttrs_list PySem.F.slot_list_append PySem.F.type_list_append mt_append (pv 2) (pa_cons (pv 3) pa_nil)))) (pss_one (ps_if (pt_cmpR (op_eqD hr.units) (pv 0) (pe_lst pa_nil) (nomark _)) (pss_one (ps_expr (pe_bm PySem.F.plainAttrs_list PySem.F.slot_list_append PySem.F.type_list_append mt_append (pv 2) (pa_cons (pv 7) pa_nil)))) (pss_one (ps_expr (pe_bm PySem.F.plainAttrs_list PySem.F.slot_list_append PySem.F.type_list_append mt_append (pv 2) (pa_cons (pe_ifExp (pt_cmpR op_eq (pv 4) pe_int (nomark _)) (pe_op op_add (pe_op op_sub (pe_ix ix_list (pv 0) pe_int (fun _ _ => rfl)) (pe_callB call_len_seq (by rfl) T.len (by decide +kernel) (pa_cons (pv 5) pa_nil))) (pv 7)) (pe_op op_add (pe_op op_add (pe_ix ix_list (pv 0) (pe_op op_sub (pe_op op_fdiv (pv 4) pe_int) pe_int) (fun _ _ => rfl)) pe_int) (pv 7))) pa_nil))))))))))))
  (pss_one (ps_ret (pe_callTy call_tuple_of (by rfl) T.tuple (by decide +kernel) (pa_cons (pv 2) pa_nil)))))), ?_⟩
    refine q_asgR ⟨by decide, fun fo hfo => ?_⟩
    have e3 := Evl.Ex.new (o := .lst []) hfo
    refine ⟨_, rfl, p, rfl, ⟨_, Evl.ex_t e3 hp⟩, for_tup (xs := xs.map V.int) (fun i σ' H' => ∃ (u1 u2 u3 u4 u5 : Option V), σ' = [some (.ref l), some (.ref p), some (.ref fo), u1, u2, u3, u4, u5] ∧ u4 = none ∧ Evl.Ex H H' ∧ H' fo = some (.lst (((xs.take i).map (can ws low)).map V.int)) ∧ i ≤ xs.length) ⟨none, none, none, none, none, rfl, rfl, e3, upd_same, Nat.zero_le _⟩ ?_ ?_ ?_⟩
    · rintro i σ' H' _ ⟨u1, u2, u3, u4, u5, rfl, rfl, ex, hL, _⟩
      exact Evl.ex_t ex hp
    · rintro i x σ' H' hx' ⟨u1, u2, u3, u4, u5, rfl, rfl, ex, hL, _⟩
      rw [List.getElem?_map] at hx'
      obtain ⟨v, hv, rfl⟩ := Option.map_eq_some_iff.mp hx'
      have lt := (List.getElem?_eq_some_iff.mp hv).1
      have vm : v ∈ xs := List.mem_of_getElem? hv
      refine g_name ?_
      have hl3 := ex _ _ hl
      have hp3 := Evl.ex_t ex hp
      refine Evl.q_asg (ev_place (Evl.ev_var rfl) (Evl.ev_var rfl) hl3 (by omega)) fun H3 e3 => ?_
      obtain ⟨here, B⟩ := asc_ex (xs.filter fun u => decide (plc ws u = plc ws v))
      have fl : (xs.filter fun u => decide (plc ws u = plc ws v)).length ≤ 20 := Nat.le_trans (List.length_filter_le _ _) hx
      have hhl : here.length ≤ 20 := Nat.le_trans (nodup_len B.up fun k hk => (B.mem k).mp hk) fl
      refine Evl.q_asgL (el_sortedN (el_filtT (fun u => decide (plc ws u = plc ws v)) (Evl.ev_var rfl) (Evl.ex_t e3 hp3) (by omega) (fun _ => rfl) (fun z H1 e => Evl.et_test (Evl.ev_is (Evl.ev_op (ev_place (Evl.ev_var rfl) (Evl.ev_var rfl) ((e3.trans e) _ _ hl3) (by omega)) (Evl.ev_var rfl) (Evl.rv_eq rfl)) (by rw [dec_int]; congr 1))) (fun z H1 e => Evl.ev_var rfl)) (by omega) B) fun he H4 n4 e4 h4 => ?_
      refine Evl.q_asg (v := .int (cntL here v : Int)) (ev_count (fun z => decide (z < v)) (Evl.ev_var rfl) (SqL.of h4) (by omega) (fun _ => rfl) (fun z H1 e => Evl.et_test (Evl.ev_op (Evl.ev_var rfl) (Evl.ev_var rfl) Evl.rv_I0)) (fun z H1 e => Evl.ev_var rfl)) fun H5 e5 => ?_
      have E5 := (e3.trans e4).trans e5
      have hl5 := E5 _ _ hl3
      have fin : ∀ H6, Evl.Ex H5 H6 → ∃ (u1 u2 u3 u4 u5 : Option V), [some (.ref l), some (.ref p), some (.ref fo), some (.int v), some (.int (plc ws v)), some (.ref he), none, some (.int (cntL here v : Int))] = [some (.ref l), some (.ref p), some (.ref fo), u1, u2, u3, u4, u5] ∧ u4 = none ∧ Evl.Ex H (upd H6 fo (.lst (((xs.take i).map (can ws low)).map V.int ++ [.int (can ws low v)]))) ∧ (upd H6 fo (.lst (((xs.take i).map (can ws low)).map V.int ++ [.int (can ws low v)]))) fo = some (.lst (((xs.take (i + 1)).map (can ws low)).map V.int)) ∧ i + 1 ≤ xs.length := fun H6 e6 => by
        refine ⟨_, _, _, _, _, rfl, rfl, ((ex.trans E5).trans e6).mut hfo, ?_, lt⟩
        rw [upd_same, List.take_add_one, hv]
        simp
      have sz : ((((xs.take i).map (can ws low)).map V.int).length) < 100000 := by
        rw [List.length_map, List.length_map, List.length_take]
        omega
      refine Evl.s_if (b := decide (v ∈ ws)) (Evl.et_test (Evl.ev_is (Evl.ev_op (Evl.ev_var rfl) (Evl.ev_var rfl) (Evl.rv_isL (SqL.of hl5) rfl (flat_ints ws))) (by rw [inV_ints]))) (fun hc H6 e6 => ?_) (fun hc H6 e6 => ?_)
      · have := can_eq (low := low) up (of_decide_eq_true hc)
        exact Evl.s_app (v := .int (can ws low v)) ((E5.trans e6) _ _ hL) (Evl.ev_var rfl) (by rw [this]; exact Evl.ev_var rfl) sz fun H7 e7 => fin H7 (e6.trans e7)
      · have nv := of_decide_eq_false hc
        obtain ⟨c1, c2, c3⟩ := law_can up asc vm B nv
        have hl6 := e6 _ _ hl5
        have h46 := (e5.trans e6) _ _ h4
        refine Evl.s_if (b := decide (ws = [])) (Evl.et_test (Evl.ev_opL (Evl.ev_var rfl) (Evl.el_lst Evl.ea_nil (by decide)) fun q H7 h7 e7 => rv_eqL (us := []) (SqL.of (e7 _ _ hl6)) (SqL.of h7))) (fun hc2 H7 e7 => ?_) (fun hc2 H7 e7 => ?_)
        · have := c1 (of_decide_eq_true hc2)
          exact Evl.s_app (v := .int (can ws low v)) (((E5.trans e6).trans e7) _ _ hL) (Evl.ev_var rfl) (by rw [this]; exact Evl.ev_var rfl) sz fun H8 e8 => fin H8 ((e6.trans e7).trans e8)
        · have ne := of_decide_eq_false hc2
          have h0 : 0 < ws.length := List.length_pos_iff.mpr ne
          have hl7 := e7 _ _ hl6
          refine Evl.s_app (v := .int (can ws low v)) (((E5.trans e6).trans e7) _ _ hL) (Evl.ev_var rfl) (Evl.ev_if (b := decide (plc ws v = 0)) (Evl.et_test (Evl.ev_is (Evl.ev_op (Evl.ev_var rfl) Evl.ev_c (Evl.rv_eq rfl)) (by rw [dec_int]; congr 1))) (fun hp0 => ?_) (fun hp0 => ?_)) sz fun H8 e8 => fin H8 ((e6.trans e7).trans e8)
          · rw [c2 h0 (of_decide_eq_true hp0)]
            exact Evl.ev_op (Evl.ev_op (Evl.ev_op (Evl.ev_var rfl) Evl.ev_c (Evl.rv_ixL (i := ((0 : Nat) : Int)) (SqL.of hl7) (atI_int h0))) (ev_lenL (Evl.ev_var rfl) (SqL.of (e7 _ _ h46))) Evl.rv_I0) (Evl.ev_var rfl) Evl.rv_I0
          · obtain ⟨hn, e1, e2, e3'⟩ := c3 (of_decide_eq_false hp0)
            rw [e3']
            refine Evl.ev_op (Evl.ev_op (Evl.ev_op (Evl.ev_var rfl) (Evl.ev_is (w := .int ((cntL ws v - 1 : Nat) : Int)) (Evl.ev_op (Evl.ev_op (Evl.ev_var rfl) Evl.ev_c (Evl.rv_I ⟨by decide, by decide⟩)) Evl.ev_c Evl.rv_I0) ?_) (Evl.rv_ixL (SqL.of hl7) (atI_int hn))) Evl.ev_c Evl.rv_I0) (Evl.ev_var rfl) Evl.rv_I0
            congr 1
            omega
    · rintro σ' H' ⟨u1, u2, u3, u4, u5, rfl, rfl, ex, hL, _⟩
      rw [List.length_map, List.take_length] at hL
      refine ⟨_, rfl, fo, _, rfl, .inl ⟨SqL.of hL, fun t ht => ?_⟩⟩
      exact k t _ (ex.trans (Evl.Ex.new ht)) (SqT.of upd_same)
end
end LN

set_option Elab.async false
set_option maxRecDepth 100000
set_option maxHeartbeats 2000000
set_option linter.all false
set_option pp.maxSteps 200
namespace LN
open PySem PySem.Spec PyProof.Rows L2 XG XV XL
abbrev sRight : Stmt := (top 21)
/-! what is shown -/
theorem bd_log {n : Nat} {z : Int} (hn : n ≤ 20) (h : Bd n z) : z.natAbs.log2 < 140 := by
  rcases Nat.eq_zero_or_pos z.natAbs with y | y
  · rw [y]
    decide
  · refine (Nat.log2_lt (by omega)).mpr ?_
    unfold Bd at h
    have : n * 10 ^ 38 ≤ 20 * 10 ^ 38 := Nat.mul_le_mul_right _ hn
    omega
theorem showable_ints : ∀ {ns : List Int}, (∀ z ∈ ns, z.natAbs.log2 < 140) → PyData.showableAll (ns.map PyData.int) = true
  | [], _ => rfl
  | z :: ns, h => by
    show (decide _ && PyData.showableAll (ns.map PyData.int)) = true
    rw [showable_ints fun y hy => h y (List.mem_cons_of_mem _ hy), Bool.and_true]
    have := h z List.mem_cons_self
    exact decide_eq_true (by omega)
theorem plain_ints : ∀ ns : List Int, XS.plainDs (ns.map PyData.int) = true
  | [] => rfl
  | z :: ns => by
    show (true && XS.plainDs (ns.map PyData.int)) = true
    rw [plain_ints ns]
    rfl
theorem szs_ints : ∀ {ns : List Int}, (∀ z ∈ ns, z.natAbs.log2 < 140) → XS.szs (ns.map PyData.int) ≤ 150 * ns.length
  | [], _ => Nat.le_refl _
  | z :: ns, h => by
    have a := szs_ints fun y hy => h y (List.mem_cons_of_mem _ hy)
    have b := h z List.mem_cons_self
    have c : XS.szs ((z :: ns).map PyData.int) = z.natAbs.log2 + 2 + 2 + XS.szs (ns.map PyData.int) := rfl
    rw [c, List.length_cons]
    omega
theorem list_ok {ns : List Int} (h : ∀ z ∈ ns, z.natAbs.log2 < 140) (hz : ns.length ≤ 40) : (PyData.list (ns.map PyData.int)).showable = true ∧ (PyData.list (ns.map PyData.int)).depth ≤ 100 ∧ (PyData.list (ns.map PyData.int)).shown.length ≤ sizeLine := by
  refine ⟨showable_ints h, ?_, ?_⟩
  · show PyData.depthAll (ns.map PyData.int) + 1 ≤ 100
    rw [dep_ints]
    decide
  · have a := XS.shown_le (PyData.list (ns.map PyData.int)) (plain_ints ns)
    have b : XS.sz (PyData.list (ns.map PyData.int)) = 2 + XS.szs (ns.map PyData.int) := rfl
    have c := szs_ints h
    rw [sizeLine_eq]
    omega
theorem tup_ok {ns : List Int} (h : ∀ z ∈ ns, z.natAbs.log2 < 140) (hz : ns.length ≤ 40) : (PyData.tuple (ns.map PyData.int)).showable = true ∧ (PyData.tuple (ns.map PyData.int)).depth ≤ 100 ∧ (PyData.tuple (ns.map PyData.int)).shown.length ≤ sizeLine := by
  refine ⟨showable_ints h, ?_, ?_⟩
  · show PyData.depthAll (ns.map PyData.int) + 1 ≤ 100
    rw [dep_ints]
    decide
  · have a := XS.shown_le (PyData.tuple (ns.map PyData.int)) (plain_ints ns)
    have b : XS.sz (PyData.tuple (ns.map PyData.int)) ≤ 5 + XS.szs (ns.map PyData.int) := by
      show (_ : Nat) ≤ _
      first | exact Nat.le_refl _ | (unfold XS.sz; omega)
    have c := szs_ints h
    rw [sizeLine_eq]
    omega
theorem can_bd {ws low : List Int} {v : Int} (up : ws.Pairwise (· < ·)) (hb : ∀ w ∈ ws, Bd 1 w) (hl : low.length ≤ 100) : Bd 2 (can ws low v) := by
  have l1 : ∀ k, cntL low k ≤ low.length := fun k => List.length_filter_le _ _
  by_cases e : ws = []
  · subst e
    rw [can_nil]
    have := l1 v
    unfold Bd
    omega
  · obtain ⟨g, G⟩ : ∃ g, IsG ws v g := ⟨_, gOf_is up e⟩
    rw [can_g up G]
    have a := hb g G.1
    have b := l1 v
    have c := l1 g
    unfold Bd at *
    omega
/-! rows: tuples -/
def TupsAt : List (List Int) → List V → Hp → Prop
  | [], vs, _ => vs = []
  | ns :: r, vs, H => ∃ p ws, vs = .ref p :: ws ∧ H p = some (.tup (ns.map V.int)) ∧ TupsAt r ws H
theorem tups_keep {H H' : Hp} (e : ∀ b xs, H b = some (.tup xs) → H' b = some (.tup xs)) : ∀ {r : List (List Int)} {vs : List V}, TupsAt r vs H → TupsAt r vs H'
  | [], _, h => h
  | ns :: r, _, ⟨p, ws, h1, h3, h4⟩ => ⟨p, ws, h1, e _ _ h3, tups_keep e h4⟩
theorem tups_snoc {p : Addr} {H : Hp} {ns : List Int} (h : H p = some (.tup (ns.map V.int))) : ∀ {r : List (List Int)} {vs : List V}, TupsAt r vs H → TupsAt (r ++ [ns]) (vs ++ [.ref p]) H
  | [], _, z => by
    rw [show _ = [] from z]
    exact ⟨p, [], rfl, h, rfl⟩
  | ms :: r, _, ⟨q, ws, h1, h3, h4⟩ => by
    rw [h1]
    exact ⟨q, _, rfl, h3, tups_snoc h h4⟩
theorem tups_app {H : Hp} : ∀ {r r' : List (List Int)} {vs vs' : List V}, TupsAt r vs H → TupsAt r' vs' H → TupsAt (r ++ r') (vs ++ vs') H
  | [], _, _, _, z, h => by
    rw [show _ = [] from z]
    exact h
  | ms :: r, _, _, _, ⟨q, ws, h1, h3, h4⟩, h => by
    rw [h1]
    exact ⟨q, _, rfl, h3, tups_app h4 h⟩
theorem tups_len {H : Hp} : ∀ {r : List (List Int)} {vs : List V}, TupsAt r vs H → vs.length = r.length
  | [], _, h => by rw [show _ = [] from h] <;> rfl
  | ns :: r, _, ⟨p, ws, h1, _, h4⟩ => by rw [h1, List.length_cons, List.length_cons, tups_len h4]
theorem tups_get {H : Hp} : ∀ {r : List (List Int)} {vs : List V} {i : Nat} {v : V}, TupsAt r vs H → vs[i]? = some v → ∃ p ns, ns ∈ r ∧ v = .ref p ∧ H p = some (.tup (ns.map V.int))
  | [], _, i, v, h, e => by
    rw [show _ = [] from h] at e
    cases e
  | ns :: r, _, i, v, ⟨p, ws, h1, h3, h4⟩, e => by
    rw [h1] at e
    cases i with
    | zero =>
      cases Option.some.inj e
      exact ⟨p, ns, List.mem_cons_self, rfl, h3⟩
    | succ i =>
      obtain ⟨q, ms, m, e1, e2⟩ := tups_get h4 (by simpa using e)
      exact ⟨q, ms, List.mem_cons_of_mem _ m, e1, e2⟩
theorem go_keep {a : Addr} {H H' : Hp} (d : Dice H a) (x : Go a H H') : ∀ b xs, H b = some (.tup xs) → H' b = some (.tup xs) := fun b xs e => x.b b _ (fun z => by
  obtain ⟨g1, g2, g3, h⟩ := d
  rw [z, h] at e
  cases e) e
theorem upd_keep {H : Hp} {b : Addr} {ys zs : List V} (h : H b = some (.lst ys)) : ∀ c xs, H c = some (.tup xs) → upd H b (.lst zs) c = some (.tup xs) := fun c xs e => by
  rw [upd_ne (fun z => by rw [z, h] at e; cases e)]
  exact e
/-- what the law's side asks of the class -/
structure LP (P : Program) (w : World) (K : PySem.W.Frag) (mg : Str → Option Value) (base : Heap) (C fi po go fo fn fl : Addr) (fdo fdl : FuncData) : Prop where
  c : LC K C
  ln : mg "Line" = some (.ref C)
  mkr : Mk K C fi
  Gi : FnR P w K mg base CX0 3 fi (spLin C)
  cr : ClX.CRead K C (.type "type")
  cm : ClX.CMet K C (.type "type") "of" po go
  Gof : FnR P w K mg base CX0 5 go (spLof K C)
  mo : Meth K C "canonical_of" fo
  Go : FnOk P w K mg base CX0 3 fo fdo ["self", "values"] (spLcanof K C)
  bo : Binds K fdo ["self", "values"] []
  mn : Meth K C "canonical" fn
  Gn : FnR P w K mg base CX0 4 fn (spLcan K C)
  ml : Meth K C "are_alike" fl
  Gl : FnOk P w K mg base CX0 3 fl fdl ["self", "one", "other"] (spLalike K C)
  bl : Binds K fdl ["self", "one", "other"] []
end LN

set_option Elab.async false
set_option maxRecDepth 100000
set_option maxHeartbeats 2000000
set_option linter.all false
set_option pp.maxSteps 200
namespace LN
open PySem PySem.Spec PyProof.Rows L2 XG XV XL
theorem pe_methR0 {X : Cx} {CX : CXT} {k : Nat} {C f : Addr} {m : Str} {sp : Sp} {E : XK} {o : Expr} {ta : TE} {apos pos : Pos} {pl : Sem Bool} (he : PE X o ta) (c : Cls X.K C) (hm : Meth X.K C m f) (F : FnR X.prog X.w X.K X.mg X.base CX k f sp) (hr : Room k X.A) (hx : Passes CX X E)
    (ht : eval (.Call (.Attribute o m apos) [] [] pos) X.env = (do let ov ← eval o X.env; standAt apos.atName; let (f, first) ← holding [ov] (getMethod ov m pl); callWith pos f first (backTo pos (starEach [] X.env)) (backToKw pos (keywordEach [] X.env))) := by rfl) :
    PE X (.Call (.Attribute o m apos) [] [] pos) (tMethR C m sp E ta tNil) := by
  refine ⟨fun pins s σ H Q I0 h0 => PySem.W.methodCall_KW (pl := pl) (thn (he.run pins s σ H _ I0 h0) fun u s1 ⟨x, H1, I1, rx, a, dx, fs, ex, ea, l, q⟩ => ?_) ht⟩
  subst ex
  obtain rfl : u = Value.ref a := rx
  exact getmeth_ok I1 ea c hm l (PySem.W.callWith_K0 (first := [.ref a]) I1.kIn hm.kp (wpAny_call (run_fnR (us := [.ref a]) (vs := [.ref a]) F hr hx I1 (.cons rfl .nil) q)))
section
variable {P : Program} {w : World} {K : PySem.W.Frag} {mg : Str → Option Value} {base : Heap} {C fi po go fo fn fl : Addr} {fdo fdl : FuncData}
theorem sqT_go {a p : Addr} {H H' : Hp} {xs : List V} (d : Dice H a) (x : But a H H') (h : SqT K H p xs) : SqT K H' p xs := by
  obtain ⟨g1, g2, g3, e⟩ := d
  rcases h with (h | ⟨o, h⟩) | h
  · exact .inl (.inl (x _ _ (fun z => by rw [z, e] at h; cases h) h))
  · exact .inl (.inr ⟨o, x _ _ (fun z => by rw [z, e] at h; cases h) h⟩)
  · exact .inr h
theorem lineAt_go {a b : Addr} {H H' : Hp} {ws : List Int} (d : Dice H a) (x : But a H H') (h : LineAt K C H b ws) : LineAt K C H' b ws := by
  obtain ⟨dx, g, h1, h2⟩ := h
  refine ⟨dx, g, x _ _ (fun z => ?_) h1, sqT_go d x h2⟩
  obtain ⟨g1, g2, g3, e⟩ := d
  rw [z, e] at h1
  cases h1
section
variable {σ : L2.St} {H : Hp} {ta tb tc te tf : TE} {tr : TA} {E : XK}
theorem ev_lenTI {ws : List Int} {p : Addr} (ha : Evl.Ev te σ H (.ref p)) (h : SqT K H p (ws.map V.int)) : Evl.Ev (tCB (Evl.rLenS K) (tCons te tNil)) σ H (.int (ws.length : Int)) := by
  have z := ev_lenT (K := K) ha h
  rw [List.length_map] at z
  exact z
theorem evp_canof {al : Addr} {ws xs low : List Int} (hf : Evl.Ev tf σ H (.ref al)) (hl : LineAt K C H al ws) (up : ws.Pairwise (· < ·)) (ht : EvP te σ H (TupAt K xs)) (hx : xs.length ≤ 50) (A : Asc (xs ++ ws) low) : EvP (tMeth C "canonical_of" (spLcanof K C) [] E tf (tCons te tNil)) σ H (TupAt K (canL ws low xs)) := fun H1 e Q q =>
  hf H1 e _ fun H2 e2 => by
    have E2 := e.trans e2
    obtain ⟨dx, g, h1, h2⟩ := hl
    exact ⟨al, dx, _, rfl, E2 _ _ h1, rfl, ht H2 E2 _ fun v H3 e3 ⟨p, ev, hp⟩ => ⟨al, p, ws, xs, low, by rw [ev]; rfl, ⟨dx, g, (E2.trans e3) _ _ h1, Evl.ex_t (E2.trans e3) h2⟩, up, hp, hx, A, fun t H' e4 h4 => q _ _ ((e2.trans e3).trans e4) ⟨t, rfl, h4⟩⟩⟩
theorem ev_alike {al p r : Addr} {ws xs ys : List Int} (hf : Evl.Ev tf σ H (.ref al)) (hl : LineAt K C H al ws) (ha : Evl.Ev ta σ H (.ref p)) (hb : Evl.Ev tb σ H (.ref r)) (hp : SqT K H p (xs.map V.int)) (hq : SqT K H r (ys.map V.int)) (hx : xs.length ≤ 20) (hy : ys.length ≤ 20) (hw : ws.length ≤ 20) :
    Evl.Ev (tMeth C "are_alike" (spLalike K C) [] E tf (tCons ta (tCons tb tNil))) σ H (.bl (simB ws xs ys)) := fun H1 e Q q =>
  hf H1 e _ fun H2 e2 => by
    have E2 := e.trans e2
    obtain ⟨dx, g, h1, h2⟩ := hl
    exact ⟨al, dx, _, rfl, E2 _ _ h1, rfl, ha H2 E2 _ fun H3 e3 => hb H3 (E2.trans e3) _ fun H4 e4 => ⟨al, p, r, ws, xs, ys, rfl, ⟨dx, g, ((E2.trans e3).trans e4) _ _ h1, Evl.ex_t ((E2.trans e3).trans e4) h2⟩, Evl.ex_t ((E2.trans e3).trans e4) hp, Evl.ex_t ((E2.trans e3).trans e4) hq, hx, hy, hw, fun H5 e5 => q H5 (((e2.trans e3).trans e4).trans e5)⟩⟩
theorem evp_canon {l p : Addr} {ws xs low : List Int} (ha : Evl.Ev ta σ H (.ref l)) (hb : Evl.Ev tb σ H (.ref p)) (hl : H l = some (.lst (ws.map V.int))) (up : ws.Pairwise (· < ·)) (hz : ws.length ≤ 20) (hp : SqT K H p (xs.map V.int)) (hx : xs.length ≤ 20) (A : Asc (xs ++ ws) low) : EvP (tCall (spCanon K) [] E (tCons ta (tCons tb tNil))) σ H (TupAt K (canL ws low xs)) := fun H1 e Q q =>
  ha H1 e _ fun H2 e2 => hb H2 (e.trans e2) _ fun H3 e3 => ⟨l, p, ws, xs, low, rfl, ((e.trans e2).trans e3) _ _ hl, up, hz, Evl.ex_t ((e.trans e2).trans e3) hp, hx, A, fun t H' e4 h4 => q _ _ ((e2.trans e3).trans e4) ⟨t, rfl, h4⟩⟩
def MatAt (K : PySem.W.Frag) (M : List (List Int)) : V → Hp → Prop := fun v H => Dp K H v (matD M)
theorem stays_mat {M : List (List Int)} : Stays (MatAt K M) := fun v H H' e h => dp_mono e h
theorem evp_order {l p : Addr} {ws xs : List Int} (ha : Evl.Ev ta σ H (.ref l)) (hb : Evl.Ev tb σ H (.ref p)) (hl : H l = some (.lst (ws.map V.int))) (hp : SqT K H p (xs.map V.int)) (hz : ws.length ≤ 40) (hx : xs.length ≤ 40) : EvP (tCall (spOrder K) [] E (tCons ta (tCons tb tNil))) σ H (MatAt K (ordM ws xs)) := fun H1 e Q q =>
  ha H1 e _ fun H2 e2 => hb H2 (e.trans e2) _ fun H3 e3 => ⟨l, p, ws, xs, rfl, ((e.trans e2).trans e3) _ _ hl, Evl.ex_t ((e.trans e2).trans e3) hp, hz, hx, fun v H' e4 h => q v H' ((e2.trans e3).trans e4) h⟩
theorem evp_neM {M N : List (List Int)} (ha : EvP ta σ H (MatAt K M)) (hb : EvP tb σ H (MatAt K N)) : EvP (tOp (rNeD K) ta tb) σ H (fun v _ => v = .bl (!decide (M = N))) :=
  evp_op ha stays_mat hb fun x y H1 e h1 h2 Q q => ⟨_, _, h1, h2, shaped_mat M, shaped_mat N, q _ H1 (Evl.Ex.refl _) (by
    show V.bl (!PyData.eqvAll (M.map rowD) (N.map rowD)) = _
    rw [eqv_rows])⟩
theorem evp_eqM {M N : List (List Int)} (ha : EvP ta σ H (MatAt K M)) (hb : EvP tb σ H (MatAt K N)) : EvP (tOp (rEqD K) ta tb) σ H (fun v _ => v = .bl (decide (M = N))) :=
  evp_op ha stays_mat hb fun x y H1 e h1 h2 Q q => ⟨_, _, h1, h2, shaped_mat M, shaped_mat N, q _ H1 (Evl.Ex.refl _) (by
    show V.bl (PyData.eqvAll (M.map rowD) (N.map rowD)) = _
    rw [eqv_rows])⟩
end
theorem q_par {i j : Nat} {ta : TA} {tz : TS} {D : Ends} {σ : L2.St} {H : Hp} (h : ta σ H fun vs H1 => ∃ v w, vs = [v, w] ∧ tz D ((σ.set i (some v)).set j (some w)) H1) : tSeq (tPar i j ta) tz D σ H := h
def spRight : Sp := fun vs H Q _ => ∃ a : Addr, vs = [.ref a] ∧ Dice H a ∧ ∀ H' : Hp, Go a H H' → Q (.bl true) H'
theorem scRight : FnScope ["dice", "given", "line", "kept", "rows", "turn", "values", "due", "one", "other"] ["dice"] (defScope sRight) := ⟨rfl, rfl, rfl, by decide +kernel, rfl, by decide +kernel, by decide +kernel⟩
theorem okRight {f f1 f2 f3 f4 f5 f6 f7 f8 : Addr} {fd fd1 fd2 fd3 fd4 fd5 fd6 fd7 fd8 : FuncData} (F : Fun K "_law_right" "_law_right" sRight f fd) (T : Bt mg) (L : LP P w K mg base C fi po go fo fn fl fdo fdl)
    (D_law_pull : Dn K mg "_law_pull" sPull f1 fd1 ["dice", "total"]) (D_law_pick : Dn K mg "_law_pick" sPick f2 fd2 ["dice", "items"]) (D_law_given : Dn K mg "_law_given" sGiven f3 fd3 ["dice"]) (D_law_values : Dn K mg "_law_values" sValues f4 fd4 ["dice", "given"]) (D_law_place : Dn K mg "_law_place" sPlace f5 fd5 ["given", "number"])
    (D_law_canonical : Dn K mg "_law_canonical" sCanon f6 fd6 ["given", "values"]) (D_law_order : Dn K mg "_law_order" sOrder f7 fd7 ["given", "values"]) (D_law_moved : Dn K mg "_law_moved" sMoved f8 fd8 ["dice", "given", "values"]) : FnG P w K mg base CX0 6 f fd ["dice"] spRight := by
  have G_law_given : FnOk P w K mg base CX0 3 f3 fd3 ["dice"] spGiven := okGiven D_law_given.F T D_law_pull D_law_pick
  have G_law_values : FnOk P w K mg base CX0 3 f4 fd4 ["dice", "given"] spValues := okValues D_law_values.F T D_law_pull D_law_pick
  have G_law_canonical : FnOk P w K mg base CX0 2 f6 fd6 ["given", "values"] (spCanon K) := okCanon D_law_canonical.F T D_law_place
  have G_law_order : FnOk P w K mg base CX0 1 f7 fd7 ["given", "values"] (spOrder K) := okOrder D_law_order.F T
  have G_law_moved : FnOk P w K mg base CX0 3 f8 fd8 ["dice", "given", "values"] (spMoved K) := okMoved D_law_moved.F T D_law_pull D_law_pick D_law_place
  refine okG F scRight (fun vs H Q E h => ?_) (fun cdv A outer s H vs Q E hg hr h => ?_)
  · obtain ⟨a, rfl, _⟩ := h
    rfl
  · obtain ⟨a, rfl, hd, k⟩ := h
    have hr1 : Room 1 _ := hr.mono (by decide)
    have hr2 : Room 2 _ := hr.mono (by decide)
    have hr3 : Room 3 _ := hr.mono (by decide)
    have hG := (deeper_guards A (envOfC "_law_right" (defScope sRight) s.heap.objs.size f cdv)).trans hg
    refine ⟨_, (pss_cons (ps_set (i := 1) scRight.nd rfl (Or.inr rfl) (pe_call G_law_given hr3 rfl D_law_given.m D_law_given.F.kp D_law_given.b .nil pass0 (pa_cons (pv 0) pa_nil)))
  (pss_cons (ps_par rfl scRight.nd (i := 2) (j := 3) rfl rfl (by decide) rfl rfl (pa_cons (ClX.pe_cmeth (pe_cls (by rfl) L.ln) L.cr L.cm L.Gof hr pass0 (pa_cons (pe_callTy call_tuple_of (by rfl) T.tuple (by decide +kernel) (pa_cons (pv 1) pa_nil)) pa_nil)) (pa_cons (pe_callB (call_reprT hG hr) (by rfl) T.repr (by decide +kernel) (pa_cons (pv 1) pa_nil)) pa_nil)) (by rfl))
  (pss_cons (ps_setLc (i := 4) (own := [("turn", 5)]) (g := gName 5) (tt := tYes) rfl scRight.nd rfl rfl (sw_true rfl rfl rfl (by decide +kernel)) (pi_range1 (by rfl) T.range (pa_cons pe_int pa_nil)) (blkOk_by (own := [("turn", 5)]) (N := ["dice", "given", "line", "kept", "rows", "turn", "values", "due", "one", "other"]) (sc := defScope sRight) (by decide +kernel)) (fun _ _ _ _ _ => (pg_name (i := 5) scRight.nd rfl (Or.inl rfl))) (fun _ _ _ _ _ => pts_nil) (fun _ _ _ _ _ => (pe_call G_law_values hr3 rfl D_law_values.m D_law_values.F.kp D_law_values.b .nil pass0 (pa_cons (pv 0) (pa_cons (pv 1) pa_nil)))))
  (pss_cons (ps_set (i := 4) scRight.nd rfl (Or.inl rfl) (pe_op op_cat (pv 4) (pe_lc (own := [("values", 6)]) (g := gName 6) (tt := tYes) rfl scRight.nd (pi_list (pv 4)) (blkOk_by (own := [("values", 6)]) (N := ["dice", "given", "line", "kept", "rows", "turn", "values", "due", "one", "other"]) (sc := defScope sRight) (by decide +kernel)) (fun _ _ _ _ _ => (pg_name (i := 6) scRight.nd rfl (Or.inl rfl))) (fun _ _ _ _ _ => pts_nil) (fun _ _ _ _ _ => (pe_call G_law_moved hr3 rfl D_law_moved.m D_law_moved.F.kp D_law_moved.b .nil pass0 (pa_cons (pv 0) (pa_cons (pv 1) (pa_cons (pv 6) pa_nil))))))))
  (pss_cons (ps_for PassesOwn.never rfl (pi_list (pv 4)) (pg_name (i := 6) scRight.nd rfl (Or.inl rfl)) (pss_cons (ps_set (i := 7) scRight.nd rfl (Or.inl rfl) (pe_call G_law_canonical hr2 rfl D_law_canonical.m D_law_canonical.F.kp D_law_canonical.b .nil pass0 (pa_cons (pv 1) (pa_cons (pv 6) pa_nil))))
  (pss_cons (ps_if (PW.pt (pw_or (pt_cmpR op_ne (pe_callB (call_reprT hG hr) (by rfl) T.repr (by decide +kernel) (pa_cons (pe_meth (pv 2) L.c.cl L.mo L.Go hr3 L.bo .nil pass0 (pa_cons (pv 6) pa_nil)) pa_nil)) (pe_callB (call_reprT hG hr) (by rfl) T.repr (by decide +kernel) (pa_cons (pv 7) pa_nil)) (nomark _)) (pw_or1 (pt_cmpR (op_neD hr.units) (pe_meth (pv 2) L.c.cl L.mo L.Go hr3 L.bo .nil pass0 (pa_cons (pv 7) pa_nil)) (pv 7) (nomark _))))) (pss_one (ps_ret pe_bl)) pss_nil)
  (pss_one (ps_if (PW.pt (pw_or (pt_not (pt_val (pe_meth (pv 2) L.c.cl L.ml L.Gl hr3 L.bl .nil pass0 (pa_cons (pv 6) (pa_cons (pv 7) pa_nil))))) (pw_or1 (pt_cmpR (op_neD hr.units) (pe_call G_law_order hr1 rfl D_law_order.m D_law_order.F.kp D_law_order.b .nil pass0 (pa_cons (pv 1) (pa_cons (pv 6) pa_nil))) (pe_call G_law_order hr1 rfl D_law_order.m D_law_order.F.kp D_law_order.b .nil pass0 (pa_cons (pv 1) (pa_cons (pv 7) pa_nil))) (nomark _))))) (pss_one (ps_ret pe_bl)) pss_nil)))))
  (pss_cons (ps_for PassesOwn.never rfl (pi_list (pv 4)) (pg_name (i := 8) scRight.nd rfl (Or.inl rfl)) (pss_one (ps_for PassesOwn.never rfl (pi_list (pv 4)) (pg_name (i := 9) scRight.nd rfl (Or.inl rfl)) (pss_cons (ps_set (i := 7) scRight.nd rfl (Or.inl rfl) (pe_and (pe_cmpR op_eq (pe_callB call_len_seq (by rfl) T.len (by decide +kernel) (pa_cons (pv 8) pa_nil)) (pe_callB call_len_seq (by rfl) T.len (by decide +kernel) (pa_cons (pv 9) pa_nil)) (nomark _)) (pe_one (pe_cmpR (op_eqD hr.units) (pe_call G_law_order hr1 rfl D_law_order.m D_law_order.F.kp D_law_order.b .nil pass0 (pa_cons (pv 1) (pa_cons (pv 8) pa_nil))) (pe_call G_law_order hr1 rfl D_law_order.m D_law_order.F.kp D_law_order.b .nil pass0 (pa_cons (pv 1) (pa_cons (pv 9) pa_nil))) (nomark _)))))
  (pss_cons (ps_if (pt_cmpR op_ne (pe_callB (call_reprT hG hr) (by rfl) T.repr (by decide +kernel) (pa_cons (pe_meth (pv 2) L.c.cl L.ml L.Gl hr3 L.bl .nil pass0 (pa_cons (pv 8) (pa_cons (pv 9) pa_nil))) pa_nil)) (pe_callB (call_reprT hG hr) (by rfl) T.repr (by decide +kernel) (pa_cons (pv 7) pa_nil)) (nomark _)) (pss_one (ps_ret pe_bl)) pss_nil)
  (pss_one (ps_if (PW.pt (pw_and (pt_cmpR op_eq (pe_callB call_len_seq (by rfl) T.len (by decide +kernel) (pa_cons (pv 8) pa_nil)) (pe_callB call_len_seq (by rfl) T.len (by decide +kernel) (pa_cons (pv 9) pa_nil)) (nomark _)) (pw_and1 (pt_cmpR op_ne (pe_cmpR (op_eqD hr.units) (pe_meth (pv 2) L.c.cl L.mo L.Go hr3 L.bo .nil pass0 (pa_cons (pv 8) pa_nil)) (pe_meth (pv 2) L.c.cl L.mo L.Go hr3 L.bo .nil pass0 (pa_cons (pv 9) pa_nil)) (nomark _)) (pv 7) (nomark _))))) (pss_one (ps_ret pe_bl)) pss_nil)))))))
  (pss_one (ps_ret (pe_cmpR op_eq (pe_callB (call_reprT hG hr) (by rfl) T.repr (by decide +kernel) (pa_cons (pv 1) pa_nil)) (pv 3) (nomark _)))))))))), ?_⟩
    refine q_asgR ⟨_, rfl, a, rfl, hd, fun l ws H1 n1 h1 up z1 b1 x1 => ?_⟩
    have la : l ≠ a := hd.ne n1
    have lg : ∀ z ∈ ws, z.natAbs.log2 < 140 := fun z hz => bd_log (by decide) (b1 z hz)
    obtain ⟨ok1, ok2, ok3⟩ := list_ok lg (by omega)
    -- the line, and what is kept
    refine q_par ?_
    refine (evp_of (C := C) (K := K) (ns := ws) Evl.ev_c (evp_tupL (Evl.ev_var rfl) (SqL.of h1)) (by omega)) H1 (Evl.Ex.refl _) _ fun v1 H2 e2 p1 => ?_
    obtain ⟨al, rfl, LA⟩ := p1.atl ⟨up, fun k => Iff.rfl⟩
    refine (ev_reprT (d := .list (ws.map PyData.int)) (fun H3 e Q q => ⟨_, rfl, q _ H3 (Evl.Ex.refl _) (.lst (e _ _ (e2 _ _ h1)) (repT_ints ws H3))⟩) ok1 ok2 ok3) H2 (Evl.Ex.refl _) _ fun H3 e3 => ⟨_, _, rfl, ?_⟩
    generalize hkt : (PyData.list (ws.map PyData.int)).shown = kt
    have x3 : Go a H H3 := (x1.ex e2).ex e3
    have LA := LA.ex e3
    have hl3 := (e2.trans e3) _ _ h1
    -- four tuples
    refine q_asgR ⟨_, rfl, by decide, by decide, fun R hR => ?_⟩
    have Ra : R ≠ a := x3.d.ne hR
    refine lc_range (lo := 0) (n := 4) (fun i H' => ∃ (M : List (List Int)) (vs : List V), Go a H3 H' ∧ H' R = some (.lst vs) ∧ TupsAt M vs H' ∧ M.length = i ∧ (∀ xs ∈ M, xs.length ≤ 5 ∧ ∀ z ∈ xs, Bd 8 z) ∧ H' l = some (.lst (ws.map V.int))) ?_ ?_ ?_
    · exact ⟨[], [], (Go.refl x3.d).new hR, upd_same, rfl, rfl, fun xs h => (nomatch h), (Evl.Ex.new hR) _ _ hl3⟩
    · rintro i H' hi ⟨M, vs, xg, hV, hT, hM, hB, hl'⟩
      refine ⟨rfl, _, rfl, _, rfl, a, l, ws, rfl, xg.d, la, hl', z1, b1, fun t xs H4 nt ht hx hb x4 => ⟨_, x4.b _ _ Ra hV, ?_, M ++ [xs], vs ++ [.ref t], ?_, upd_same, ?_, by rw [List.length_append, hM]; rfl, fun ys hy => ?_, ?_⟩⟩
      · rw [tups_len hT, sizeLine_eq]
        omega
      · exact ⟨but_upd2 (xg.trans x4).b hR, by
          obtain ⟨g1, g2, g3, e⟩ := x4.d
          exact ⟨g1, g2, g3, by rw [upd_ne (Ne.symm Ra)]; exact e⟩⟩
      · exact tups_keep (upd_keep (x4.b _ _ Ra hV)) (tups_snoc ht (tups_keep (go_keep xg.d x4) hT))
      · rcases List.mem_append.mp hy with m | m
        · exact hB ys m
        · rw [List.mem_singleton.mp m]
          exact ⟨hx, hb⟩
      · rw [upd_ne (ne_of_none hl3 hR)]
        exact x4.b _ _ la hl'
    rintro H4 ⟨M, vs, x4, hV, hT, hM, hB, hl4⟩
    -- and the moved ones
    refine q_asgR ⟨_, rfl, _, rfl, R, rfl, ⟨_, SqL.of hV⟩, fun D2 hD2 => ?_⟩
    have Da : D2 ≠ a := x4.d.ne hD2
    have vl := tups_len hT
    refine lc_list (xs := vs) (fun i H' => ∃ (M2 : List (List Int)) (vs2 : List V), Go a H4 H' ∧ H' R = some (.lst vs) ∧ TupsAt M vs H' ∧ H' D2 = some (.lst vs2) ∧ TupsAt M2 vs2 H' ∧ M2.length = i ∧ (∀ xs ∈ M2, xs.length ≤ 5 ∧ ∀ z ∈ xs, Bd 9 z) ∧ H' l = some (.lst (ws.map V.int)) ∧ i ≤ vs.length) ?_ ?_ ?_ ?_
    · exact ⟨[], [], (Go.refl x4.d).new hD2, (Evl.Ex.new hD2) _ _ hV, tups_keep (fun b xs e => (Evl.Ex.new hD2) _ _ e) hT, upd_same, rfl, rfl, fun xs h => (nomatch h), (Evl.Ex.new hD2) _ _ hl4, Nat.zero_le _⟩
    · rintro i H' _ ⟨M2, vs2, xg, hV', _⟩
      exact SqL.of hV'
    · rintro i x H' hx ⟨M2, vs2, xg, hV', hT', hV2, hT2, hM2, hB2, hl', _⟩
      have lt := (List.getElem?_eq_some_iff.mp hx).1
      obtain ⟨p, xs, hxs, rfl, hp⟩ := tups_get hT' hx
      obtain ⟨b5, b8⟩ := hB xs hxs
      refine ⟨rfl, _, rfl, _, rfl, _, rfl, a, l, p, ws, xs, rfl, xg.d, la, hl', z1, hp, b5, b8, fun t ys H5 nt ht hy hb x5 => ⟨_, x5.b _ _ Da hV2, ?_, M2 ++ [ys], vs2 ++ [.ref t], ?_, ?_, ?_, upd_same, ?_, by rw [List.length_append, hM2]; rfl, fun zs hz => ?_, ?_, lt⟩⟩
      · rw [tups_len hT2, sizeLine_eq]
        omega
      · exact ⟨but_upd2 (xg.trans x5).b hD2, by
          obtain ⟨g1, g2, g3, e⟩ := x5.d
          exact ⟨g1, g2, g3, by rw [upd_ne (Ne.symm Da)]; exact e⟩⟩
      · rw [upd_ne (ne_of_none hV hD2)]
        exact x5.b _ _ Ra hV'
      · exact tups_keep (upd_keep (x5.b _ _ Da hV2)) (tups_keep (go_keep xg.d x5) hT')
      · exact tups_keep (upd_keep (x5.b _ _ Da hV2)) (tups_snoc ht (tups_keep (go_keep xg.d x5) hT2))
      · rcases List.mem_append.mp hz with m | m
        · exact hB2 zs m
        · rw [List.mem_singleton.mp m]
          exact ⟨hy, hb⟩
      · rw [upd_ne (ne_of_none hl4 hD2)]
        exact x5.b _ _ la hl'
    rintro H5 ⟨M2, vs2, x5, hV5, hT5, hV2, hT2, hM2, hB2, hl5, _⟩
    have vl2 := tups_len hT2
    refine ⟨R, D2, _, _, rfl, rfl, hV5, hV2, by rw [vl, vl2, hM, hM2, vl, hM, sizeLine_eq]; decide, fun rw_ hrw => ?_⟩
    have e6 := Evl.Ex.new (o := .lst (vs ++ vs2)) hrw
    have hR6 : (upd H5 rw_ (.lst (vs ++ vs2))) rw_ = some (.lst (vs ++ vs2)) := upd_same
    have hT6 : TupsAt (M ++ M2) (vs ++ vs2) (upd H5 rw_ (.lst (vs ++ vs2))) := tups_keep (fun b xs e => e6 _ _ e) (tups_app hT5 hT2)
    have hB6 : ∀ xs ∈ M ++ M2, xs.length ≤ 5 := fun xs hx => by
      rcases List.mem_append.mp hx with m | m
      · exact (hB xs m).1
      · exact (hB2 xs m).1
    have LA6 := (lineAt_go x3.d (x4.trans x5).b LA).ex e6
    have hl6 := e6 _ _ hl5
    have x6 : Go a H (upd H5 rw_ (.lst (vs ++ vs2))) := ((x3.trans x4).trans x5).ex e6
    generalize hH6 : upd H5 rw_ (.lst (vs ++ vs2)) = H6 at hR6 hT6 LA6 hl6 x6 e6 ⊢
    generalize hMM : M ++ M2 = MM at hT6 hB6
    generalize hVV : vs ++ vs2 = VV at hR6 hT6
    refine Evl.q_forLn (xs := VV) (Evl.ev_var rfl) (SqL.of hR6) (fun i σ' H' => Evl.Ex H6 H' ∧ ∃ u6 u7, σ' = [some (.ref a), some (.ref l), some (.ref al), some (.str kt), some (.ref rw_), none, u6, u7, none, none]) (fun H7 e7 => ⟨e7, none, none, rfl⟩) ?_ ?_ ?_
    · rintro i σ' H' _ ⟨ex, _⟩
      exact SqL.of (ex _ _ hR6)
    · rintro i x σ' H' hx ⟨ex, u6, u7, rfl⟩
      obtain ⟨p, xs, hxs, rfl, hp⟩ := tups_get hT6 hx
      have b5 := hB6 xs hxs
      obtain ⟨low, A⟩ := asc_ex (xs ++ ws)
      have lw : (xs ++ ws).length ≤ 10 := by rw [List.length_append]; omega
      have ll : low.length ≤ 100 := Nat.le_trans (nodup_len A.up fun k hk => (A.mem k).mp hk) (by omega)
      have hp' := SqT.of (K := K) (ex _ _ hp)
      have hl' := ex _ _ hl6
      have LA' := LA6.ex ex
      refine q_asgP (evp_canon (Evl.ev_var rfl) (Evl.ev_var rfl) hl' up (by omega) hp' (by omega) A) fun v H7 e7 pv7 => ?_
      obtain ⟨d, rfl, hd7⟩ := pv7
      have cl : (canL ws low xs).length ≤ 5 := by rw [canL_len]; exact b5
      have clg : ∀ z ∈ canL ws low xs, z.natAbs.log2 < 140 := fun z hz => by
        obtain ⟨y, _, rfl⟩ := List.mem_map.mp hz
        exact bd_log (by decide) (can_bd up b1 ll)
      obtain ⟨t1, t2, t3⟩ := tup_ok clg (by omega)
      obtain ⟨low2, A2⟩ := asc_ex (canL ws low xs ++ ws)
      have hp7 := Evl.ex_t e7 hp'
      have LA7 := LA'.ex e7
      refine Evl.q_when (b := false) (Evl.et_is (Evl.et_or (a := false) (b := false) (Evl.et_test (Evl.ev_is (Evl.ev_op (ev_reprT ((evp_canof (Evl.ev_var rfl) LA7 up (evp_tupV hp7 rfl) (by omega) A).imp fun v H1 _ p => p.rep) t1 t2 t3) (ev_reprT ((evp_tupV hd7 rfl).imp fun v H1 _ p => p.rep) t1 t2 t3) (Evl.rv_ne rfl)) (by simp)))
        (fun _ => et_bl ((evp_neT (evp_canof (Evl.ev_var rfl) LA7 up (evp_tupV hd7 rfl) (by omega) A2) (evp_tupV hd7 rfl)).imp fun v H1 _ e => e.trans (by rw [canL_stay up A A2]; simp)))) rfl) (fun h => nomatch h) (fun _ H8 e8 => ?_)
      have LA8 := LA7.ex e8
      have hl8 := (e7.trans e8) _ _ hl'
      have oeq : ordM ws xs = ordM ws (canL ws low xs) := (ord_iff canL_len.symm).mpr (canL_sim up A)
      refine Evl.s_when (b := false) (Evl.et_is (Evl.et_or (a := false) (b := false) (Evl.et_is (Evl.et_not (a := true) (Evl.et_B (Evl.ev_is (ev_alike (Evl.ev_var rfl) LA8 (Evl.ev_var rfl) (Evl.ev_var rfl) (Evl.ex_t e8 hp7) (Evl.ex_t e8 hd7) (by omega) (by omega) (by omega)) (congrArg V.bl (simB_can up A))))) rfl)
        (fun _ => et_bl ((evp_neM (evp_order (Evl.ev_var rfl) (Evl.ev_var rfl) hl8 (Evl.ex_t e8 hp7) (by omega) (by omega)) (evp_order (Evl.ev_var rfl) (Evl.ev_var rfl) hl8 (Evl.ex_t e8 hd7) (by omega) (by omega))).imp fun v H1 _ e => e.trans (by rw [oeq]; simp)))) rfl) (fun h => nomatch h) (fun _ H9 e9 => ⟨((ex.trans e7).trans e8).trans e9, _, _, rfl⟩)
    rintro σ' H7 ⟨e7, u6, u7, rfl⟩
    have hR7 := e7 _ _ hR6
    have hT7 := tups_keep (fun b xs e => e7 _ _ e) hT6
    have LA7 := LA6.ex e7
    have hl7 := e7 _ _ hl6
    refine Evl.q_forLn (xs := VV) (Evl.ev_var rfl) (SqL.of hR7) (fun i σ' H' => Evl.Ex H7 H' ∧ ∃ u7 u8 u9, σ' = [some (.ref a), some (.ref l), some (.ref al), some (.str kt), some (.ref rw_), none, u6, u7, u8, u9]) (fun H8 e8 => ⟨e8, _, _, _, rfl⟩) ?_ ?_ ?_
    · rintro i σ' H' _ ⟨ex, _⟩
      exact SqL.of (ex _ _ hR7)
    · rintro i x σ' H' hx ⟨ex, u7, u8, u9, rfl⟩
      obtain ⟨p, xs, hxs, rfl, hp⟩ := tups_get hT7 hx
      have b5 := hB6 xs hxs
      refine Evl.s_forL (g := gName 9) (xs := VV) (Evl.ev_var rfl) (SqL.of (ex _ _ hR7)) (fun j σ2 H2 => Evl.Ex H' H2 ∧ ∃ u7 u9, σ2 = [some (.ref a), some (.ref l), some (.ref al), some (.str kt), some (.ref rw_), none, u6, u7, some (.ref p), u9]) (fun H8 e8 => ⟨e8, _, _, rfl⟩) ?_ ?_ ?_
      · rintro j σ2 H2 _ ⟨ex2, _⟩
        exact SqL.of ((ex.trans ex2) _ _ hR7)
      · rintro j y σ2 H2 hy ⟨ex2, u7', u9', rfl⟩
        obtain ⟨r, ys, hys, rfl, hq⟩ := tups_get hT7 hy
        have c5 := hB6 ys hys
        have E2 := ex.trans ex2
        have hp2 := SqT.of (K := K) (E2 _ _ hp)
        have hq2 := SqT.of (K := K) (E2 _ _ hq)
        have hl2 := E2 _ _ hl7
        have LA2 := LA7.ex E2
        obtain ⟨low, A⟩ := asc_ex (xs ++ ws)
        obtain ⟨low2, A2⟩ := asc_ex (ys ++ ws)
        refine g_name (Evl.q_asg (v := .bl (simB ws xs ys)) (Evl.ev_andV (a := decide (xs.length = ys.length)) (b := decide (ordM ws xs = ordM ws ys)) (Evl.ev_is (Evl.ev_op (ev_lenTI (Evl.ev_var rfl) hp2) (ev_lenTI (Evl.ev_var rfl) hq2) (Evl.rv_eq rfl)) (congrArg V.bl dec_nat)) fun _ => EvP.to (evp_eqM (evp_order (Evl.ev_var rfl) (Evl.ev_var rfl) hl2 hp2 (by omega) (by omega)) (evp_order (Evl.ev_var rfl) (Evl.ev_var rfl) hl2 hq2 (by omega) (by omega)))) fun H8 e8 => ?_)
        have hp8 := Evl.ex_t e8 hp2
        have hq8 := Evl.ex_t e8 hq2
        have LA8 := LA2.ex e8
        refine Evl.q_when (b := false) (Evl.et_test (Evl.ev_is (Evl.ev_op (ev_reprB (ev_alike (Evl.ev_var rfl) LA8 (Evl.ev_var rfl) (Evl.ev_var rfl) hp8 hq8 (by omega) (by omega) (by omega))) (ev_reprB (Evl.ev_var rfl)) (Evl.rv_ne rfl)) (by simp))) (fun h => nomatch h) (fun _ H9 e9 => ?_)
        have hp9 := Evl.ex_t e9 hp8
        have hq9 := Evl.ex_t e9 hq8
        have LA9 := LA8.ex e9
        refine Evl.s_when (b := false) (Evl.et_is (Evl.et_and (a := decide (xs.length = ys.length)) (b := false) (Evl.et_test (Evl.ev_is (Evl.ev_op (ev_lenTI (Evl.ev_var rfl) hp9) (ev_lenTI (Evl.ev_var rfl) hq9) (Evl.rv_eq rfl)) (congrArg V.bl dec_nat))) fun hc => Evl.et_test (Evl.ev_is (Evl.ev_op (EvP.to (evp_eqT (evp_canof (Evl.ev_var rfl) LA9 up (evp_tupV hp9 rfl) (by omega) A) (evp_canof (Evl.ev_var rfl) LA9 up (evp_tupV hq9 rfl) (by omega) A2))) (Evl.ev_var rfl) (Evl.rv_ne rfl)) ?_)) (Bool.and_false _)) (fun h => nomatch h) (fun _ H10 e10 => ⟨((ex2.trans e8).trans e9).trans e10, _, _, rfl⟩)
        rw [simB_eq up (of_decide_eq_true hc) A A2]
        simp
      · rintro σ2 H2 ⟨ex2, u7', u9', rfl⟩
        exact ⟨ex.trans ex2, _, _, _, rfl⟩
    rintro σ' H8 ⟨e8, u7, u8, u9, rfl⟩
    refine Evl.s_ret (v := .bl true) (Evl.ev_is (Evl.ev_op (ev_reprT (d := .list (ws.map PyData.int)) (fun H3 e Q q => ⟨_, rfl, q _ H3 (Evl.Ex.refl _) (.lst (e _ _ (e8 _ _ hl7)) (repT_ints ws H3))⟩) ok1 ok2 ok3) (Evl.ev_var rfl) (Evl.rv_eq rfl)) (by rw [hkt]; simp)) fun H9 e9 => k _ (((x6.ex e7).ex e8).ex e9)
end
end LN

set_option Elab.async false
set_option maxRecDepth 100000
set_option maxHeartbeats 2000000
set_option linter.all false
set_option pp.maxSteps 200
namespace LN
open PySem PySem.Spec PyProof.Rows L2 XG XV XL
abbrev sLaw : Stmt := (top 22)
section
variable {P : Program} {w : World} {K : PySem.W.Frag} {mg : Str → Option Value} {base : Heap} {C fi po go fo fn fl : Addr} {fdo fdl : FuncData}
section
variable {X : Cx} {σ : L2.St} {H : Hp} {ta tb tc te tf : TE} {tr ts : TA} {E : XK}
theorem evp_can {al : Addr} {ws xs low : List Int} (hf : Evl.Ev tf σ H (.ref al)) (hl : LineAt K C H al ws) (up : ws.Pairwise (· < ·)) (ht : Evl.EvA tr σ H (xs.map V.int)) (hx : xs.length ≤ 50) (A : Asc (xs ++ ws) low) : EvP (tMethR C "canonical" (spLcan K C) E tf tr) σ H (TupAt K (canL ws low xs)) := fun H1 e Q q =>
  hf H1 e _ fun H2 e2 => by
    have E2 := e.trans e2
    obtain ⟨dx, g, h1, h2⟩ := hl
    exact ⟨al, dx, _, rfl, E2 _ _ h1, rfl, ht H2 E2 _ fun H3 e3 => ⟨al, ws, xs, low, rfl, ⟨dx, g, (E2.trans e3) _ _ h1, Evl.ex_t (E2.trans e3) h2⟩, up, hx, A, fun t H' e4 h4 => q _ _ ((e2.trans e3).trans e4) ⟨t, rfl, h4⟩⟩⟩
theorem ev_alikeU {al : Addr} {ws xs ys : List Int} (hf : Evl.Ev tf σ H (.ref al)) (hl : LineAt K C H al ws) (ha : Evl.EvU ta σ H (xs.map V.int)) (hb : Evl.EvU tb σ H (ys.map V.int)) (hx : xs.length ≤ 20) (hy : ys.length ≤ 20) (hw : ws.length ≤ 20) :
    Evl.Ev (tMeth C "are_alike" (spLalike K C) [] E tf (tCons ta (tCons tb tNil))) σ H (.bl (simB ws xs ys)) := fun H1 e Q q =>
  hf H1 e _ fun H2 e2 => by
    have E2 := e.trans e2
    obtain ⟨dx, g, h1, h2⟩ := hl
    exact ⟨al, dx, _, rfl, E2 _ _ h1, rfl, ha H2 E2 _ fun p H3 n3 e3 h3 => hb H3 (E2.trans e3) _ fun r H4 n4 e4 h4 => ⟨al, p, r, ws, xs, ys, rfl, ⟨dx, g, ((E2.trans e3).trans e4) _ _ h1, Evl.ex_t ((E2.trans e3).trans e4) h2⟩, SqT.of (e4 _ _ h3), SqT.of h4, hx, hy, hw, fun H5 e5 => q H5 (((e2.trans e3).trans e4).trans e5)⟩⟩
/-! lists of tuples -/
def TupsS (K : PySem.W.Frag) : List (List Int) → List V → Hp → Prop
  | [], vs, _ => vs = []
  | ns :: r, vs, H => ∃ v ws, vs = v :: ws ∧ TupAt K ns v H ∧ TupsS K r ws H
theorem tupsS_stays : ∀ r, Stays (TupsS K r)
  | [] => fun vs H H' _ h => h
  | ns :: r => fun vs H H' e ⟨v, ws, h1, h2, h3⟩ => ⟨v, ws, h1, stays_tup _ _ _ e h2, tupsS_stays r _ _ _ e h3⟩
theorem tupsS_len {H : Hp} : ∀ {r : List (List Int)} {vs : List V}, TupsS K r vs H → vs.length = r.length
  | [], _, h => by rw [show _ = [] from h] <;> rfl
  | ns :: r, _, ⟨v, ws, h1, _, h3⟩ => by rw [h1, List.length_cons, List.length_cons, tupsS_len h3]
theorem evpa_tups {ns : List Int} {r : List (List Int)} (h : EvP te σ H (TupAt K ns)) (hr : EvPA tr σ H (TupsS K r)) : EvPA (tCons te tr) σ H (TupsS K (ns :: r)) := evpa_cons h stays_tup hr
theorem tupsS_app {H : Hp} : ∀ {r r' : List (List Int)} {vs vs' : List V}, TupsS K r vs H → TupsS K r' vs' H → TupsS K (r ++ r') (vs ++ vs') H
  | [], _, _, _, z, h => by
    rw [show _ = [] from z]
    exact h
  | ms :: r, _, _, _, ⟨q, ws, h1, h3, h4⟩, h => by
    rw [h1]
    exact ⟨q, _, rfl, h3, tupsS_app h4 h⟩
def rowT (ns : List Int) : PyData := .tuple (ns.map PyData.int)
theorem tupsS_dp {H : Hp} : ∀ {r : List (List Int)} {vs : List V}, TupsS K r vs H → DpAll K H vs (r.map rowT)
  | [], _, h => by
    rw [show _ = [] from h]
    exact .nil
  | ns :: r, _, ⟨v, ws, h1, ⟨a, e, h2⟩, h4⟩ => by
    rw [h1, e]
    exact .cons (.tup h2 (dpa_ints ns)) (tupsS_dp h4)
theorem lay_rowsT : ∀ M : List (List Int), PyData.canLayAll0 (M.map rowT) = true
  | [] => rfl
  | r :: M => by
    show (PyData.canLayAll0 (r.map PyData.int) && PyData.canLayAll0 (M.map rowT)) = true
    rw [lay_rowsT M, lay_ints r]
    rfl
theorem dep_rowsT : ∀ M : List (List Int), PyData.depthAll (M.map rowT) ≤ 1
  | [] => by decide
  | r :: M => by
    show max (PyData.depthAll (r.map PyData.int) + 1) (PyData.depthAll (M.map rowT)) ≤ 1
    rw [dep_ints r]
    have := dep_rowsT M
    omega
theorem shaped_matT (M : List (List Int)) : SeqAt.shaped (.list (M.map rowT)) = true := by
  unfold SeqAt.shaped
  rw [Bool.and_eq_true]
  refine ⟨lay_rowsT M, decide_eq_true ?_⟩
  show PyData.depthAll (M.map rowT) + 1 ≤ 64
  have := dep_rowsT M
  omega
theorem eqv_rowsT : ∀ M N : List (List Int), PyData.eqvAll (M.map rowT) (N.map rowT) = decide (M = N)
  | [], [] => rfl
  | [], _ :: _ => rfl
  | _ :: _, [] => rfl
  | r :: M, q :: N => by
    show (PyData.eqvAll (r.map PyData.int) (q.map PyData.int) && PyData.eqvAll (M.map rowT) (N.map rowT)) = _
    rw [eqv_rowsT M N, eqv_ints, Bool.eq_iff_iff]
    simp
def TLst (K : PySem.W.Frag) (M : List (List Int)) : V → Hp → Prop := fun v H => ∃ p vs, v = .ref p ∧ H p = some (.lst vs) ∧ TupsS K M vs H
theorem tlst_stays {M : List (List Int)} : Stays (TLst K M) := fun v H H' e ⟨p, vs, h1, h2, h3⟩ => ⟨p, vs, h1, e _ _ h2, tupsS_stays M _ _ _ e h3⟩
theorem evp_tlst {M : List (List Int)} (h : EvPA tr σ H (TupsS K M)) (hz : M.length ≤ 1000) : EvP (tLst tr) σ H (TLst K M) := evp_lst h (tupsS_stays M) fun vs H1 z => by rw [tupsS_len z]; omega
theorem evp_tcat {M N : List (List Int)} (ha : EvP ta σ H (TLst K M)) (hb : EvP tb σ H (TLst K N)) (hz : M.length + N.length ≤ 1000) : EvP (tOp rCat ta tb) σ H (TLst K (M ++ N)) :=
  evp_op ha tlst_stays hb fun x y H1 e ⟨p, vs, h1, h2, h3⟩ ⟨q, us, g1, g2, g3⟩ Q k => ⟨p, q, vs, us, h1, g1, h2, g2, by rw [tupsS_len h3, tupsS_len g3, sizeLine_eq]; omega, fun r hr => k _ _ (Evl.Ex.new hr) ⟨r, _, rfl, upd_same, tupsS_app (tupsS_stays M _ _ _ (Evl.Ex.new hr) h3) (tupsS_stays N _ _ _ (Evl.Ex.new hr) g3)⟩⟩
theorem evp_tupC {ns : List Int} (h : Evl.EvA tr σ H (ns.map V.int)) (hz : ns.length ≤ 1000) : EvP (tTup tr) σ H (TupAt K ns) := fun H1 e Q q => (Evl.eu_tup h (by rw [List.length_map]; omega)) H1 e _ fun p H2 hp e2 h2 => q _ H2 e2 ⟨p, rfl, SqT.of h2⟩
theorem evp_eqTL {M N : List (List Int)} (ha : EvP ta σ H (TLst K M)) (hb : EvP tb σ H (TLst K N)) : EvP (tOp (rEqD K) ta tb) σ H (fun v _ => v = .bl (decide (M = N))) :=
  evp_op ha tlst_stays hb fun x y H1 e ⟨p, vs, h1, h2, h3⟩ ⟨q, us, g1, g2, g3⟩ Q k => by
    subst h1; subst g1
    exact ⟨_, _, .lst (SqL.of h2) (tupsS_dp h3), .lst (SqL.of g2) (tupsS_dp g3), shaped_matT M, shaped_matT N, k _ H1 (Evl.Ex.refl _) (by
      show V.bl (PyData.eqvAll (M.map rowT) (N.map rowT)) = _
      rw [eqv_rowsT])⟩
end
theorem ex_but {a : Addr} {H H' : Hp} (ha : H a = none) (x : But a H H') : Evl.Ex H H' := fun b o e => x b o (ne_of_none e ha) e
def spLaw (K : PySem.W.Frag) : Sp := fun vs H Q _ => ∃ (a : Addr) (ns : List Int), vs = [.ref a] ∧ SqL K H a (ns.map V.int) ∧ ns.length ≤ 63 ∧ ∀ H', Q (.bl true) H'
theorem scLaw : FnScope ["script", "at", "dice", "line", "none", "told"] ["script"] (defScope sLaw) := ⟨rfl, rfl, rfl, by decide +kernel, rfl, by decide +kernel, by decide +kernel⟩
theorem asc010 : Asc [0, 10] [0, 10] := ⟨by decide, fun k => Iff.rfl⟩
theorem asc0 : Asc [] [] := ⟨.nil, fun k => Iff.rfl⟩
theorem as1 : Asc ([-7, 5, -7, -9] ++ [0, 10]) [-9, -7, 0, 5, 10] := ⟨by decide, fun k => by simp; omega⟩
theorem as2 : Asc ([3, 1, 10, 12, 11] ++ [0, 10]) [0, 1, 3, 10, 11, 12] := ⟨by decide, fun k => by simp; omega⟩
theorem as3 : Asc ([] ++ [0, 10]) [0, 10] := ⟨by decide, fun k => Iff.rfl⟩
theorem as4 : Asc ([-5, 9, -5] ++ []) [-5, 9] := ⟨by decide, fun k => by simp; omega⟩
theorem as5 : Asc ([10 ^ 39, -1, 0] ++ []) [-1, 0, 10 ^ 39] := ⟨by decide, fun k => by simp; omega⟩
theorem cn1 : canL [0, 10] [-9, -7, 0, 5, 10] [-7, 5, -7, -9] = [-1, 1, -1, -2] := by decide +kernel
theorem cn2 : canL [0, 10] [0, 1, 3, 10, 11, 12] [3, 1, 10, 12, 11] = [2, 1, 10, 12, 11] := by decide +kernel
theorem cn3 : canL [0, 10] [0, 10] [] = [] := rfl
theorem cn4 : canL [] [-5, 9] [-5, 9, -5] = [0, 1, 0] := by decide +kernel
theorem cn5 : canL [] [-1, 0, 10 ^ 39] [10 ^ 39, -1, 0] = [2, 0, 1] := by decide +kernel
theorem sm1 : simB [0, 10] [1] [1, 1] = false := by decide +kernel
theorem okLaw {f f1 f2 f3 f4 f5 f6 f7 f8 f9 f10 : Addr} {fd fd1 fd2 fd3 fd4 fd5 fd6 fd7 fd8 fd9 fd10 : FuncData} (F : Fun K "law" "law" sLaw f fd) (T : Bt mg) (L : LP P w K mg base C fi po go fo fn fl fdo fdl)
    (D_law_pull : Dn K mg "_law_pull" sPull f1 fd1 ["dice", "total"]) (D_law_pick : Dn K mg "_law_pick" sPick f2 fd2 ["dice", "items"]) (D_law_given : Dn K mg "_law_given" sGiven f3 fd3 ["dice"]) (D_law_values : Dn K mg "_law_values" sValues f4 fd4 ["dice", "given"]) (D_law_place : Dn K mg "_law_place" sPlace f5 fd5 ["given", "number"])
    (D_law_canonical : Dn K mg "_law_canonical" sCanon f6 fd6 ["given", "values"]) (D_law_order : Dn K mg "_law_order" sOrder f7 fd7 ["given", "values"]) (D_law_moved : Dn K mg "_law_moved" sMoved f8 fd8 ["dice", "given", "values"]) (D_law_dice : Dn K mg "_law_dice" sDice f9 fd9 ["script", "at"])
    (D_law_right : Dn K mg "_law_right" sRight f10 fd10 ["dice"]) : FnG P w K mg base CX0 7 f fd ["script"] (spLaw K) := by
  have G_law_dice : FnOk P w K mg base CX0 1 f9 fd9 ["script", "at"] (spDice K) := okDice D_law_dice.F T
  have G_law_right : FnG P w K mg base CX0 6 f10 fd10 ["dice"] spRight := okRight D_law_right.F T L D_law_pull D_law_pick D_law_given D_law_values D_law_place D_law_canonical D_law_order D_law_moved
  refine okG F scLaw (fun vs H Q E h => ?_) (fun cdv A outer s H vs Q E hg hr h => ?_)
  · obtain ⟨a, ns, rfl, _⟩ := h
    rfl
  · obtain ⟨sc, ns, rfl, hS, hz, k⟩ := h
    have hr1 : Room 1 _ := hr.mono (by decide)
    have hr3 : Room 3 _ := hr.mono (by decide)
    have hr4 : Room 4 _ := hr.mono (by decide)
    have hG := (deeper_guards A (envOfC "law" (defScope sLaw) s.heap.objs.size f cdv)).trans hg
    refine ⟨_, (pss_cons (ps_for PassesOwn.never rfl (pi_range1 (by rfl) T.range (pa_cons (pe_callB (call_max2 rfl) (by rfl) T.max (by decide +kernel) (pa_cons pe_int (pa_cons (pe_callB (call_min2 rfl) (by rfl) T.min (by decide +kernel) (pa_cons pe_int (pa_cons (pe_callB call_len_seq (by rfl) T.len (by decide +kernel) (pa_cons (pv 0) pa_nil)) pa_nil))) pa_nil))) pa_nil)) (pg_name (i := 1) scLaw.nd rfl (Or.inl rfl)) (pss_cons (ps_set (i := 2) scLaw.nd rfl (Or.inl rfl) (pe_call G_law_dice hr1 rfl D_law_dice.m D_law_dice.F.kp D_law_dice.b .nil pass0 (pa_cons (pv 0) (pa_cons (pv 1) pa_nil))))
  (pss_one (ps_if (PW.pt (pw_or (pt_not (pt_val (pe_callG G_law_right hG hr rfl D_law_right.m D_law_right.F.kp D_law_right.b .nil pass0 (pa_cons (pv 2) pa_nil)))) (pw_or1 (pt_not (pt_val (pe_callG G_law_right hG hr rfl D_law_right.m D_law_right.F.kp D_law_right.b .nil pass0 (pa_cons (pv 2) pa_nil))))))) (pss_one (ps_ret pe_bl)) pss_nil))))
  (pss_cons (ps_par rfl scLaw.nd (i := 3) (j := 4) rfl rfl (by decide) rfl rfl (pa_cons (StX.pe_makeR L.mkr L.Gi hr4 rfl L.ln pass0 (pa_cons pe_int (pa_cons pe_int pa_nil))) (pa_cons (pe_mk0 L.mkr L.Gi hr4 rfl L.ln pass0) pa_nil)) (by rfl))
  (pss_cons (ps_set (i := 5) scLaw.nd rfl (Or.inl rfl) (pe_lst (pa_cons (pe_methR (pv 3) L.c.cl L.mn L.Gn hr4 pass0 (pa_cons (pe_un un_neg pe_int) (pa_cons pe_int (pa_cons (pe_un un_neg pe_int) (pa_cons (pe_un un_neg pe_int) pa_nil))))) (pa_cons (pe_methR (pv 3) L.c.cl L.mn L.Gn hr4 pass0 (pa_cons pe_int (pa_cons pe_int (pa_cons pe_int (pa_cons pe_int (pa_cons pe_int pa_nil)))))) (pa_cons (pe_methR0 (pv 3) L.c.cl L.mn L.Gn hr4 pass0) pa_nil)))))
  (pss_cons (ps_set (i := 5) scLaw.nd rfl (Or.inl rfl) (pe_op op_cat (pv 5) (pe_lst (pa_cons (pe_methR (pv 4) L.c.cl L.mn L.Gn hr4 pass0 (pa_cons (pe_un un_neg pe_int) (pa_cons pe_int (pa_cons (pe_un un_neg pe_int) pa_nil)))) (pa_cons (pe_methR (pv 4) L.c.cl L.mn L.Gn hr4 pass0 (pa_cons (pe_op op_powB pe_int pe_int) (pa_cons (pe_un un_neg pe_int) (pa_cons pe_int pa_nil)))) pa_nil)))))
  (pss_one (ps_ret (pe_and (pe_cmpR (op_eqD hr.units) (pv 5) (pe_lst (pa_cons (pe_tup (pa_cons (pe_un un_neg pe_int) (pa_cons pe_int (pa_cons (pe_un un_neg pe_int) (pa_cons (pe_un un_neg pe_int) pa_nil))))) (pa_cons (pe_tup (pa_cons pe_int (pa_cons pe_int (pa_cons pe_int (pa_cons pe_int (pa_cons pe_int pa_nil)))))) (pa_cons (pe_tup pa_nil) (pa_cons (pe_tup (pa_cons pe_int (pa_cons pe_int (pa_cons pe_int pa_nil)))) (pa_cons (pe_tup (pa_cons pe_int (pa_cons pe_int (pa_cons pe_int pa_nil)))) pa_nil)))))) (nomark _)) (pe_one (pe_not (pe_meth (pv 3) L.c.cl L.ml L.Gl hr3 L.bl .nil pass0 (pa_cons (pe_tup (pa_cons pe_int pa_nil)) (pa_cons (pe_tup (pa_cons pe_int (pa_cons pe_int pa_nil))) pa_nil)))))))))))), ?_⟩
    refine Evl.q_forR1 (n := if (if (ns.length : Int) < 8 then (ns.length : Int) else 8) > 1 then (if (ns.length : Int) < 8 then (ns.length : Int) else 8) else 1) (Evl.ea_cons (Evl.ev_cb (Evl.ea_cons Evl.ev_c (Evl.ea_cons (Evl.ev_cb (z := .int (if (ns.length : Int) < 8 then (ns.length : Int) else 8)) (Evl.ea_cons Evl.ev_c (Evl.ea_cons (Evl.ev_cb (z := .int (ns.length : Int)) (Evl.ea_cons (Evl.ev_var rfl) Evl.ea_nil) (fun H1 e Q' q => ?_)) Evl.ea_nil)) (fun H1 e Q' q => ?_)) Evl.ea_nil)) (fun H1 e Q' q => ?_)) Evl.ea_nil) ?_
      (fun i σ' H' => Evl.Ex H H' ∧ ∃ u1 u2, σ' = [some (.ref sc), u1, u2, none, none, none]) (fun H' e => ⟨e, none, none, rfl⟩) ?_ ?_
    · refine ⟨sc, _, rfl, Or.inl (Evl.ex_l e hS), ?_⟩
      rw [List.length_map]
      exact q H1 (Evl.Ex.refl _)
    · exact ⟨_, _, rfl, q H1 (Evl.Ex.refl _)⟩
    · exact ⟨_, _, rfl, q H1 (Evl.Ex.refl _)⟩
    · constructor <;> split <;> (try split) <;> omega
    · rintro i σ' H' hi ⟨e, u1, u2, rfl⟩
      refine ⟨_, rfl, _, rfl, sc, ns, (i : Int), rfl, Evl.ex_l e hS, hz, by omega, fun a g m c ha => ?_⟩
      have dc : Dice (upd H' a (.lst [.int g, .int m, .int c])) a := ⟨g, m, c, upd_same⟩
      refine ⟨_, rfl, a, rfl, dc, fun H1 x1 => ⟨true, rfl, iteF ⟨_, rfl, a, rfl, x1.d, fun H2 x2 => ⟨true, rfl, iteF ⟨e.trans (ex_but ha ((But.upd.trans x1.b).trans x2.b)), _, _, rfl⟩⟩⟩⟩⟩
    · rintro σ' H' ⟨e, u1, u2, rfl⟩
      refine q_par ?_
      refine (evp_mkR (K := K) (ns := [0, 10]) (Evl.ea_cons Evl.ev_c (Evl.ea_cons Evl.ev_c Evl.ea_nil)) (show 2 ≤ 50 by decide)) H' (Evl.Ex.refl _) _ fun v1 H1 e1 p1 => ?_
      refine (evp_mk0 (K := K)) H1 (Evl.Ex.refl _) _ fun v2 H2 e2 p2 => ⟨_, _, rfl, ?_⟩
      obtain ⟨al, rfl, LA⟩ := p1.atl asc010
      obtain ⟨bl, rfl, LB⟩ := p2.atl asc0
      have LA := LA.ex e2
      have big : ∀ {σ : L2.St} {H : Hp}, Evl.Ev (tOp (rI CPowB fun i j => .int (i ^ j.toNat)) (tC (.int 10)) (tC (.int 39))) σ H (.int (10 ^ 39)) := fun {σ H} => Evl.ev_op Evl.ev_c Evl.ev_c (Evl.rv_I ⟨by decide, by decide⟩)
      refine q_asgP (evp_tlst (M := [[-1, 1, -1, -2], [2, 1, 10, 12, 11], []]) (evpa_tups (cn1 ▸ evp_can (Evl.ev_var rfl) LA asc010.up (Evl.ea_cons ea_neg (Evl.ea_cons Evl.ev_c (Evl.ea_cons ea_neg (Evl.ea_cons ea_neg Evl.ea_nil)))) (by decide) as1)
        (evpa_tups (cn2 ▸ evp_can (Evl.ev_var rfl) LA asc010.up (Evl.ea_cons Evl.ev_c (Evl.ea_cons Evl.ev_c (Evl.ea_cons Evl.ev_c (Evl.ea_cons Evl.ev_c (Evl.ea_cons Evl.ev_c Evl.ea_nil))))) (by decide) as2)
        (evpa_tups (cn3 ▸ evp_can (Evl.ev_var rfl) LA asc010.up Evl.ea_nil (by decide) as3) evpa_nil))) (by decide)) fun v3 H3 e3 p3 => ?_
      have LB3 := LB.ex e3
      refine q_asgP (evp_tcat (M := [[-1, 1, -1, -2], [2, 1, 10, 12, 11], []]) (N := [[0, 1, 0], [2, 0, 1]]) (fun H4 e4 Q q => ⟨_, rfl, q _ H4 (Evl.Ex.refl _) (tlst_stays _ _ _ e4 p3)⟩) (evp_tlst (M := [[0, 1, 0], [2, 0, 1]]) (evpa_tups (cn4 ▸ evp_can (Evl.ev_var rfl) LB3 asc0.up (Evl.ea_cons ea_neg (Evl.ea_cons Evl.ev_c (Evl.ea_cons ea_neg Evl.ea_nil))) (by decide) as4)
        (evpa_tups (cn5 ▸ evp_can (Evl.ev_var rfl) LB3 asc0.up (Evl.ea_cons big (Evl.ea_cons ea_neg (Evl.ea_cons Evl.ev_c Evl.ea_nil))) (by decide) as5) evpa_nil)) (by decide)) (by decide)) fun v4 H4 e4 p4 => ?_
      have LA4 := (LA.ex e3).ex e4
      refine Evl.s_ret (v := .bl true) (Evl.ev_andV (a := true) (b := true) (Evl.ev_is (EvP.to (evp_eqTL (M := [[-1, 1, -1, -2], [2, 1, 10, 12, 11], []] ++ [[0, 1, 0], [2, 0, 1]]) (N := [[-1, 1, -1, -2], [2, 1, 10, 12, 11], [], [0, 1, 0], [2, 0, 1]]) (fun H5 e5 Q q => ⟨_, rfl, q _ H5 (Evl.Ex.refl _) (tlst_stays _ _ _ e5 p4)⟩)
        (evp_tlst (evpa_tups (evp_tupC (ns := [-1, 1, -1, -2]) (Evl.ea_cons ea_neg (Evl.ea_cons Evl.ev_c (Evl.ea_cons ea_neg (Evl.ea_cons ea_neg Evl.ea_nil)))) (by decide)) (evpa_tups (evp_tupC (ns := [2, 1, 10, 12, 11]) (Evl.ea_cons Evl.ev_c (Evl.ea_cons Evl.ev_c (Evl.ea_cons Evl.ev_c (Evl.ea_cons Evl.ev_c (Evl.ea_cons Evl.ev_c Evl.ea_nil))))) (by decide)) (evpa_tups (evp_tupC (ns := []) Evl.ea_nil (by decide))
          (evpa_tups (evp_tupC (ns := [0, 1, 0]) (Evl.ea_cons Evl.ev_c (Evl.ea_cons Evl.ev_c (Evl.ea_cons Evl.ev_c Evl.ea_nil))) (by decide)) (evpa_tups (evp_tupC (ns := [2, 0, 1]) (Evl.ea_cons Evl.ev_c (Evl.ea_cons Evl.ev_c (Evl.ea_cons Evl.ev_c Evl.ea_nil))) (by decide)) evpa_nil))))) (by decide)))) (by decide))
        fun _ => Evl.ev_is (Evl.ev_notV (ev_alikeU (xs := [1]) (ys := [1, 1]) (Evl.ev_var rfl) LA4 (Evl.eu_tup (Evl.ea_cons Evl.ev_c Evl.ea_nil) (by decide)) (Evl.eu_tup (Evl.ea_cons Evl.ev_c (Evl.ea_cons Evl.ev_c Evl.ea_nil)) (by decide)) (by decide) (by decide) (by decide))) (by rw [sm1]; rfl)) fun H5 e5 => k _
end
end LN

set_option Elab.async false
set_option maxRecDepth 100000
set_option maxHeartbeats 2000000
set_option linter.all false
set_option pp.maxSteps 200
namespace LN
open PySem PySem.Spec PyProof.Rows L2 XG XV XL
/-! ### what the top has written -/
def lineB (K : PySem.W.Frag) (C : Addr) : Bool :=
  (PySem.W.plainGet K C Str.empty && (PySem.W.hasDictIn K C && (PySem.W.plainOver K C && decide (PySem.W.findIn K (.ref C) "__setattr__" = some (some (.builtin "object.__setattr__")))))) &&
  ((decide (PySem.W.findIn K (.ref C) "_given" = some none) && (metaIn K C && (PySem.W.selfFirst K C && (decide (PySem.W.findIn K (.ref C) "__ne__" = some (some (.builtin "object.__ne__"))) && (decide (PySem.W.subIn K (.ref C) (.type "object") = some true) && decide (PySem.W.findIn K (.ref C) "__bool__" = some none)))))) &&
  ((decide (PySem.W.findIn K (.ref C) "__class__" = some (some (.builtin "object.__class__"))) && (decide (PySem.W.specialIn K (.builtin "object.__class__") "__get__" = some (some (.builtin "getset_descriptor.__get__"))) && (decide (PySem.W.takesIn K (.builtin "object.__class__") = some true) && decide (PySem.W.mroIn K C (.type "object") = some true)))) &&
  ((decide (PySem.W.kitOne K (.ref C) (.ref C) = some true) && (decide (PySem.W.kitOne K (.type "tuple") (.ref C) = some false) && decide (PySem.W.kitOne K (.type "int") (.ref C) = some false))) &&
  ((PySem.W.notFirst K C (.type "tuple") && (PySem.W.notFirst K C (.type "int") && PySem.W.notFirst K C (.ref C))) &&
  ((PySem.W.makesIn K C && PySem.W.keepIn K (.ref C)) && (PySem.W.readsIn K C (.type "type") && decide (PySem.W.specialIn K (.ref C) "__getattribute__" = some (some (.builtin "type.__getattribute__")))))))))
theorem lineB_ok {K : PySem.W.Frag} {C : Addr} (h : lineB K C = true) : LC K C ∧ PySem.W.makesIn K C = true ∧ PySem.W.keepIn K (.ref C) = true ∧ ClX.CRead K C (.type "type") := by
  unfold lineB at h
  simp only [Bool.and_eq_true, decide_eq_true_eq] at h
  obtain ⟨⟨a1, a2, a3, a4⟩, ⟨b1, b2, b3, b4, b5, b6⟩, ⟨c1, c2, c3, c4⟩, ⟨d1, d2, d3⟩, ⟨e1, e2, e3⟩, ⟨g1, g2⟩, h1, h2⟩ := h
  exact ⟨⟨⟨a1, a2, a3, a4⟩, b1, b2, b3, ⟨b4, b5⟩, b6, c1, c2, c3, c4, d1, d2, d3, e1, e2, e3⟩, g1, g2, ⟨h1, h2⟩⟩
theorem all_mk {l : PySem.W.OpenLaw} {w : World} {K : PySem.W.Frag} {h : Heap} {mg : Str → Option Value} {fa C : Addr} (X : K.In h) (G : h.Ns mainGlobals mg) (hfa : mg "law" = some (.ref fa)) (nC : PySem.W.nsIn K mainGlobals "Line" = some (some (.ref C)))
    {f1 : Addr} {od1 an1 : Option Addr} {sl1 : Array (Option Value)} {oc1 kV1 dc1 pm1 cd1 ct1 : Value} (a1 : PySem.W.nsIn K mainGlobals "_law_pull" = some (some (.ref f1))) (l1 : K.lookup f1 = some ⟨oc1, od1, .func (PySem.W.fnOf "_law_pull" "_law_pull" (defArgs sPull) (defBody sPull) (defScope sPull) .none kV1 dc1 pm1 an1 cd1 ct1), sl1⟩) (d1 : PySem.W.codeIn K cd1 "_law_pull" = true) (k1 : PySem.W.keepIn K (.ref f1) = true)
    {f2 : Addr} {od2 an2 : Option Addr} {sl2 : Array (Option Value)} {oc2 kV2 dc2 pm2 cd2 ct2 : Value} (a2 : PySem.W.nsIn K mainGlobals "_law_pick" = some (some (.ref f2))) (l2 : K.lookup f2 = some ⟨oc2, od2, .func (PySem.W.fnOf "_law_pick" "_law_pick" (defArgs sPick) (defBody sPick) (defScope sPick) .none kV2 dc2 pm2 an2 cd2 ct2), sl2⟩) (d2 : PySem.W.codeIn K cd2 "_law_pick" = true) (k2 : PySem.W.keepIn K (.ref f2) = true)
    {f3 : Addr} {od3 an3 : Option Addr} {sl3 : Array (Option Value)} {oc3 kV3 dc3 pm3 cd3 ct3 : Value} (a3 : PySem.W.nsIn K mainGlobals "_law_given" = some (some (.ref f3))) (l3 : K.lookup f3 = some ⟨oc3, od3, .func (PySem.W.fnOf "_law_given" "_law_given" (defArgs sGiven) (defBody sGiven) (defScope sGiven) .none kV3 dc3 pm3 an3 cd3 ct3), sl3⟩) (d3 : PySem.W.codeIn K cd3 "_law_given" = true) (k3 : PySem.W.keepIn K (.ref f3) = true)
    {f4 : Addr} {od4 an4 : Option Addr} {sl4 : Array (Option Value)} {oc4 kV4 dc4 pm4 cd4 ct4 : Value} (a4 : PySem.W.nsIn K mainGlobals "_law_values" = some (some (.ref f4))) (l4 : K.lookup f4 = some ⟨oc4, od4, .func (PySem.W.fnOf "_law_values" "_law_values" (defArgs sValues) (defBody sValues) (defScope sValues) .none kV4 dc4 pm4 an4 cd4 ct4), sl4⟩) (d4 : PySem.W.codeIn K cd4 "_law_values" = true) (k4 : PySem.W.keepIn K (.ref f4) = true)
    {f5 : Addr} {od5 an5 : Option Addr} {sl5 : Array (Option Value)} {oc5 kV5 dc5 pm5 cd5 ct5 : Value} (a5 : PySem.W.nsIn K mainGlobals "_law_place" = some (some (.ref f5))) (l5 : K.lookup f5 = some ⟨oc5, od5, .func (PySem.W.fnOf "_law_place" "_law_place" (defArgs sPlace) (defBody sPlace) (defScope sPlace) .none kV5 dc5 pm5 an5 cd5 ct5), sl5⟩) (d5 : PySem.W.codeIn K cd5 "_law_place" = true) (k5 : PySem.W.keepIn K (.ref f5) = true)
    {f6 : Addr} {od6 an6 : Option Addr} {sl6 : Array (Option Value)} {oc6 kV6 dc6 pm6 cd6 ct6 : Value} (a6 : PySem.W.nsIn K mainGlobals "_law_canonical" = some (some (.ref f6))) (l6 : K.lookup f6 = some ⟨oc6, od6, .func (PySem.W.fnOf "_law_canonical" "_law_canonical" (defArgs sCanon) (defBody sCanon) (defScope sCanon) .none kV6 dc6 pm6 an6 cd6 ct6), sl6⟩) (d6 : PySem.W.codeIn K cd6 "_law_canonical" = true) (k6 : PySem.W.keepIn K (.ref f6) = true)
    {f7 : Addr} {od7 an7 : Option Addr} {sl7 : Array (Option Value)} {oc7 kV7 dc7 pm7 cd7 ct7 : Value} (a7 : PySem.W.nsIn K mainGlobals "_law_order" = some (some (.ref f7))) (l7 : K.lookup f7 = some ⟨oc7, od7, .func (PySem.W.fnOf "_law_order" "_law_order" (defArgs sOrder) (defBody sOrder) (defScope sOrder) .none kV7 dc7 pm7 an7 cd7 ct7), sl7⟩) (d7 : PySem.W.codeIn K cd7 "_law_order" = true) (k7 : PySem.W.keepIn K (.ref f7) = true)
    {f8 : Addr} {od8 an8 : Option Addr} {sl8 : Array (Option Value)} {oc8 kV8 dc8 pm8 cd8 ct8 : Value} (a8 : PySem.W.nsIn K mainGlobals "_law_moved" = some (some (.ref f8))) (l8 : K.lookup f8 = some ⟨oc8, od8, .func (PySem.W.fnOf "_law_moved" "_law_moved" (defArgs sMoved) (defBody sMoved) (defScope sMoved) .none kV8 dc8 pm8 an8 cd8 ct8), sl8⟩) (d8 : PySem.W.codeIn K cd8 "_law_moved" = true) (k8 : PySem.W.keepIn K (.ref f8) = true)
    {f9 : Addr} {od9 an9 : Option Addr} {sl9 : Array (Option Value)} {oc9 kV9 dc9 pm9 cd9 ct9 : Value} (a9 : PySem.W.nsIn K mainGlobals "_law_dice" = some (some (.ref f9))) (l9 : K.lookup f9 = some ⟨oc9, od9, .func (PySem.W.fnOf "_law_dice" "_law_dice" (defArgs sDice) (defBody sDice) (defScope sDice) .none kV9 dc9 pm9 an9 cd9 ct9), sl9⟩) (d9 : PySem.W.codeIn K cd9 "_law_dice" = true) (k9 : PySem.W.keepIn K (.ref f9) = true)
    {f10 : Addr} {od10 an10 : Option Addr} {sl10 : Array (Option Value)} {oc10 kV10 dc10 pm10 cd10 ct10 : Value} (a10 : PySem.W.nsIn K mainGlobals "_law_right" = some (some (.ref f10))) (l10 : K.lookup f10 = some ⟨oc10, od10, .func (PySem.W.fnOf "_law_right" "_law_right" (defArgs sRight) (defBody sRight) (defScope sRight) .none kV10 dc10 pm10 an10 cd10 ct10), sl10⟩) (d10 : PySem.W.codeIn K cd10 "_law_right" = true) (k10 : PySem.W.keepIn K (.ref f10) = true)
    {f11 : Addr} {od11 an11 : Option Addr} {sl11 : Array (Option Value)} {oc11 kV11 dc11 pm11 cd11 ct11 : Value} (a11 : PySem.W.nsIn K mainGlobals "are_whole" = some (some (.ref f11))) (l11 : K.lookup f11 = some ⟨oc11, od11, .func (PySem.W.fnOf "are_whole" "are_whole" (defArgs sAreW) (defBody sAreW) (defScope sAreW) .none kV11 dc11 pm11 an11 cd11 ct11), sl11⟩) (d11 : PySem.W.codeIn K cd11 "are_whole" = true) (k11 : PySem.W.keepIn K (.ref f11) = true)
    {f12 : Addr} {od12 an12 : Option Addr} {sl12 : Array (Option Value)} {oc12 kV12 dc12 pm12 cd12 ct12 : Value} (a12 : PySem.W.nsIn K mainGlobals "check_all_whole" = some (some (.ref f12))) (l12 : K.lookup f12 = some ⟨oc12, od12, .func (PySem.W.fnOf "check_all_whole" "check_all_whole" (defArgs sChkA) (defBody sChkA) (defScope sChkA) .none kV12 dc12 pm12 an12 cd12 ct12), sl12⟩) (d12 : PySem.W.codeIn K cd12 "check_all_whole" = true) (k12 : PySem.W.keepIn K (.ref f12) = true)
    {f13 : Addr} {od13 an13 : Option Addr} {sl13 : Array (Option Value)} {oc13 kV13 dc13 pm13 cd13 ct13 : Value} (a13 : PySem.W.nsIn K mainGlobals "law" = some (some (.ref f13))) (l13 : K.lookup f13 = some ⟨oc13, od13, .func (PySem.W.fnOf "law" "law" (defArgs sLaw) (defBody sLaw) (defScope sLaw) .none kV13 dc13 pm13 an13 cd13 ct13), sl13⟩) (d13 : PySem.W.codeIn K cd13 "law" = true) (k13 : PySem.W.keepIn K (.ref f13) = true)
    {po : Addr} {ro : List Value}
    {fmi : Addr} {odmi anmi : Option Addr} {slmi : Array (Option Value)} {ocmi kVmi dcmi pmmi cdmi ctmi : Value} (ami : PySem.W.findIn K (.ref C) "__init__" = some (some (.ref fmi))) (nmi : PySem.W.isFn K (.ref fmi) = true) (lmi : K.lookup fmi = some ⟨ocmi, odmi, .func (PySem.W.fnOf "__init__" "Line.__init__" (defArgs sLi) (defBody sLi) (defScope sLi) .none kVmi dcmi pmmi anmi cdmi ctmi), slmi⟩) (dmi : PySem.W.codeIn K cdmi "Line.__init__" = true) (kmi : PySem.W.keepIn K (.ref fmi) = true)
    {fmo : Addr} {odmo anmo : Option Addr} {slmo : Array (Option Value)} {ocmo kVmo dcmo pmmo cdmo ctmo : Value} (amo : PySem.W.findCls K (.ref C) (.type "type") "of" = some (.get (.builtin "classmethod.__get__") (.ref po) .none (.ref C))) (rmo : PySem.W.recIn K po "classmethod" = some (.ref fmo :: ro)) (imo : PySem.W.fnIn K fmo = true) (lmo : K.lookup fmo = some ⟨ocmo, odmo, .func (PySem.W.fnOf "of" "Line.of" (defArgs sLof) (defBody sLof) (defScope sLof) .none kVmo dcmo pmmo anmo cdmo ctmo), slmo⟩) (dmo : PySem.W.codeIn K cdmo "Line.of" = true) (kmo : PySem.W.keepIn K (.ref fmo) = true)
    {fmc : Addr} {odmc anmc : Option Addr} {slmc : Array (Option Value)} {ocmc kVmc dcmc pmmc cdmc ctmc : Value} (amc : PySem.W.findIn K (.ref C) "canonical_of" = some (some (.ref fmc))) (nmc : PySem.W.isFn K (.ref fmc) = true) (lmc : K.lookup fmc = some ⟨ocmc, odmc, .func (PySem.W.fnOf "canonical_of" "Line.canonical_of" (defArgs sLcanof) (defBody sLcanof) (defScope sLcanof) .none kVmc dcmc pmmc anmc cdmc ctmc), slmc⟩) (dmc : PySem.W.codeIn K cdmc "Line.canonical_of" = true) (kmc : PySem.W.keepIn K (.ref fmc) = true)
    {fmn : Addr} {odmn anmn : Option Addr} {slmn : Array (Option Value)} {ocmn kVmn dcmn pmmn cdmn ctmn : Value} (amn : PySem.W.findIn K (.ref C) "canonical" = some (some (.ref fmn))) (nmn : PySem.W.isFn K (.ref fmn) = true) (lmn : K.lookup fmn = some ⟨ocmn, odmn, .func (PySem.W.fnOf "canonical" "Line.canonical" (defArgs sLcan) (defBody sLcan) (defScope sLcan) .none kVmn dcmn pmmn anmn cdmn ctmn), slmn⟩) (dmn : PySem.W.codeIn K cdmn "Line.canonical" = true) (kmn : PySem.W.keepIn K (.ref fmn) = true)
    {fml : Addr} {odml anml : Option Addr} {slml : Array (Option Value)} {ocml kVml dcml pmml cdml ctml : Value} (aml : PySem.W.findIn K (.ref C) "are_alike" = some (some (.ref fml))) (nml : PySem.W.isFn K (.ref fml) = true) (lml : K.lookup fml = some ⟨ocml, odml, .func (PySem.W.fnOf "are_alike" "Line.are_alike" (defArgs sLalike) (defBody sLalike) (defScope sLalike) .none kVml dcml pmml anml cdml ctml), slml⟩) (dml : PySem.W.codeIn K cdml "Line.are_alike" = true) (kml : PySem.W.keepIn K (.ref fml) = true)
    {fmf : Addr} {odmf anmf : Option Addr} {slmf : Array (Option Value)} {ocmf kVmf dcmf pmmf cdmf ctmf : Value} (amf : PySem.W.findIn K (.ref C) "_first_near" = some (some (.ref fmf))) (nmf : PySem.W.isFn K (.ref fmf) = true) (lmf : K.lookup fmf = some ⟨ocmf, odmf, .func (PySem.W.fnOf "_first_near" "Line._first_near" (defArgs sLfirst) (defBody sLfirst) (defScope sLfirst) .none kVmf dcmf pmmf anmf cdmf ctmf), slmf⟩) (dmf : PySem.W.codeIn K cdmf "Line._first_near" = true) (kmf : PySem.W.keepIn K (.ref fmf) = true)
    (z_int : PySem.W.nsIn K mainGlobals "int" = some none)
    (z_abs : PySem.W.nsIn K mainGlobals "abs" = some none)
    (z_max : PySem.W.nsIn K mainGlobals "max" = some none)
    (z_min : PySem.W.nsIn K mainGlobals "min" = some none)
    (z_len : PySem.W.nsIn K mainGlobals "len" = some none)
    (z_range : PySem.W.nsIn K mainGlobals "range" = some none)
    (z_tuple : PySem.W.nsIn K mainGlobals "tuple" = some none)
    (z_isinstance : PySem.W.nsIn K mainGlobals "isinstance" = some none)
    (z_set : PySem.W.nsIn K mainGlobals "set" = some none)
    (z_sorted : PySem.W.nsIn K mainGlobals "sorted" = some none)
    (z_type : PySem.W.nsIn K mainGlobals "type" = some none)
    (z_repr : PySem.W.nsIn K mainGlobals "repr" = some none)
    (z_list : PySem.W.nsIn K mainGlobals "list" = some none)
    (z_dict : PySem.W.nsIn K mainGlobals "dict" = some none)
    (z_zip : PySem.W.nsIn K mainGlobals "zip" = some none)
    (q0 : lineB K C = true) :
    ∃ fd : FuncData, (∀ (s : Shared) (v : Value), BindsTo s fd ⟨[v], []⟩ [("script", v)]) ∧ ∀ base : Heap, K.In base → base.Ns mainGlobals mg → FnG l.prog w K mg base CX0 7 fa fd ["script"] (spLaw K) := by
  have e := hfa.symm.trans (PySem.W.mg_of X G a13)
  cases e
  have T : Bt mg := { int := PySem.W.mg_none_of X G z_int, abs := PySem.W.mg_none_of X G z_abs, max := PySem.W.mg_none_of X G z_max, min := PySem.W.mg_none_of X G z_min, len := PySem.W.mg_none_of X G z_len, range := PySem.W.mg_none_of X G z_range, tuple := PySem.W.mg_none_of X G z_tuple, isinstance := PySem.W.mg_none_of X G z_isinstance, set := PySem.W.mg_none_of X G z_set, sorted := PySem.W.mg_none_of X G z_sorted, type := PySem.W.mg_none_of X G z_type, repr := PySem.W.mg_none_of X G z_repr, list := PySem.W.mg_none_of X G z_list, dict := PySem.W.mg_none_of X G z_dict, zip := PySem.W.mg_none_of X G z_zip }
  have F1 := fun_mk (st := sPull) l1 d1 k1
  have D1 : Dn K mg "_law_pull" sPull f1 _ ["dice", "total"] := ⟨F1, PySem.W.mg_of X G a1, F1.binds (ps := ["dice", "total"]) fun _ _ _ _ _ _ us hl => match us, hl with | [_, _], _ => rfl⟩
  have F2 := fun_mk (st := sPick) l2 d2 k2
  have D2 : Dn K mg "_law_pick" sPick f2 _ ["dice", "items"] := ⟨F2, PySem.W.mg_of X G a2, F2.binds (ps := ["dice", "items"]) fun _ _ _ _ _ _ us hl => match us, hl with | [_, _], _ => rfl⟩
  have F3 := fun_mk (st := sGiven) l3 d3 k3
  have D3 : Dn K mg "_law_given" sGiven f3 _ ["dice"] := ⟨F3, PySem.W.mg_of X G a3, F3.binds (ps := ["dice"]) fun _ _ _ _ _ _ us hl => match us, hl with | [_], _ => rfl⟩
  have F4 := fun_mk (st := sValues) l4 d4 k4
  have D4 : Dn K mg "_law_values" sValues f4 _ ["dice", "given"] := ⟨F4, PySem.W.mg_of X G a4, F4.binds (ps := ["dice", "given"]) fun _ _ _ _ _ _ us hl => match us, hl with | [_, _], _ => rfl⟩
  have F5 := fun_mk (st := sPlace) l5 d5 k5
  have D5 : Dn K mg "_law_place" sPlace f5 _ ["given", "number"] := ⟨F5, PySem.W.mg_of X G a5, F5.binds (ps := ["given", "number"]) fun _ _ _ _ _ _ us hl => match us, hl with | [_, _], _ => rfl⟩
  have F6 := fun_mk (st := sCanon) l6 d6 k6
  have D6 : Dn K mg "_law_canonical" sCanon f6 _ ["given", "values"] := ⟨F6, PySem.W.mg_of X G a6, F6.binds (ps := ["given", "values"]) fun _ _ _ _ _ _ us hl => match us, hl with | [_, _], _ => rfl⟩
  have F7 := fun_mk (st := sOrder) l7 d7 k7
  have D7 : Dn K mg "_law_order" sOrder f7 _ ["given", "values"] := ⟨F7, PySem.W.mg_of X G a7, F7.binds (ps := ["given", "values"]) fun _ _ _ _ _ _ us hl => match us, hl with | [_, _], _ => rfl⟩
  have F8 := fun_mk (st := sMoved) l8 d8 k8
  have D8 : Dn K mg "_law_moved" sMoved f8 _ ["dice", "given", "values"] := ⟨F8, PySem.W.mg_of X G a8, F8.binds (ps := ["dice", "given", "values"]) fun _ _ _ _ _ _ us hl => match us, hl with | [_, _, _], _ => rfl⟩
  have F9 := fun_mk (st := sDice) l9 d9 k9
  have D9 : Dn K mg "_law_dice" sDice f9 _ ["script", "at"] := ⟨F9, PySem.W.mg_of X G a9, F9.binds (ps := ["script", "at"]) fun _ _ _ _ _ _ us hl => match us, hl with | [_, _], _ => rfl⟩
  have F10 := fun_mk (st := sRight) l10 d10 k10
  have D10 : Dn K mg "_law_right" sRight f10 _ ["dice"] := ⟨F10, PySem.W.mg_of X G a10, F10.binds (ps := ["dice"]) fun _ _ _ _ _ _ us hl => match us, hl with | [_], _ => rfl⟩
  have F11 := fun_mk (st := sAreW) l11 d11 k11
  have D11 : Dn K mg "are_whole" sAreW f11 _ ["value"] := ⟨F11, PySem.W.mg_of X G a11, F11.binds (ps := ["value"]) fun _ _ _ _ _ _ us hl => match us, hl with | [_], _ => rfl⟩
  have F12 := fun_mk (st := sChkA) l12 d12 k12
  have D12 : Dn K mg "check_all_whole" sChkA f12 _ ["value"] := ⟨F12, PySem.W.mg_of X G a12, F12.binds (ps := ["value"]) fun _ _ _ _ _ _ us hl => match us, hl with | [_], _ => rfl⟩
  have F13 := fun_mk (st := sLaw) l13 d13 k13
  have Fmi := fun_mk (st := sLi) lmi dmi kmi
  have Fmo := fun_mk (st := sLof) lmo dmo kmo
  have bmo : Binds K _ ["cls", "numbers"] [] := Fmo.binds (ps := ["cls", "numbers"]) fun _ _ _ _ _ _ us hl => match us, hl with | [_, _], _ => rfl
  have Fmc := fun_mk (st := sLcanof) lmc dmc kmc
  have bmc : Binds K _ ["self", "values"] [] := Fmc.binds (ps := ["self", "values"]) fun _ _ _ _ _ _ us hl => match us, hl with | [_, _], _ => rfl
  have Fmn := fun_mk (st := sLcan) lmn dmn kmn
  have Fml := fun_mk (st := sLalike) lml dml kml
  have bml : Binds K _ ["self", "one", "other"] [] := Fml.binds (ps := ["self", "one", "other"]) fun _ _ _ _ _ _ us hl => match us, hl with | [_, _, _], _ => rfl
  have Fmf := fun_mk (st := sLfirst) lmf dmf kmf
  have bmf : Binds K _ ["self", "values"] [] := Fmf.binds (ps := ["self", "values"]) fun _ _ _ _ _ _ us hl => match us, hl with | [_, _], _ => rfl
  obtain ⟨c, mk, kp, cr⟩ := lineB_ok q0
  have hC := PySem.W.mg_of X G nC
  have Mi : Mk K C fmi := ⟨mk, ami, nmi, kp⟩
  refine ⟨PySem.W.fnOf "law" "law" (defArgs sLaw) (defBody sLaw) (defScope sLaw) .none kV13 dc13 pm13 an13 cd13 ct13, fun s v => .of_eq rfl, fun base _ _ => ?_⟩
  have Gmc := okLcanof (P := l.prog) (w := w) (base := base) Fmc T c Fmf ⟨amf, nmf, kmf⟩ bmf D12 D11
  have L : LP l.prog w K mg base C fmi po fmo fmc fmn fml _ _ := { c := c, ln := hC, mkr := Mi, Gi := okLi Fmi T c D12 D11, cr := cr, cm := ⟨amo, ⟨_, rmo⟩, imo⟩, Gof := raw0 (okLof Fmo T c Fmi Mi D12 D11) bmo, mo := ⟨amc, nmc, kmc⟩, Go := Gmc, bo := bmc, mn := ⟨amn, nmn, kmn⟩, Gn := okLcan Fmn T c Gmc ⟨amc, nmc, kmc⟩ bmc, ml := ⟨aml, nml, kml⟩, Gl := okLalike Fml T c D12 D11, bl := bml }
  exact okLaw F13 T L D1 D2 D3 D4 D5 D6 D7 D8 D9 D10
theorem walk {l : PySem.W.OpenLaw} {q : Program} {loose : List Str} {XP : (Str → Option Value) → Heap → Prop} {YP : World → Heap → Prop} {d : DefRec} {K : Params → PySem.W.Frag} (hn : l.most = some 63) (hdf : d.params.defaults = [])
    (hY : ∀ (w : World) (h : Heap), YP w h → (K w.params).In h)
    (F : ∀ (w : World) (mg : Str → Option Value) (fa : Addr) (h : Heap), (K w.params).In h → h.Ns mainGlobals mg → mg d.name = some (.ref fa) →
      ∃ fd : FuncData, (∀ (s : Shared) (u : Value), BindsTo s fd ⟨[u], []⟩ [("script", u)]) ∧ ∀ base : Heap, (K w.params).In base → base.Ns mainGlobals mg → FnG l.prog w (K w.params) mg base CX0 7 fa fd ["script"] (spLaw (K w.params))) :
    PySem.W.WalkO q loose XP YP l.row.toRowW d [] (fun f vs => PySem.call f vs) :=
  walkG (n := 63) (k := 7) (x := "script") (sp := spLaw) hn (by decide) hdf ⟨rfl, by decide, by decide⟩ hY F (fun _ _ a ns hl hS => ⟨a, ns, rfl, hS, hl, fun _ => rfl⟩)
end LN
open PySem PySem.W PyProof.Rows
set_option maxRecDepth 100000 in
set_option maxHeartbeats 0 in
theorem PySem.Challenge.cw_needrows_k02_canonical_tuples_holds : PySem.Challenge.rw_needrows_k02_canonical_tuples.Holds := by
  w_on; o_law; k_head; (case hw => w_witness2)
  k_fill
  refine LN.walk (l := PySem.Challenge.rw_needrows_k02_canonical_tuples) rfl rfl (fun w h Y => PySem.W.kIn_of Y) ?F
  case F =>
    intro w mg fa h KX G hmg
    refine' LN.all_mk KX G hmg ?nC ?a1 ?l1 ?d1 ?k1 ?a2 ?l2 ?d2 ?k2 ?a3 ?l3 ?d3 ?k3 ?a4 ?l4 ?d4 ?k4 ?a5 ?l5 ?d5 ?k5 ?a6 ?l6 ?d6 ?k6 ?a7 ?l7 ?d7 ?k7 ?a8 ?l8 ?d8 ?k8 ?a9 ?l9 ?d9 ?k9 ?a10 ?l10 ?d10 ?k10 ?a11 ?l11 ?d11 ?k11 ?a12 ?l12 ?d12 ?k12 ?a13 ?l13 ?d13 ?k13 ?ami ?nmi ?lmi ?dmi ?kmi ?amo ?rmo ?imo ?lmo ?dmo ?kmo ?amc ?nmc ?lmc ?dmc ?kmc ?amn ?nmn ?lmn ?dmn ?kmn ?aml ?nml ?lml ?dml ?kml ?amf ?nmf ?lmf ?dmf ?kmf ?z_int ?z_abs ?z_max ?z_min ?z_len ?z_range ?z_tuple ?z_isinstance ?z_set ?z_sorted ?z_type ?z_repr ?z_list ?z_dict ?z_zip ?q0
    (case nC => k_is)
    (case a1 => k_is)
    (case l1 => k_is)
    (case d1 => k_is)
    (case k1 => k_is)
    (case a2 => k_is)
    (case l2 => k_is)
    (case d2 => k_is)
    (case k2 => k_is)
    (case a3 => k_is)
    (case l3 => k_is)
    (case d3 => k_is)
    (case k3 => k_is)
    (case a4 => k_is)
    (case l4 => k_is)
    (case d4 => k_is)
    (case k4 => k_is)
    (case a5 => k_is)
    (case l5 => k_is)
    (case d5 => k_is)
    (case k5 => k_is)
    (case a6 => k_is)
    (case l6 => k_is)
    (case d6 => k_is)
    (case k6 => k_is)
    (case a7 => k_is)
    (case l7 => k_is)
    (case d7 => k_is)
    (case k7 => k_is)
    (case a8 => k_is)
    (case l8 => k_is)
    (case d8 => k_is)
    (case k8 => k_is)
    (case a9 => k_is)
    (case l9 => k_is)
    (case d9 => k_is)
    (case k9 => k_is)
    (case a10 => k_is)
    (case l10 => k_is)
    (case d10 => k_is)
    (case k10 => k_is)
    (case a11 => k_is)
    (case l11 => k_is)
    (case d11 => k_is)
    (case k11 => k_is)
    (case a12 => k_is)
    (case l12 => k_is)
    (case d12 => k_is)
    (case k12 => k_is)
    (case a13 => k_is)
    (case l13 => k_is)
    (case d13 => k_is)
    (case k13 => k_is)
    (case ami => k_is)
    (case nmi => k_is)
    (case lmi => k_is)
    (case dmi => k_is)
    (case kmi => k_is)
    (case amo => k_is)
    (case rmo => k_is)
    (case imo => k_is)
    (case lmo => k_is)
    (case dmo => k_is)
    (case kmo => k_is)
    (case amc => k_is)
    (case nmc => k_is)
    (case lmc => k_is)
    (case dmc => k_is)
    (case kmc => k_is)
    (case amn => k_is)
    (case nmn => k_is)
    (case lmn => k_is)
    (case dmn => k_is)
    (case kmn => k_is)
    (case aml => k_is)
    (case nml => k_is)
    (case lml => k_is)
    (case dml => k_is)
    (case kml => k_is)
    (case amf => k_is)
    (case nmf => k_is)
    (case lmf => k_is)
    (case dmf => k_is)
    (case kmf => k_is)
    (case z_int => k_is)
    (case z_abs => k_is)
    (case z_max => k_is)
    (case z_min => k_is)
    (case z_len => k_is)
    (case z_range => k_is)
    (case z_tuple => k_is)
    (case z_isinstance => k_is)
    (case z_set => k_is)
    (case z_sorted => k_is)
    (case z_type => k_is)
    (case z_repr => k_is)
    (case z_list => k_is)
    (case z_dict => k_is)
    (case z_zip => k_is)
    (case q0 => kernel_rfl)
#print axioms PySem.Challenge.cw_needrows_k02_canonical_tuples_holds

