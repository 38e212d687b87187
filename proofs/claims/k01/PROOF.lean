import PyProof.Rows.All
import Wide.All
import OpenK.AllK
import Wide.FinOn
import HandS.ForMost
import HandS.Evl
import HandS.Wide
import PyProof.ReprRoads
import PyProof.Rows.RuleB_pow
import HandS.Exc
import KE.KExcInit
import PyProof.ExcBaseAll.LookupError
import PyProof.ExcBaseAll.IndexError
import PyProof.ExcBaseAll.OverflowError
import PyProof.StrLawsRepr
import HandS.ExcInit
import HandS.ExcValue
import HandS.ExcIs
import HandS.IsInst
import HandS.Set
import HandS.SetFor
import HandS.Strs
import PyProof.ListRange
import PyProof.LongRange
import HandS.Conv
import HandS.Star
import HandS.Words
import HandS.ClsMeth
import HandS.OwnEq
import KE.KCallOwn
import HandS.DictSub
import HandS.Zip
import HandS.FStr
import HandS.StrMore
import HandS.Property
import HandS.Style
import PySem.Challenge.RW_needrows_k01_names_and_places
import HandS.TupAny
import HandS.Walk
import HandS.CallRecv
set_option Elab.async false
set_option maxRecDepth 100000
set_option maxHeartbeats 2000000
set_option linter.all false
/-! Calls where no repr runs around (guards), repr of whole data, powers of great numbers. -/
namespace XG
open PySem PySem.Spec PyProof.Rows L2

/-- what a def promises where no guard stands around its call -/
structure FnG (P : Program) (w : World) (K : PySem.W.Frag) (mg : Str → Option Value) (base : Heap) (CX : CXT) (k : Nat) (f : Addr) (fd : FuncData) (ps : List Str) (sp : Sp) : Prop where
  len : ∀ vs H Q E, sp vs H Q E → vs.length = ps.length
  run : ∀ (A : Around) (outer : List Env) (s : Shared) (H : Hp) (args : Args) (us : List Value) (vs : List V) (Q : VK) (E : XK), A.guards = some [] → Room k A → Env0 P w K mg base A outer s H →
    BindsTo s fd args (ps.zip us) → Vals vs us → sp vs H Q E → codeAny (model P w) A (.call (.ref f) args) (CR CX outer P w H s Q E) s
theorem FnG.of {P : Program} {w : World} {K : PySem.W.Frag} {mg : Str → Option Value} {base : Heap} {CX : CXT} {k : Nat} {f : Addr} {fd : FuncData} {ps : List Str} {sp : Sp} (F : FnOk P w K mg base CX k f fd ps sp) : FnG P w K mg base CX k f fd ps sp :=
  ⟨F.len, fun A outer s H args us vs Q E _ hr e0 hb r h => F.run A outer s H args us vs Q E hr e0 hb r h⟩
theorem deeper_guards (A : Around) (env : Env) : (A.deeper env).guards = A.guards := by
  cases A; rfl

section
variable {P : Program} {w : World} {K : PySem.W.Frag} {mg : Str → Option Value} {base : Heap}
theorem okG {x qual : Str} {st : Stmt} {f : Addr} {fd : FuncData} {N ps : List Str} {k : Nat} {sp : Sp} (F : Fun K x qual st f fd) (S : FnScope N ps (defScope st)) (len : ∀ vs H Q E, sp vs H Q E → vs.length = ps.length)
    (hb : ∀ (cdv : Value) (A : Around) (outer : List Env) (s : Shared) (H : Hp) (vs : List V) (Q : VK) (E : XK), A.guards = some [] → Room k (A.deeper (envOfC qual (defScope st) s.heap.objs.size f cdv)) → sp vs H Q E →
      ∃ t, PSs (cxOf CX0 P w K mg base N qual (defScope st) f cdv A outer s H E).nox (defBody st) t ∧ t { nx := fun _ H' => Q .non H', rt := Q } (start N vs) H) : FnG P w K mg base CX0 (k + 1) f fd ps sp := by
  obtain ⟨oc, od, kV, doc, pm, an, cdv, ct, osl, rfl, lk, hcd⟩ := F.ex
  refine ⟨len, fun A outer s H args us vs Q E hg hr e0 hbd r hsp => ?_⟩
  have KX : K.In s.heap := e0.mod.kin.keeps fun b o e => (e0.bs b o e).1
  have lim : s.heap.NoLimit := e0.mod.nolimit.keeps fun b o e => (e0.bs b o e).1
  have hkd : ∀ y ∈ ps.zip us, (defScope st).names.lookup y.1 = some .local ∨ ((defScope st).names.lookup y.1 = some .cell ∧ ((cellsFrom (s.heap.objs.size + 1) (defScope st).names []).lookup y.1).isSome = true) := by
    rintro ⟨n, v⟩ hy
    cases S.par n (List.of_mem_zip hy).1 with
    | inl q => exact Or.inl q
    | inr q => exact Or.inr ⟨q, PySem.W.cellsFrom_some _ _ _ (Or.inl q)⟩
  refine codeAny_call_function hr.depth (KX _ _ lk) rfl S.co S.gen rfl (PySem.W.codeRec_of KX hcd) (hbd _ _ _ _ ?_)
  refine wpAny_newFunctionEnv_cells S.kind hkd fun env he s1 x => ?_
  subst he
  refine ⟨lim.keeps x.toInCall.keep, codeAny_func ?_⟩
  obtain ⟨t, ht, hq⟩ := hb cdv A outer s H vs Q E hg (hr.deeper _) hsp
  have I := inv_start (CX := CX0) (E := E) (w := w) (qual := qual) (cd := cdv) S hr.hd e0 (len _ _ _ _ hsp) r x
  refine wpAny_mono (ht.nox.run [] s1 (start N vs) H _ I hq) (fun fl s' hs => ?_) fun _ _ z => z
  cases fl with
  | ret u =>
    obtain ⟨v, σ', H', J, rv, q⟩ := hs
    exact ⟨v, H', J.os, J.bare, J.base, J.hok, rv, q⟩
  | next =>
    obtain ⟨σ', H', J, q⟩ := hs
    exact ⟨V.non, H', J.os, J.bare, J.base, J.hok, rfl, q⟩
  | brk => exact (hs.choose_spec.choose_spec.2 : False).elim
  | cont => exact (hs.choose_spec.choose_spec.2 : False).elim
end

section
variable {X : Cx} {CX : CXT} {k : Nat} {f : Addr} {fd : FuncData} {ps : List Str} {sp : Sp} {dvs : List V} {ds : List Value} {E : XK} {x : Str} {p pos : Pos} {e : Expr} {es : List Expr} {ta : TE} {t : TA}
theorem run_fnG {pins : List (Addr × Obj)} {σ : L2.St} {H : Hp} {s : Shared} {Q : VK} {us : List Value} {vs : List V} (F : FnG X.prog X.w X.K X.mg X.base CX k f fd ps sp) (hG : X.A.guards = some []) (hr : Room k X.A) (hb : Binds X.K fd ps ds) (hd : Vals dvs ds) (hx : Passes CX X E)
    (I : Inv X pins σ H s) (r : Vals vs us) (h : sp (vs ++ dvs) H Q E) : wpAny (model X.prog X.w) X.A (call (.ref f) us) (EP X pins σ Q) X.xe s := by
  have r2 := r.append hd
  have hl : (us ++ ds).length = ps.length := r2.length ▸ F.len _ _ _ _ h
  refine wpAny_call (codeAny_mono (F.run X.A X.stack s H ⟨us, []⟩ (us ++ ds) (vs ++ dvs) Q E hG hr I.env0 (hb s us I.kIn hl) r2 h) fun r s' hq => ?_)
  cases r with
  | error e => exact hx pins σ H s e s' I hq
  | ok fl =>
    cases fl with
    | ret u => exact I.after hq
    | next => exact (hq : False).elim
    | brk => exact (hq : False).elim
    | cont => exact (hq : False).elim
theorem pe_callG (F : FnG X.prog X.w X.K X.mg X.base CX k f fd ps sp) (hG : X.A.guards = some []) (hr : Room k X.A) (hg : Gl X x) (hm : X.mg x = some (.ref f)) (hk : PySem.W.keepIn X.K (.ref f) = true) (hb : Binds X.K fd ps ds) (hd : Vals dvs ds) (hx : Passes CX X E)
    (ha : PA X (e :: es) t) (hdb : (x == ("__debug__" : Str)) = false := by decide) (he : starEach (e :: es) X.env = (false, eval e X.env) :: starEach es X.env := by rfl) (hpl : (backTo pos (starEach es X.env)).any (·.1) = false := by rfl) :
    PE X (.Call (.Name x p) (e :: es) [] pos) (tCall sp dvs E t) := by
  constructor
  intro pins s σ H Q I h
  refine wpAny_Call_Name_kw (ld_glob I hg hm ?_ hdb)
  exact PySem.W.callWith_K (h₀ := X.base) I.ok.mod.kin hk (thn (ha.run pos pins s σ H _ I h) fun us s1 ⟨vs, H1, I1, r, q⟩ => ⟨I1.kIn, run_fnG F hG hr hb hd hx I1 r q⟩) he hpl
end

/-! ### a list's display, whose place is not the modules' -/
def tLstS (t : TA) : TE := fun σ H Q => t σ H fun xs H1 => xs.length ≤ sizeLine ∧ ∀ p, H1 p = none → p ≠ sysModules → Q (.ref p) (upd H1 p (.lst xs))
theorem pe_lstS {X : Cx} {es : List Expr} {t : TA} {pos : Pos} (h : PA X es t) : PE X (.List es pos) (tLstS t) := by
  refine ⟨fun pins s σ H Q I hq => ?_⟩
  refine wpAny_List_spliced (thn (h.run pos pins s σ H _ I hq) fun us s1 ⟨xs, H1, I1, r, z, q⟩ => ⟨by rw [← r.length]; exact z, ?_⟩)
  have hf : H1 s1.heap.objs.size = none := I1.hok.fresh (Nat.le_refl _)
  refine ⟨.ref s1.heap.objs.size, upd H1 s1.heap.objs.size (.lst xs), I1.laid (t' := s1.toks) (fun b u e => Heap.get?_push_of_some _ e) (Nat.le_refl _) ?_, rfl, q _ hf (Nat.ne_of_gt I1.big)⟩
  exact ⟨z, us, 0, r, Heap.get?_push_size _ rfl⟩

/-! ### powers of great numbers -/
def CPowB (i j : Int) : Prop := 0 ≤ j ∧ (Builtin.Int.intBits i : Int) * j ≤ 2 ^ 27
theorem op_powB {X : Cx} : OpR X (binaryOp .Pow) (rI CPowB fun i j => .int (i ^ j.toNat)) := opI fun _ _ _ _ _ _ _ hc q => pow_int hc.1 hc.2 q

/-! ### what a value is, all the way down -/
mutual
inductive Rep (K : PySem.W.Frag) (H : Hp) : V → PyData → Prop
  | non : Rep K H .non .none
  | bl (b : Bool) : Rep K H (.bl b) (.bool b)
  | int (i : Int) : Rep K H (.int i) (.int i)
  | str (x : Str) : Rep K H (.str x) (.str x)
  | lst {a : Addr} {xs : List V} {ds : List PyData} : SqL K H a xs → RepAll K H xs ds → a ≠ sysModules → Rep K H (.ref a) (.list ds)
  | tup {a : Addr} {xs : List V} {ds : List PyData} : SqT K H a xs → RepAll K H xs ds → Rep K H (.ref a) (.tuple ds)
  | dic {a : Addr} {kvs : List (Key × V)} {ds : List (PyData × PyData)} : H a = some (.dK kvs) → RepAll K H (kvs.map fun p => kV p.1) (ds.map (·.1)) → RepAll K H (kvs.map (·.2)) (ds.map (·.2)) → Rep K H (.ref a) (.dict ds)
inductive RepAll (K : PySem.W.Frag) (H : Hp) : List V → List PyData → Prop
  | nil : RepAll K H [] []
  | cons {v : V} {vs : List V} {d : PyData} {ds : List PyData} : Rep K H v d → RepAll K H vs ds → RepAll K H (v :: vs) (d :: ds)
end
section
variable {K : PySem.W.Frag} {H H' : Hp}
mutual
theorem Rep.mono (e : Evl.Ex H H') : ∀ {d : PyData} {v : V}, Rep K H v d → Rep K H' v d
  | _, _, .non => .non
  | _, _, .bl b => .bl b
  | _, _, .int i => .int i
  | _, _, .str x => .str x
  | _, _, .lst h r z => .lst (Evl.ex_l e h) (RepAll.mono e r) z
  | _, _, .tup h r => .tup (Evl.ex_t e h) (RepAll.mono e r)
  | _, _, .dic h r q => .dic (e _ _ h) (RepAll.mono e r) (RepAll.mono e q)
theorem RepAll.mono (e : Evl.Ex H H') : ∀ {ds : List PyData} {vs : List V}, RepAll K H vs ds → RepAll K H' vs ds
  | _, _, .nil => .nil
  | _, _, .cons a b => .cons (Rep.mono e a) (RepAll.mono e b)
end
end


section
variable {X : Cx} {pins : List (Addr × Obj)} {σ : L2.St} {H : Hp} {s : Shared}
theorem kV_rel {k : Key} {v : Value} (h : keyIs k v = true) : RelV (kV k) v := by
  rcases keyIs_shape h with ⟨i, t, rfl, rfl⟩ | ⟨x, t, rfl, rfl⟩
  · exact ⟨t, rfl⟩
  · exact ⟨t, rfl⟩
theorem pairs_vals : ∀ {kvs : List (Key × V)} {vs : List (Key × Value)} {es : List DictEntry}, KV kvs vs → Pairs (mixKind X.prog X.w) es vs → Vals (kvs.map fun p => kV p.1) (es.map (·.key)) ∧ Vals (kvs.map (·.2)) (es.map (·.val))
  | _, _, _, .nil, .nil => ⟨.nil, .nil⟩
  | _, _, _, .cons ⟨e, r⟩ t, .cons h1 h2 h3 => by
    obtain ⟨q1, q2⟩ := pairs_vals t h3
    refine ⟨.cons ?_ q1, .cons ?_ q2⟩
    · show RelV (kV _) _
      rw [e]
      exact kV_rel h1
    · show RelV _ (DictEntry.val _)
      rw [h2]
      exact r
mutual
/-- what is told of a value is read off the heap -/
theorem Rep.reads (I : Inv X pins σ H s) : ∀ {d : PyData} {v : V} {u : Value}, Rep X.K H v d → RelV v u → ∃ as, Reads s.heap u d as ∧ ∀ b ∈ as, b ≠ sysModules
  | _, _, _, .non, r => by
    cases r
    exact ⟨_, Reads.none, fun b z => nomatch z⟩
  | _, _, _, .bl b, r => by
    cases r
    exact ⟨_, Reads.bool b, fun b z => nomatch z⟩
  | _, _, _, .int i, r => by
    obtain ⟨t, rfl⟩ := r
    exact ⟨_, Reads.int i t, fun b z => nomatch z⟩
  | _, _, _, .str x, r => by
    obtain ⟨t, rfl⟩ := r
    exact ⟨_, Reads.str x t, fun b z => nomatch z⟩
  | _, _, _, .lst hs ha hn, r => by
    cases r
    obtain ⟨its, rv, ⟨o, n, ho, hc, _, hd⟩, _⟩ := I.list hs
    obtain ⟨as, hr, hk⟩ := RepAll.reads I ha rv
    refine ⟨_, Reads.list ho hc hd hr, fun b z => ?_⟩
    rcases List.mem_cons.mp z with e | z
    · rw [e]
      exact hn
    · exact hk b z
  | _, _, _, .tup hs ha, r => by
    cases r
    obtain ⟨its, rv, ⟨o, ho, hc, n, hd⟩, _⟩ := I.tuple hs
    obtain ⟨as, hr, hk⟩ := RepAll.reads I ha rv
    exact ⟨_, Reads.tuple ho hc hd hr, hk⟩
  | _, _, _, .dic hs ha hb, r => by
    cases r
    obtain ⟨_, hne, vs, kv, o, es, ep, ho, hx, hd, _, hp, _⟩ := I.hok _ _ hs
    obtain ⟨r1, r2⟩ := pairs_vals kv hp
    obtain ⟨as, q1, k1⟩ := RepAll.reads I ha r1
    obtain ⟨bs, q2, k2⟩ := RepAll.reads I hb r2
    refine ⟨_, Reads.dict ho hx.1 hd q1 q2, fun b z => ?_⟩
    rcases List.mem_append.mp z with z | z
    · rcases List.mem_cons.mp z with e | z
      · rw [e]
        exact beq_eq_false_iff_ne.mp hne
      · exact k1 b z
    · exact k2 b z
theorem RepAll.reads (I : Inv X pins σ H s) : ∀ {ds : List PyData} {vs : List V} {us : List Value}, RepAll X.K H vs ds → Vals vs us → ∃ as, ReadsAll s.heap us ds as ∧ ∀ b ∈ as, b ≠ sysModules
  | _, _, _, .nil, r => by
    cases r
    exact ⟨_, ReadsAll.nil, fun b z => nomatch z⟩
  | _, _, _, .cons h1 h2, r => by
    cases r with
    | cons r1 r2 =>
      obtain ⟨as, q1, k1⟩ := Rep.reads I h1 r1
      obtain ⟨bs, q2, k2⟩ := RepAll.reads I h2 r2
      refine ⟨_, ReadsAll.cons q1 q2, fun b z => ?_⟩
      rcases List.mem_append.mp z with z | z
      · exact k1 b z
      · exact k2 b z
end
end

section
variable {X : Cx}
/-- repr(x), x data of any depth -/
def rRepr (K : PySem.W.Frag) : List V → Hp → VK → Prop := fun xs H Q => ∃ x d, xs = [x] ∧ Rep K H x d ∧ d.showable = true ∧ d.depth ≤ 100 ∧ d.shown.length ≤ sizeLine ∧ Q (.str d.shown) H
theorem call_reprG {k : Nat} (hG : X.A.guards = some []) (hr : Room k X.A) : CallR X (.builtin "repr") (rRepr X.K) := by
  intro pins s σ H xs us Q I r h
  obtain ⟨x, d, rfl, hd, hs, hdp, hz, q⟩ := h
  cases r with
  | @cons _ u _ ur rx rr =>
    cases rr
    have hun : X.A.units + (d.depth + 1) < cLine := by
      have := hr.un
      omega
    cases hd with
    | non =>
      cases rx
      exact PySem.P.repr_of_none ⟨.str _, H, I.tok _, ⟨_, rfl⟩, q⟩
    | bl b =>
      cases rx
      exact PySem.P.repr_of_bool ⟨.str _, H, I.tok _, ⟨_, rfl⟩, q⟩
    | int i =>
      obtain ⟨t, rfl⟩ := rx
      exact PySem.P.repr_of_int (by simpa [PyData.showable] using hs) ⟨.str _, H, I.tok _, ⟨_, rfl⟩, q⟩
    | str y =>
      obtain ⟨t, rfl⟩ := rx
      exact PySem.P.repr_of_str ⟨.str _, H, I.tok _, ⟨_, rfl⟩, q⟩ hz
    | lst h1 h2 h3 =>
      cases rx
      obtain ⟨as, hrd, hk⟩ := Rep.reads I (Rep.lst h1 h2 h3) rfl
      exact repr_of_reads' hrd hs (fun _ z => hk _ z rfl) hG hun (fun _ _ e => e) (fun h' t tk k => ⟨.str _, H, I.kept k, ⟨_, rfl⟩, q⟩) hz
    | tup h1 h2 =>
      cases rx
      obtain ⟨as, hrd, hk⟩ := Rep.reads I (Rep.tup h1 h2) rfl
      exact repr_of_reads' hrd hs (fun _ z => hk _ z rfl) hG hun (fun _ _ e => e) (fun h' t tk k => ⟨.str _, H, I.kept k, ⟨_, rfl⟩, q⟩) hz
    | dic h1 h2 h3 =>
      cases rx
      obtain ⟨as, hrd, hk⟩ := Rep.reads I (Rep.dic h1 h2 h3) rfl
      exact repr_of_reads' hrd hs (fun _ z => hk _ z rfl) hG hun (fun _ _ e => e) (fun h' t tk k => ⟨.str _, H, I.kept k, ⟨_, rfl⟩, q⟩) hz
end


/-! ### the law's own call, from a caller around whom no guard stands -/
section
variable {P : Program} {w : World} {K : PySem.W.Frag} {mg mb : Str → Option Value} {CX : CXT} {k : Nat} {fa a : Addr} {fd : FuncData} {x : Str} {sp : Sp} {s₁ : Shared}
/-- what an abstract heap may track ahead of the call: the script alone, and only where it is none of the text's own objects -/
structure Lone (K : PySem.W.Frag) (h : Heap) (a : Addr) (H : Hp) : Prop where
  one : ∀ b u, H b = some u → b = a ∧ K.lookup a = none ∧ ∃ o xs, u = .frz o (.lst xs) ∧ h.get? a = some o
  isl : ∃ vs : Array Value, h.get? a = some { cls := .type "list", data := .seq vs }
theorem Lone.free {h : Heap} {H : Hp} (L : Lone K h a H) {b : Addr} {o : Obj} (hk : K.lookup b = some o) : H b = none := by
  cases q : H b with
  | none => rfl
  | some u =>
    obtain ⟨rfl, e, _⟩ := L.one b u q
    rw [e] at hk
    cases hk
theorem Lone.dict {h : Heap} {H : Hp} (L : Lone K h a H) {b : Addr} {o : Obj} {es : Array DictEntry} {ep : Nat} (e : h.get? b = some o) (d : o.data = .dict es ep) : H b = none := by
  cases q : H b with
  | none => rfl
  | some u =>
    obtain ⟨rfl, _⟩ := L.one b u q
    obtain ⟨vs, z⟩ := L.isl
    rw [z] at e
    cases e
    cases d
theorem Lone.ns {h : Heap} {H : Hp} (L : Lone K h a H) {b : Addr} {m : Str → Option Value} : h.Ns b m → (hidT h H).Ns b m := by
  rintro ⟨o, es, ep, e, d, r⟩
  exact ⟨o, es, ep, hidT_get e (L.dict e d), d, r⟩
theorem callLone {H : Hp} (KX : K.In s₁.heap) (hns : s₁.heap.Ns mainGlobals mg) (hb : s₁.heap.Ns builtinsNs mb) (hbb : ∀ x : Str, x ≠ "__name__" → mb x = bootBuiltins x) (hlim : s₁.heap.NoLimit) (hg : s₁.gens = #[])
    (hr : Room k callerA) (F : ∀ base : Heap, K.In base → base.Ns mainGlobals mg → FnG P w K mg base CX k fa fd [x] sp) (hbind : ∀ (s : Shared) (u : Value), BindsTo s fd ⟨[u], []⟩ [(x, u)])
    (L : Lone K s₁.heap a H) (hok : HOk P w H s₁.heap) (hsp : sp [.ref a] H (fun v _ => v = .bl true) fun _ _ _ => False) (hCX : ∀ e s', CX [] H s₁ (fun _ _ _ => False) e s' → False) :
    codeAny (model P w) callerA (.call (.ref fa) ⟨[.ref a], []⟩) (fun r s' => r = .ok (.ret (.bool true)) ∧ OldK s₁.heap s'.heap ∧ s'.os = s₁.os ∧ AllBare s'.gens) s₁ := by
  have none0 : ∀ {b : Addr}, b ∉ frs ([] : List Env) := fun z => nomatch z
  have kb : K.In (hidT s₁.heap H) := fun b o e => hidT_get (KX b o e) (L.free e)
  obtain ⟨mc, l1, l2⟩ := hlim
  have e0 : Env0 P w K mg (hidT s₁.heap H) callerA [] s₁ H :=
    { frames := rfl, mod := ⟨kb, L.ns hns, ⟨mb, L.ns hb, hbb⟩, mc, L.ns l1, l2⟩, bs := fun _ _ e => of_hidT e, bsz := Nat.le_of_eq (hidT_size _ _), funs := trivial, frf := fun b z => absurd z none0, hok := hok, bare := .of_eq hg }
  have run := (F _ kb (L.ns hns)).run callerA [] s₁ H ⟨[.ref a], []⟩ [.ref a] [.ref a] _ _ rfl hr e0 (hbind s₁ (.ref a)) (.cons rfl .nil) hsp
  refine codeAny_mono run fun r s' h => ?_
  match r, h with
  | .error e, h => exact (hCX e s' h).elim
  | .ok (.ret u), h =>
    obtain ⟨v, H', os, bare, un, hok', rv, rfl⟩ := h
    cases (show u = Value.bool true from rv)
    refine ⟨rfl, OldK.of_keep fun b o e => ?_, os, bare⟩
    cases q : H b with
    | none => exact un.keep b o e q none0 (fun z => nomatch z)
    | some u =>
      obtain ⟨rfl, _, ob, xs, rfl, z⟩ := L.one b u q
      rw [e] at z
      cases z
      exact (hok' b _ (un.frzs b o _ q)).1
theorem law_callG {vs : List Value} {ns : List Int} (KX : K.In s₁.heap) (hns : s₁.heap.Ns mainGlobals mg) (hb : s₁.heap.Ns builtinsNs mb) (hbb : ∀ x : Str, x ≠ "__name__" → mb x = bootBuiltins x) (hlim : s₁.heap.NoLimit) (hg : s₁.gens = #[])
    (ha : s₁.heap.get? a = some { cls := .type "list", data := .seq vs.toArray }) (hi : IntsAre vs ns) (hl : ns.length ≤ sizeLine) (hr : Room k callerA)
    (F : ∀ base : Heap, K.In base → base.Ns mainGlobals mg → FnG P w K mg base CX k fa fd [x] sp) (hbind : ∀ (s : Shared) (u : Value), BindsTo s fd ⟨[u], []⟩ [(x, u)])
    (hsp : ∀ H : Hp, Only H → SqL K H a (ns.map V.int) → sp [.ref a] H (fun v _ => v = .bl true) fun _ _ _ => False) (hCX : ∀ H e s', CX [] H s₁ (fun _ _ _ => False) e s' → False) :
    codeAny (model P w) callerA (.call (.ref fa) ⟨[.ref a], []⟩) (fun r s' => r = .ok (.ret (.bool true)) ∧ OldK s₁.heap s'.heap ∧ s'.os = s₁.os ∧ AllBare s'.gens) s₁ := by
  have rv := vals_ints hi
  cases hk : K.lookup a with
  | some o =>
    have e := KX a o hk
    rw [ha] at e
    cases e
    refine callLone (H := fun _ => none) KX hns hb hbb hlim hg hr F hbind ⟨(fun _ _ z => nomatch z), _, ha⟩ (fun _ _ z => nomatch z) (hsp _ (fun _ => Or.inl rfl) (Or.inr ⟨_, vs.toArray, _, hk, rfl, rfl, rfl, ?_, by simpa using rv⟩)) (hCX _)
    rw [List.size_toArray, hi.length]
    exact hl
  | none =>
    let o : Obj := { cls := .type "list", data := .seq vs.toArray }
    have up : ∀ {b : Addr} {u : HO}, upd (fun _ => none) a (.frz o (.lst (ns.map V.int))) b = some u → b = a ∧ u = .frz o (.lst (ns.map V.int)) := fun {b u} z => by
      by_cases hb : b = a
      · rw [hb, upd_same] at z
        exact ⟨hb, (Option.some.inj z).symm⟩
      · rw [upd_ne hb] at z
        cases z
    refine callLone (H := upd (fun _ => none) a (.frz o (.lst (ns.map V.int)))) KX hns hb hbb hlim hg hr F hbind ⟨fun b u z => ⟨(up z).1, hk, o, _, (up z).2, ha⟩, _, ha⟩ (fun b u z => ?_) (hsp _ (fun b => ?_) (Or.inl (Or.inr ⟨o, upd_same⟩))) (hCX _)
    · obtain ⟨rfl, rfl⟩ := up z
      exact ⟨ha, by rw [List.length_map]; exact hl, vs, _, rv, ha⟩
    · by_cases hb : b = a
      · rw [hb]
        exact Or.inr ⟨o, _, upd_same⟩
      · exact Or.inl (upd_ne hb)
end
/-- what k_head leaves, from the law's promise where no guard stands -/
theorem walkG {l : PySem.W.OpenLaw} {n k : Nat} {q : Program} {loose : List Str} {XP : (Str → Option Value) → Heap → Prop} {YP : World → Heap → Prop} {d : DefRec} {K : Params → PySem.W.Frag} {sp : PySem.W.Frag → Sp} {x : Str}
    (hn : l.most = some n) (hz : n ≤ sizeLine) (hdf : d.params.defaults = []) (hr : Room k callerA) (hY : ∀ (w : World) (h : Heap), YP w h → (K w.params).In h)
    (F : ∀ (w : World) (mg : Str → Option Value) (fa : Addr) (h : Heap), (K w.params).In h → h.Ns mainGlobals mg → mg d.name = some (.ref fa) →
      ∃ fd : FuncData, (∀ (s : Shared) (u : Value), BindsTo s fd ⟨[u], []⟩ [(x, u)]) ∧
        ∀ base : Heap, (K w.params).In base → base.Ns mainGlobals mg → FnG l.prog w (K w.params) mg base CX0 k fa fd [x] (sp (K w.params)))
    (hsp : ∀ (K : PySem.W.Frag) (H : Hp) (a : Addr) (ns : List Int), ns.length ≤ n → SqL K H a (ns.map V.int) → sp K [.ref a] H (fun v _ => v = .bl true) fun _ _ _ => False) :
    PySem.W.WalkO q loose XP YP l.row.toRowW d [] (fun f vs => PySem.call f vs) := by
  refine Att.attach_call hn hdf fun w s₀ s₁ mg mb fa o pm cd doc a vs ns G Y ho hd hcd hmg hobj hints hlen hg => ?_
  have KX := hY w _ Y
  obtain ⟨fd, hb, hF⟩ := F w mg fa _ KX G.T.g hmg
  exact law_callG KX G.T.g G.T.b G.T.builtins G.T.nolimit hg hobj hints (Nat.le_trans hlen hz) hr hF hb (fun H _ hS => hsp _ H a ns hlen hS) fun _ _ _ z => z

end XG

set_option Elab.async false
set_option maxRecDepth 100000
set_option maxHeartbeats 2000000
set_option linter.all false
/-! Own exception classes over a built-in class that makes its instances by a base's __new__ (KeyError: LookupError's). -/
namespace PySem
namespace XK
open HandSPX Builtin Builtin.ObjectAttr

/-- what the making asks of a class's mro behind itself -/
structure Like (B : String) (bm : List Value) : Prop where
  base : bm.contains (.type B) = true
  attr : bm.contains (.type "AttributeError") = false
  name : bm.contains (.type "NameError") = false

section
variable {M : Model} {A : Around} {E : Value → Shared → Prop} {h : Heap} {g : Array GenState} {d : Drawn} {t : Nat} {os : OsState}
variable {nm q : Str} {C N : Addr} {bs bm bmB : List Value} {hdct : Bool} {sn : List Str} {sub : List Value} {ab : Bool} {col : Option Bool} {dd : Option Addr} {k0 k1 k2 k3 k5 : Option Value} {B newId initId : String}
theorem xcheck_new (F : ExcBaseFacts B newId initId bmB) (hT : Like B bm) {rest : List Value} {Q : Unit → Shared → Prop}
    (hC : h.get? C = some (excClassObj nm q C N bs bm hdct sn sub ab col dd k0 k1 k2 k3 k5 newId)) (hq : Q () ⟨h, g, d, t, os⟩) : wpAny M A (checkBuiltinCall newId ⟨.ref C :: rest, []⟩) Q E ⟨h, g, d, t, os⟩ := by
  have hcont : (Value.ref C :: bm).contains (.type B) = true := by rw [List.contains_cons, hT.base, Bool.or_true]
  have hstar := F.noStar
  simp only [checkBuiltinCall, F.newKind, F.newSplit, F.newRow]
  repeat (first | refine wpAny_loadPart_at hC ?_ | (refine wpAny_isSubtype_exc hC ?_; rw [hcont]) | refine wpAny_staticBase_exc hC ?_ | refine wpAny_madeBy_exc hC ?_ | simp only [bne_self_eq_false, Bool.false_eq_true, if_false] | wp_step)
  exact hq
end
section
variable {prog : Program} {w : World} {A : Around} {E : Value → Shared → Prop} {R : Result → Shared → Prop} {h : Heap} {g : Array GenState} {d : Drawn} {t : Nat} {os : OsState}
variable {nm q : Str} {C N : Addr} {bs bm bmB : List Value} {hdct : Bool} {sn : List Str} {sub : List Value} {ab : Bool} {col : Option Bool} {dd : Option Addr} {k0 k1 k2 k3 k5 : Option Value} {B newId initId : String}
theorem xnew (F : ExcBaseFacts B newId initId bmB) (hT : Like B bm) {rest : List Value}
    (hC : h.get? C = some (excClassObj nm q C N bs bm hdct sn sub ab col dd k0 k1 k2 k3 k5 newId))
    (hq : R (.ok (.ret (.ref (h.objs.size + 1)))) ⟨(h.push { cls := .type "tuple", data := .seq rest.toArray }).push
      { cls := .ref C, data := .fields #[.ref h.objs.size, .none, .none, .none, .bool false, .none] }, g, d, t, os⟩) (hrest : rest.length ≤ sizeLine) :
    codeAny (model prog w) A (.builtin newId ⟨.ref C :: rest, []⟩) R ⟨h, g, d, t, os⟩ := by
  have hends := F.ends
  have hcB : (Value.ref C :: bm).contains (.type B) = true := by rw [List.contains_cons, hT.base, Bool.or_true]
  have hcA : (Value.ref C :: bm).contains (.type "AttributeError") = false := by rw [List.contains_cons, hT.attr]; rfl
  have hcN : (Value.ref C :: bm).contains (.type "NameError") = false := by rw [List.contains_cons, hT.name]; rfl
  refine codeAny_builtinAt F.entry ?_
  unfold Builtin.«BaseException.__new__»
  refine PySem.wpAt_bind ?_
  show wpAt _ _ _ (stack >>= _) _ _ _
  refine PySem.wpAt_bind (wpAt_stack fun p below => wpAt_of_wpAny ?_)
  wp_walk
  refine wpAt_of_wpAny ?_
  rw [F.owner]
  repeat (first | with_reducible refine wpAny_madeHere_exc F.canon hC ?_ | with_reducible refine wpAny_loadPart_at hC ?_ | (with_reducible refine wpAny_isSubtype_exc hC ?_; first | rw [hcB] | rw [hcA] | rw [hcN]) | wp_step)
  show R _ _
  rw [Heap.size_push]
  exact hq

theorem xtype_call (F : ExcBaseFacts B newId initId bmB) (hT : Like B bm) {rest : List Value} {fI : Addr} {Q : Fin → Shared → Prop}
    (hC : h.get? C = some (excClassObj nm q C N bs bm hdct sn sub ab col dd k0 k1 k2 k3 k5 newId))
    (hi : W.Looks (model prog w) h (typeLookup (.ref C) "__init__") (some (.ref fI))) (hb : ∀ self, W.Looks (model prog w) h (bindSpecial (.ref fI) self) (.ref fI, [self])) (hrest : rest.length ≤ sizeLine)
    (hq : codeAny (model prog w) A (.call (.ref fI) ⟨.ref (h.objs.size + 1) :: rest, []⟩)
      (fun r s' => match r with | .ok (.ret v) => v = .none ∧ Q (.done (.ret (.ref (h.objs.size + 1)))) s' | .ok _ => False | .error e => E e s')
      ⟨(h.push (W.kdv_tup rest)).push (excO C h.objs.size), g, d, t, os⟩) :
    wpAny (model prog w) A (Builtin.«type.__call__» ⟨.ref C :: rest, []⟩) Q E ⟨h, g, d, t, os⟩ := by
  repeat (first | with_reducible refine wpAny_loadPart_at hC ?_ | with_reducible refine wpAny_madeBy_exc hC ?_ | wp_step)
  refine codeAny_call_builtin_code (Code.quiet_builtin _ F.quiet) (xcheck_new F hT hC ?_)
  refine xnew F hT hC ?_ hrest
  show wpAny _ _ _ _ _ _
  have k : ∀ b o, h.get? b = some o → ((h.push (W.kdv_tup rest)).push (excO C h.objs.size)).get? b = some o := fun b o e => Heap.get?_push_of_some _ (Heap.get?_push_of_some _ e)
  have hC₁ := k _ _ hC
  have hget : ((h.push (W.kdv_tup rest)).push (excO C h.objs.size)).get? (h.objs.size + 1) = some (excO C h.objs.size) := by heap_get
  have hcC : (Value.ref C :: bm).contains (.ref C) = true := by simp
  have i1 := hi.keeps k
  have b1 := (hb (.ref (h.objs.size + 1))).keeps k
  unfold isInstance
  repeat (first | with_reducible refine wpAny_loadPart_at hget ?_ | (with_reducible refine wpAny_isSubtype_exc hC₁ ?_; rw [hcC]) | wp_step)
  show wpAny _ _ (typeLookup (.ref C) _) _ _ _
  refine i1.at ?_
  refine wpAny_holding (wpAny_bind (b1.at ?_))
  refine wpAny_bind (wpAny_call (codeAny_mono hq fun r s' z => ?_))
  rcases r with e | (v | _ | _ | _) <;> first | exact z | exact z.elim | skip
  obtain ⟨rfl, z⟩ := z
  first
    | exact wpAny_pure (wpAny_pure z)
    | (wp_walk; exact z)

theorem xcall (F : ExcBaseFacts B newId initId bmB) (hT : Like B bm) {rest : List Value} {fI : Addr}
    (hC : h.get? C = some (excClassObj nm q C N bs bm hdct sn sub ab col dd k0 k1 k2 k3 k5 newId))
    (hi : W.Looks (model prog w) h (typeLookup (.ref C) "__init__") (some (.ref fI))) (hb : ∀ self, W.Looks (model prog w) h (bindSpecial (.ref fI) self) (.ref fI, [self])) (hrest : rest.length ≤ sizeLine)
    (hq : codeAny (model prog w) (A.under (.builtin "type.__call__" ⟨.ref C :: rest, []⟩)) (.call (.ref fI) ⟨.ref (h.objs.size + 1) :: rest, []⟩) (W.InitBack (h.objs.size + 1) R)
      ⟨(h.push (W.kdv_tup rest)).push (excO C h.objs.size), g, d, t, os⟩) :
    codeAny (model prog w) A (.call (.ref C) ⟨rest, []⟩) R ⟨h, g, d, t, os⟩ := by
  have f1 := tc_lookup
  have f2 := tc_bind (.ref C)
  have hTy : (⟨h, g, d, t, os⟩ : Shared).TypeIs (.ref C) "type" := ⟨_, hC, rfl⟩
  refine codeAny_of_tree ?_
  show wpAny _ _ (callAny (.ref C) _) _ _ _
  repeat (any_goals (first | assumption | with_reducible refine wpAny_loadPart_at hC ?_ | wp_step))
  refine ⟨rfl, ?_⟩
  refine codeAny_call_builtin_at (Code.quiet_builtin _ (by decide +kernel)) entry_typeCall (wpAny_check_type_call_sub hC (xtype_call F hT hC hi hb hrest ?_))
  refine codeAny_mono hq fun r s' z => ?_
  rcases r with e | (v | _ | _ | _) <;> exact z

end

theorem Like.of {B : String} {bm bmB : List Value} (hT : ∀ X : String, bm.contains (.type X) = bmB.contains (.type X)) (h : Like B bmB) : Like B bm := ⟨(hT _).trans h.base, (hT _).trans h.attr, (hT _).trans h.name⟩
abbrev mroIx : List Value := [.type "IndexError", .type "LookupError", .type "Exception", .type "BaseException", .type "object"]
abbrev mroKy : List Value := [.type "KeyError", .type "LookupError", .type "Exception", .type "BaseException", .type "object"]
abbrev mroOv : List Value := [.type "OverflowError", .type "ArithmeticError", .type "Exception", .type "BaseException", .type "object"]
abbrev mroLk : List Value := [.type "LookupError", .type "Exception", .type "BaseException", .type "object"]
theorem likeIx : Like "IndexError" mroIx := ⟨by decide +kernel, by decide +kernel, by decide +kernel⟩
theorem likeKy : Like "LookupError" mroKy := ⟨by decide +kernel, by decide +kernel, by decide +kernel⟩
theorem likeOv : Like "OverflowError" mroOv := ⟨by decide +kernel, by decide +kernel, by decide +kernel⟩
theorem likeLk : Like "LookupError" mroLk := ⟨by decide +kernel, by decide +kernel, by decide +kernel⟩
open PySem.F in
theorem store_KeyError : StoreFacts "KeyError" [.type "KeyError", .type "LookupError", .type "Exception", .type "BaseException", .type "object"] "object.__setattr__" "object" where
  mro := by kernel_rfl
  slot := .of (owner := "object") (n := "__setattr__") (by rw [typeLookup_type, builtinLookup_eq_fast]; kernel_rfl) (by decide +kernel) (by decide +kernel) (by decide +kernel)
    (by first | exact .inl (by decide +kernel) | exact .inr (by decide +kernel)) (by rw [isSubtype_type]; kernel_rfl)
  entry := entry_object_sa
  kind := by decide +kernel
  split := by decide +kernel
  hasOwner := by decide +kernel
  args := fun a b c => by unfold argsOk; kernel_rfl
  passes := fun self => by kernel_rfl
end XK
end PySem

set_option Elab.async false
set_option maxRecDepth 100000
set_option maxHeartbeats 2000000
set_option linter.all false
/-! How long a value's repr can be. -/
namespace XS
open PySem PySem.Spec PyProof.Rows L2 XG

theorem lt_len (a b : Str) : (a ++ b).length = a.length + b.length := strLen_append a b
theorem listText_le (ts : List Str) : (listText ts).length ≤ 2 + piled ts := by
  unfold listText
  rw [strLen_append]
  cases ts with
  | nil => decide
  | cons t ts =>
    have h : (textFrom 0 "[" (t :: ts)).length = 1 + t.length + piled ts := by
      show (textFrom 1 _ ts).length = _
      rw [textFrom_length_pos ts 1 _ (by decide), strLen_append, strLen_append]
      rfl
    rw [h, piled_cons]
    show _ + 1 ≤ _
    omega
theorem join_le (ts : List Str) : (Str.join ", " ts).length ≤ piled ts := by
  cases ts with
  | nil => decide
  | cons t ts =>
    have := join_length_add (t :: ts) (by simp)
    omega
theorem tupleText_le (ts : List Str) : (tupleText ts).length ≤ 3 + piled ts := by
  unfold tupleText
  rw [strLen_append, strLen_append]
  have h := join_le ts
  have h2 : (Str.ofString (if ts.length == 1 then ",)" else ")")).length ≤ 2 := by
    split <;> decide
  show 1 + _ + _ ≤ _
  have h3 : ((if ts.length == 1 then ",)" else ")" : String) : Str).length ≤ 2 := h2
  omega
theorem dictText_le (ts : List Str) : (dictText ts).length ≤ 2 + piled ts := by
  unfold dictText
  rw [strLen_append, strLen_append]
  have h := join_le ts
  show 1 + _ + 1 ≤ _
  omega

/-- a text of signs that there are -/
def plainT (x : Str) : Bool := x.cps.toList.all fun c => decide (c < 1114112)
theorem plain_repr {x : Str} (h : plainT x = true) : (reprText x).length ≤ 10 * x.length + 2 := by
  refine PySem.StrLaws.reprText_len x fun c hc => ?_
  have := of_decide_eq_true (List.all_eq_true.mp h c hc)
  omega
mutual
def sz : PyData → Nat
  | .none => 4
  | .bool _ => 5
  | .int i => i.natAbs.log2 + 2
  | .str x => 10 * x.length + 2
  | .list xs => 2 + szs xs
  | .tuple xs => 3 + szs xs
  | .dict kvs => 2 + szk kvs
def szs : List PyData → Nat
  | [] => 0
  | x :: xs => sz x + 2 + szs xs
def szk : List (PyData × PyData) → Nat
  | [] => 0
  | (a, b) :: r => sz a + sz b + 4 + szk r
end
mutual
def plainD : PyData → Bool
  | .str x => plainT x
  | .list xs | .tuple xs => plainDs xs
  | .dict kvs => plainDk kvs
  | .none | .bool _ | .int _ => true
def plainDs : List PyData → Bool
  | [] => true
  | x :: xs => plainD x && plainDs xs
def plainDk : List (PyData × PyData) → Bool
  | [] => true
  | (a, b) :: r => plainD a && plainD b && plainDk r
end
theorem int_len (i : Int) : ((toString i : String) : Str).length ≤ i.natAbs.log2 + 2 := by
  rw [PySem.ofString_length]
  exact int_text_length_le (k := i.natAbs.log2 + 1) (by omega) (by omega)
mutual
theorem shown_le : ∀ d : PyData, plainD d = true → d.shown.length ≤ sz d
  | .none, _ => by decide
  | .bool b, _ => by cases b <;> decide
  | .int i, _ => int_len i
  | .str x, h => plain_repr h
  | .list xs, h => by
    have a := listText_le (PyData.shownAll xs)
    have b := shownAll_le xs h
    show (listText (PyData.shownAll xs)).length ≤ 2 + szs xs
    omega
  | .tuple xs, h => by
    have a := tupleText_le (PyData.shownAll xs)
    have b := shownAll_le xs h
    show (tupleText (PyData.shownAll xs)).length ≤ 3 + szs xs
    omega
  | .dict kvs, h => by
    have a := dictText_le (PyData.shownKv kvs)
    have b := shownKv_le kvs h
    show (dictText (PyData.shownKv kvs)).length ≤ 2 + szk kvs
    omega
theorem shownAll_le : ∀ xs : List PyData, plainDs xs = true → piled (PyData.shownAll xs) ≤ szs xs
  | [], _ => Nat.le_refl _
  | x :: xs, h => by
    obtain ⟨h1, h2⟩ := Bool.and_eq_true_iff.mp h
    have a := shown_le x h1
    have b := shownAll_le xs h2
    show piled (x.shown :: PyData.shownAll xs) ≤ sz x + 2 + szs xs
    rw [piled_cons]
    omega
theorem shownKv_le : ∀ xs : List (PyData × PyData), plainDk xs = true → piled (PyData.shownKv xs) ≤ szk xs
  | [], _ => Nat.le_refl _
  | (x, y) :: xs, h => by
    obtain ⟨h1, h2⟩ := Bool.and_eq_true_iff.mp h
    obtain ⟨h0, h1⟩ := Bool.and_eq_true_iff.mp h1
    have a := shown_le x h0
    have a' := shown_le y h1
    have b := shownKv_le xs h2
    show piled ((x.shown ++ ": " ++ y.shown) :: PyData.shownKv xs) ≤ sz x + sz y + 4 + szk xs
    rw [piled_cons, strLen_append, strLen_append]
    have : (": " : Str).length = 2 := by decide
    omega
end
end XS

set_option Elab.async false
set_option maxRecDepth 100000
set_option maxHeartbeats 2000000
set_option linter.all false
/-! Exceptions of own classes held as values: made, their field read, asked by isinstance. -/
namespace XE
open PySem PySem.Spec PyProof.Rows L2 XG

section
open PySem.W PySem.HandSPX PySem.Calls Builtin Builtin.ObjectAttr
variable {prog : Program} {w : World} {A : Around} {E : Value → Shared → Prop} {R : Result → Shared → Prop} {hp : Heap} {g : Array GenState} {d : Drawn} {t : Nat} {os : OsState}
/-- the first field of an exception of any own class over a built-in one -/
theorem xsa_new {K : W.Frag} {B : String} {bmB : List Value} {name : Str} {tk : Tok} {v : Value} {x C : Addr} {fv : Array Value} (SF : StoreFacts B bmB "object.__setattr__" "object") (X : K.In hp) (hx : hp.get? x = some { cls := .ref C, data := .fields fv })
    (hov : excOver K C bmB = true) (htk : takerIn K C name = some none) (hhd : hasDictIn K C = true)
    (hq : ∀ h' tk' dx, (∀ b o, b ≠ x → hp.get? b = some o → h'.get? b = some o) → hp.objs.size ≤ dx → dx ≠ x → h'.get? x = some { cls := .ref C, dict := some dx, data := .fields fv } →
      h'.Ns1 dx (fun y => if y = name then some v else none) → R (.ok (.ret .none)) ⟨h', g, d, tk', os⟩) :
    codeAny (model prog w) A (.call (.builtin "object.__setattr__") ⟨[.ref x, .str name tk, v], []⟩) R ⟨hp, g, d, t, os⟩ := by
  have I : W.InstAt hp x { cls := .ref C, data := .fields fv } C none := ⟨hx, rfl, rfl, trivial⟩
  refine osa_openX SF X I hov htk fun b => ?_
  obtain ⟨cd, hc, hd'⟩ := any_some hhd
  have hcls : W.Looks (model prog w) hp (classData C) cd := W.looks_clsIn X hc
  have hxs : x ≠ hp.objs.size := Nat.ne_of_lt (Heap.lt_size hx)
  obtain ⟨nm, bs, mro, ns, qn, hdd, sn, sb, ab, col, del⟩ := cd
  dsimp only at hd'
  subst hd'
  unfold storeInOwnDict ownDictForStores
  repeat (first | with_reducible refine store_in_new ?_ ?_ | with_reducible refine wpAny_loadPart_at hx ?_ | with_reducible refine hcls.at ?_ | wp_step)
  · exact ⟨_, #[], _, (Heap.get?_update_ne _ _ _ _ hxs.symm).trans (Heap.get?_push_at rfl rfl), rfl, fun e he => absurd he (by simp), fun _ => rfl⟩
  · intro h' tk' hn' hs
    have hx₁ : (hp.push { cls := .type "dict", data := .dict #[] }).get? x = some { cls := .ref C, data := .fields fv } := Heap.get?_push_of_some _ hx
    refine hq h' tk' hp.objs.size (fun b o hb ho => ?_) (Nat.le_refl _) hxs.symm ?_ hn'
    · exact (hs.2 b (Nat.ne_of_lt (Heap.lt_size ho))).trans ((Heap.get?_update_ne _ _ _ _ hb).trans (Heap.get?_push_of_some _ ho))
    · exact (hs.2 x hxs).trans (Heap.get?_update_self _ hx₁ rfl)
end

/-- what the written part says of an own exception class over the built-in B, whose __init__ stores the one field f -/
structure XcC (K : PySem.W.Frag) (C : Addr) (B : String) (bmB : List Value) (newId : String) (f : Str) : Prop where
  it : PySem.W.excInitIn K C bmB newId = true
  ov : PySem.W.excOver K C bmB = true
  hd : PySem.W.hasDictIn K C = true
  tk : PySem.W.takerIn K C f = some none
  sa : PySem.W.findIn K (.ref C) "__setattr__" = some (some (.builtin "object.__setattr__"))
  kC : PySem.W.keepIn K (.ref C) = true

section
variable {X : Cx} {pins : List (Addr × Obj)} {σ : L2.St} {H : Hp} {s : Shared} {a C dx : Addr} {f : Str} {y : V} {u : Value} {Q : Unit → Shared → Prop} {E : Value → Shared → Prop} {A : Around} {B newId : String} {bmB : List Value}
theorem xst_new (SF : StoreFacts B bmB "object.__setattr__" "object") (T : XcC X.K C B bmB newId f) (I : Inv X pins σ H s) (e : H a = some (exo a C none)) (ry : RelV y u)
    (h : ∀ dx s', H dx = none → dx ≠ a → Inv X pins σ (upd (upd H dx (exd dx [(f, y)])) a (exo a C (some dx))) s' → Q () s') : wpAny (model X.prog X.w) A (setAttr (.ref a) f u) Q E s := by
  obtain ⟨t1, ho⟩ := exo_at I.hok e
  obtain ⟨hp, g, d, t, os⟩ := s
  refine PySem.W.set_plain I.kIn (ox := { cls := .ref C, dict := none, data := .fields #[.ref t1, .none, .none, .none, .bool false, .none] }) (od := none) ⟨ho, rfl, rfl, trivial⟩ T.sa ?_
  refine xsa_new SF I.kIn ho T.ov T.tk T.hd (fun h' tk' dx k dn dne hx hn => ?_)
  have hnd : H dx = none := I.hok.fresh dn
  have ad : ∀ {b : Addr} {o : Obj}, hp.get? b = some o → b ≠ dx := fun q => Nat.ne_of_lt (Nat.lt_of_lt_of_le (Heap.lt_size q) dn)
  have na : ∀ {b : Addr}, H b = none → b ≠ a := fun {b} n z => by
    rw [z, e] at n
    cases n
  have un : Un X.fs [] H (upd (upd H dx (exd dx [(f, y)])) a (exo a C (some dx))) hp h' := by
    constructor
    · intro b o q n _ _
      exact k b o (na n) q
    · intro b o q n _ _
      exact ⟨o.slots, k b o (na n) q⟩
    · intro b o q n _
      rw [upd_ne (na n), upd_ne (ad q)]
      exact n
    · intro b o q _
      by_cases hb : b = a
      · exact ⟨_, by rw [hb]; exact hx⟩
      · exact ⟨o, k b o hb q⟩
    · intro b xs q
      rw [upd_ne (at_ne e q exo_tup), upd_ne (ne_of_none q hnd)]
      exact q
    · intro b o v q
      rw [upd_ne (at_ne e q exo_frz), upd_ne (ne_of_none q hnd)]
      exact q
    · intro b ps q
      exact ⟨#[], by rw [upd_ne (at_ne e q exo_tbl), upd_ne (ne_of_none q hnd), q]; simp⟩
  refine h dx _ hnd dne (I.un (t' := tk') un fun b o q => ?_)
  by_cases hb : b = a
  · subst hb
    rw [upd_same] at q
    cases q
    exact exo_ok hx
  · rw [upd_ne hb] at q
    by_cases hd : b = dx
    · subst hd
      rw [upd_same] at q
      cases q
      exact exd_ok hn (relO_put (fs := []) ry fun g => True.intro)
    · rw [upd_ne hd] at q
      refine (I.hok b o q).stay (fun c v hc z => k c v ?_ z) (fun c hc => ?_) (fun c xs hc => ?_)
      · rcases hc with hc | hc
        · rw [hc]
          exact hb
        · exact at_ne e hc exo_own
      · rw [upd_ne (at_ne e hc exo_own), upd_ne (ne_of_none hc hnd)]
        exact hc
      · rw [upd_ne (at_ne e hc exo_tup), upd_ne (ne_of_none hc hnd)]
        exact hc
end

section
variable {X : Cx} {o e : Expr} {es : List Expr} {to te : TE} {ta : TA} {f : Str} {p p' pos : Pos} {B newId initId : String} {bmB : List Value} {C : Addr}
/-- self.f = e within the __init__ of such a class -/
def tXst (C : Addr) (f : Str) (to te : TE) : TS := fun D σ H => te σ H fun y H1 => to σ H1 fun x H2 => ∃ a : Addr, x = .ref a ∧ H2 a = some (exo a C none) ∧ ∀ dx, H2 dx = none → dx ≠ a → D.nx σ (upd (upd H2 dx (exd dx [(f, y)])) a (exo a C (some dx)))
theorem ps_xst (SF : StoreFacts B bmB "object.__setattr__" "object") (T : XcC X.K C B bmB newId f) (ho : PE X o to) (he : PE X e te) (hs : swapsWith e (some (.Attribute o f p')) pos.line X.env = pure false := by rfl) : PS X (.Assign [.Attribute o f p'] e pos) (tXst C f to te) := by
  constructor
  intro pins s σ H D I h
  refine plainObj_wpAny_Assign_Attribute (thn (he.run pins s σ H _ I h) fun v s1 ⟨y, H1, I1, r1, q1⟩ => thn (ho.run pins s1 σ H1 _ I1 q1) fun u s2 ⟨x, H2, I2, r2, a, ex, ea, q⟩ => ?_) hs
  subst ex
  obtain rfl : u = Value.ref a := r2
  exact xst_new SF T I2 ea r1 fun dx s' n ne J => ⟨σ, _, J, q dx n ne⟩
/-- C(e, ..), a new exception of such a class -/
def tXmk (C : Addr) (sp : Sp) (ta : TA) : TE := fun σ H Q => ta σ H fun vs H1 => vs.length ≤ 1000 ∧ ∀ a, H1 a = none → sp (.ref a :: vs) (upd H1 a (exo a C none)) (fun v H2 => v = .non ∧ Q (.ref a) H2) (fun _ _ _ => False)
theorem pe_xmk {CX : CXT} {x : Str} {fI : Addr} {k : Nat} {fd : FuncData} {ps : List Str} {sp : Sp} {B0 : String} {bm0 : List Value} (FB : ExcBaseFacts B0 newId initId bm0) (hL : PySem.XK.Like B0 bmB) (T : XcC X.K C B bmB newId f) (iC : PySem.W.findIn X.K (.ref C) "__init__" = some (some (.ref fI))) (tI : PySem.W.typeIn X.K (.ref fI) = some (.type "function"))
    (F1 : FnOk X.prog X.w X.K X.mg X.base CX k fI fd ps sp) (hr : Room (k + 1) X.A) (hb : Binds X.K fd ps []) (hx : Passes CX X (fun _ _ _ => False)) (hg : Gl X x) (hm : X.mg x = some (.ref C)) (ha : PA X (e :: es) ta)
    (hdb : (x == ("__debug__" : Str)) = false := by decide) (he : starEach (e :: es) X.env = (false, eval e X.env) :: starEach es X.env := by rfl) (hpl : (backTo pos (starEach es X.env)).any (·.1) = false := by rfl) :
    PE X (.Call (.Name x p) (e :: es) [] pos) (tXmk C sp ta) := by
  constructor
  intro pins s σ H Q I h
  refine wpAny_Call_Name_kw (ld_glob I hg hm ?_ hdb)
  refine PySem.W.callWith_K (h₀ := X.base) I.ok.mod.kin T.kC (thn (ha.run pos pins s σ H _ I h) fun us s1 ⟨vs, H1, I1, r1, hz, q1⟩ => ⟨I1.kIn, ?_⟩) he hpl
  show wpAny _ _ (call (.ref C) us) _ _ _
  obtain ⟨nm, N, qn, bs, bm, hdct, sn, sub, ab, col, dd, k0, k1, k2, k3, k5, hC, hT⟩ := PySem.W.excInit_of I1.kIn T.it
  obtain ⟨hp, g, dr, tk, os⟩ := s1
  have hn : H1 (hp.objs.size + 1) = none := I1.hok.fresh (Nat.le_succ _)
  have hq := q1 (hp.objs.size + 1) hn
  have kk : ∀ b o, hp.get? b = some o → ((hp.push (PySem.W.kdv_tup us)).push (PySem.HandSPX.excO C hp.objs.size)).get? b = some o := fun b o e => Heap.get?_push_of_some _ (Heap.get?_push_of_some _ e)
  have hget : ((hp.push (PySem.W.kdv_tup us)).push (PySem.HandSPX.excO C hp.objs.size)).get? (hp.objs.size + 1) = some (PySem.HandSPX.excO C hp.objs.size) := by heap_get
  have I2 := I1.laid (t' := tk) (a := hp.objs.size + 1) (o := exo (hp.objs.size + 1) C none) (h' := (hp.push (PySem.W.kdv_tup us)).push (PySem.HandSPX.excO C hp.objs.size)) kk (Nat.le_succ _) (exo_ok hget)
  have r2 : Vals (V.ref (hp.objs.size + 1) :: vs) (Value.ref (hp.objs.size + 1) :: us) := .cons rfl r1
  have hl : (Value.ref (hp.objs.size + 1) :: us ++ []).length = ps.length := by
    rw [List.append_nil, ← r2.length]
    exact F1.len _ _ _ _ hq
  have hus : us.length ≤ sizeLine := by
    rw [← Paired.length r1, sizeLine_eq]
    omega
  have hbn := hb _ (Value.ref (hp.objs.size + 1) :: us) I2.kIn hl
  rw [List.append_nil] at hbn
  refine wpAny_call (PySem.XK.xcall FB (hL.of hT) hC (PySem.W.looks_findIn I1.kIn iC) (fun self => PySem.W.bind_fn I1.kIn self tI) hus
    (codeAny_mono (F1.run _ X.stack _ _ ⟨Value.ref (hp.objs.size + 1) :: us, []⟩ (Value.ref (hp.objs.size + 1) :: us) _ _ (fun _ _ _ => False) (hr.make C us []) (I2.env0.make C us []) hbn r2 hq) fun r s' hq' => ?_))
  match r, hq' with
  | .error er, hq' => exact hx pins σ _ _ er s' I2 hq'
  | .ok (.ret u), hq' =>
    obtain ⟨v, H2, os2, bare2, un2, hok2, rv, ev, q2⟩ := hq'
    subst ev
    exact ⟨rv, .ref (hp.objs.size + 1), H2, I2.call' (ch := []) os2 un2 hok2 bare2 (fun b z => nomatch z), rfl, q2⟩
end

/-! ### its class is asked -/
section
open PySem.W PySem.Calls
variable {prog : Program} {w : World} {A : Around} {E : Value → Shared → Prop} {s : Shared} {K : Frag} {x D : Addr} {ox : Obj} {od : Option Obj}
theorem findObj_cls {C : Addr} {name : Str} {a g : Value} (hc : (clsIn K C).isSome = true) (ha : findIn K (.ref C) name = some (some a)) (hg : specialIn K a "__get__" = some (some g)) (ht : takesIn K a = some true) : findObj K C od name = some (.bind g a) := by
  obtain ⟨cd, hc⟩ := Option.isSome_iff_exists.mp hc
  unfold findObj
  rw [hc, Option.bind_some, ha, Option.bind_some]
  simp [hg, ht]
theorem xcls {Q : Option Value → Shared → Prop} (T : ExcC K D) (X : K.In s.heap) (I : InstAt s.heap x ox D od) (h : Q (some (.ref D)) { s with toks := s.toks + 1 }) : wpAny (model prog w) A (getAttr? (.ref x) "__class__") Q E s := by
  have hf : findObj K D od "__class__" = some (.bind (.builtin "getset_descriptor.__get__") (.builtin "object.__class__")) := findObj_cls (by obtain ⟨cd, hc, _⟩ := any_some T.hd; rw [hc]; rfl) T.ha T.hn T.ht
  obtain ⟨hp, g, d, t, os⟩ := s
  have L0 := I.type (M := model prog w)
  have L1 := looks_findIn (M := model prog w) X T.hg
  have L2 := looks_findIn (M := model prog w) X T.hk
  have L3 := looks_find (M := model prog w) X I hf
  have sub : Looks (model prog w) hp (isInstance (.ref x) (.type "BaseException")) true := L0.andThen (looks_subIn X T.hs)
  have n2 : (Value.builtin "BaseException.__getattribute__" == Value.builtin "object.__getattribute__") = false := by decide +kernel
  have n1 : (onTheHeap (Value.ref D) && Value.builtin "BaseException.__getattribute__" == Value.builtin "object.__getattribute__") = false := by rw [n2]; rfl
  unfold getAttr? getAttrBy? getAttrBy
  refine wpAny_bind (wpAny_mkText (wpAny_bind (wpAny_attempt (wpAny_holding (wpAny_bind (L0.at (wpAny_bind (L1.at ?_))))))))
  show wpAny _ _ (if (onTheHeap (Value.ref D) && Value.builtin "BaseException.__getattribute__" == Value.builtin "object.__getattribute__") = true then _ else _) _ _ _
  rw [n1, if_neg Bool.false_ne_true]
  unfold getAttrByItsOwn hookBefore
  refine wpAny_bind ?_
  rw [if_pos (show onTheHeap (Value.ref D) = true from rfl)]
  refine L2.at ?_
  refine wpAny_bind (wpAny_attempt (wpAny_holding ?_))
  unfold callGetattribute
  rw [show (false && onTheHeap (Value.builtin "BaseException.__getattribute__")) = false from rfl, if_neg Bool.false_ne_true]
  unfold boundAndCalled
  rw [PySem.F.excAttr_ValueError.ga.bind (.ref x)]
  refine wpAny_bind (wpAny_pure ?_)
  show wpAny _ _ (call (.builtin "BaseException.__getattribute__") [.ref x, .str "__class__" t]) _ _ _
  refine wpAny_call (codeAny_call_builtin PySem.F.excAttr_ValueError.ga.plain PySem.F.entry_bexc_ga ?_)
  refine @check_slot (model prog w) _ _ ⟨hp, g, d, t + 1, os⟩ "BaseException.__getattribute__" "BaseException" "__getattribute__" (.ref x) [.str "__class__" t] [] _ (by decide +kernel) (by decide +kernel) sub (PySem.F.args_bexc_ga (.ref x) (.str "__class__" t)) ?_
  unfold Builtin.«object.__getattribute__»
  refine wpAny_bind (wpAny_of_eq (a := ((Value.ref x : Value), [Value.str "__class__" t])) (by first | rfl | (simp only [slotArgs]; rfl)) ?_)
  refine wpAny_bind (wpAny_pure (wpAny_bind (L0.at (wpAny_bind (L3.at ?_)))))
  show wpAny _ _ (holding [Value.builtin "object.__class__"] (call (.builtin "getset_descriptor.__get__") [.builtin "object.__class__", .ref x, .ref D]) >>= ret) _ _ _
  refine wpAny_bind (wpAny_holding (wpAny_call (class_get (s := ⟨hp, g, d, t + 1, os⟩) (ox := ox) (od := od) X I T.hm ?_)))
  refine wpAny_pure ?_
  show wpAny _ _ (handedOut (.ref D)) _ _ _
  rw [handedOut_of (v := .ref D) rfl]
  first
    | exact wpAny_pure (wpAny_pure h)
    | exact wpAny_pure h
    | exact wpAny_pure (wpAny_bind (wpAny_pure (wpAny_pure h)))
theorem kitx_x (T : ExcC K D) : KitX K (.ref x) (.ref D) (fun h => ∃ ox od, InstAt h x ox D od) where
  ty := fun _ _ _ ⟨_, _, I⟩ => I.type
  it := fun _ _ X _ => by
    obtain ⟨cd, hc, _⟩ := any_some T.hd
    unfold clsIn at hc
    split at hc
    · rename_i c' d' cd' sl' ho
      intro A' Q' E' s' k q
      unfold isType loadHead
      exact wpAny_bind (wpAny_loadPart (k _ _ (X _ _ ho)) (wpAny_pure q))
    · cases hc
  ne := fun h tp dd its n sl X htp => by
    obtain ⟨cd, hc, _⟩ := any_some T.hd
    refine Bool.eq_false_iff.mpr fun q => ?_
    have e : D = tp := Value.ref.inj (beq_iff_eq.mp q)
    subst e
    unfold clsIn at hc
    split at hc
    · rename_i c' d' cd' sl' ho
      have z := (X _ _ ho).symm.trans htp
      cases z
    · cases hc
  ca := fun X ⟨_, _, I⟩ k => xcls T X I k
end

/-- at a: an exception of the class at D, with or without fields -/
def ExcAt (H : Hp) (a D : Addr) : Prop := H a = some (ExO (.ref D) a) ∨ ∃ (dx : Addr) (fs : List (Str × V)), H a = some (exo a D (some dx)) ∧ H dx = some (exd dx fs)
theorem ExcAt.mono {H H' : Hp} {a D : Addr} (e : Evl.Ex H H') (h : ExcAt H a D) : ExcAt H' a D := by
  rcases h with h | ⟨dx, fs, h1, h2⟩
  · exact .inl (e _ _ h)
  · exact .inr ⟨dx, fs, e _ _ h1, e _ _ h2⟩
section
variable {X : Cx} {pins : List (Addr × Obj)} {σ : L2.St} {H : Hp} {s : Shared}
theorem ExcAt.inst {a D : Addr} (I : Inv X pins σ H s) (h : ExcAt H a D) : ∃ ox od, PySem.W.InstAt s.heap a ox D od := by
  rcases h with h | ⟨dx, fs, h1, h2⟩
  · obtain ⟨⟨oe, vs, e, ⟨z1, z2⟩, d, _⟩, _, _⟩ := I.hok a _ h
    refine ⟨oe, none, e, z1, ?_, ?_⟩
    · unfold PySem.W.notCls
      rw [d] <;> rfl
    · rw [z2]
      trivial
  · obtain ⟨t0, e⟩ := exo_at I.hok h1
    obtain ⟨mA, ⟨o, es, ep, e2, _⟩, _⟩ := exd_at I.hok h2
    exact ⟨_, some o, e, rfl, rfl, e2⟩
/-- isinstance(e, c), e such an exception -/
def rIsX (K : PySem.W.Frag) : List V → Hp → VK → Prop := fun xs H Q => ∃ (a D : Addr) (c : V) (cv : Value) (b : Bool), xs = [.ref a, c] ∧ ExcAt H a D ∧ ExcC K D ∧ ClsV c cv ∧ PySem.W.kitOne K (.ref D) cv = some b ∧ Q (.bl b) H
theorem call_isX : CallR X (.builtin "isinstance") (rIsX X.K) := by
  intro pins s σ H xs us Q I r h
  obtain ⟨a, D, c, cv, b, rfl, hx, T, hc, e, q⟩ := h
  obtain ⟨u1, u2, rfl, r1, r2⟩ := vals2 r
  have e2 := hc.eq r2
  subst e2
  cases (show u1 = Value.ref a from r1)
  exact PySem.W.kia_one (kitx_x T) I.kIn (hx.inst I) e (fun z => nomatch z) fun tk => ⟨.bl b, H, I.tok tk, rfl, q⟩
/-- e.f, e an exception with fields -/
def tXget (K : PySem.W.Frag) (f : Str) (te : TE) : TE := fun σ H Q => te σ H fun x H1 => ∃ (a D dx : Addr) (fs : List (Str × V)) (v : V), x = .ref a ∧ H1 a = some (exo a D (some dx)) ∧ H1 dx = some (exd dx fs) ∧ fs.lookup f = some v ∧ ExcC K D ∧ PySem.W.findIn K (.ref D) f = some none ∧ Q v H1
theorem pe_xget {e : Expr} {te : TE} {pos : Pos} {n : Str} (he : PE X e te) (hb : attributeBase e n X.env (eval e X.env) = eval e X.env := by rfl) : PE X (.Attribute e n pos) (tXget X.K n te) := by
  constructor
  intro pins s σ H Q I h
  refine attr_of hb (thn (he.run pins s σ H _ I h) fun u s1 hh => ?_)
  obtain ⟨x, H1, I1, rx, a, D, dx, fs, v, ex, e1, e2, l, T, hno, q⟩ := hh
  subst ex
  obtain rfl : u = Value.ref a := rx
  obtain ⟨t0, g1⟩ := exo_at I1.hok e1
  obtain ⟨mA, hns, hr⟩ := exd_at I1.hok e2
  obtain ⟨od, ho, hl⟩ := lookIn_ns hns
  obtain ⟨u, hu, ru⟩ := RelO.some_of (v := v) (o := mA n) (by rw [← l]; exact hr n)
  have J : PySem.W.InstAt s1.heap a _ D (some od) := ⟨g1, rfl, rfl, ho⟩
  exact HandSPX.exc_get I1.kIn J T.hg T.hk T.hs (PySem.W.findObj_own T.hd hno rfl (by rw [hl, hu])) (handed_of ru) ⟨v, H1, I1.tok _, ru, q⟩
end
end XE

set_option Elab.async false
set_option maxRecDepth 100000
set_option maxHeartbeats 2000000
set_option linter.all false
/-! What a reading evaluates to, told by what is true of the value in the heap behind. -/
namespace XV
open PySem PySem.Spec PyProof.Rows L2 XG Evl

def EvP (te : TE) (σ : L2.St) (H : Hp) (P : V → Hp → Prop) : Prop := ∀ H1, Ex H H1 → ∀ Q : VK, (∀ v H2, Ex H1 H2 → P v H2 → Q v H2) → te σ H1 Q
def EvPA (ta : TA) (σ : L2.St) (H : Hp) (P : List V → Hp → Prop) : Prop := ∀ H1, Ex H H1 → ∀ Q : List V → Hp → Prop, (∀ vs H2, Ex H1 H2 → P vs H2 → Q vs H2) → ta σ H1 Q
def EvTP (tt : TT) (σ : L2.St) (H : Hp) (P : Bool → Prop) : Prop := ∀ H1, Ex H H1 → ∀ Q : Bool → Hp → Prop, (∀ b H2, Ex H1 H2 → P b → Q b H2) → tt σ H1 Q
/-- a word of a value that stays when the heap grows -/
def Stays {α : Type} (P : α → Hp → Prop) : Prop := ∀ v H H', Ex H H' → P v H → P v H'

section
variable {σ : L2.St} {H H' : Hp} {te ta tb : TE} {tr : TA} {v x y : V} {P R S : V → Hp → Prop} {PA RA : List V → Hp → Prop} {t u : TT}
theorem EvP.mono (e : Ex H H') (h : EvP te σ H P) : EvP te σ H' P := fun H1 a Q q => h H1 (e.trans a) Q q
theorem EvPA.mono (e : Ex H H') (h : EvPA tr σ H PA) : EvPA tr σ H' PA := fun H1 a Q q => h H1 (e.trans a) Q q
theorem EvP.of (h : Ev te σ H v) : EvP te σ H (fun x _ => x = v) := fun H1 e Q q => h H1 e Q fun H2 e2 => q v H2 e2 rfl
theorem EvP.to (h : EvP te σ H fun x _ => x = v) : Ev te σ H v := fun H1 e Q q => h H1 e Q fun x H2 e2 z => by rw [z]; exact q H2 e2
theorem EvP.imp (h : EvP te σ H P) (i : ∀ v H1, Ex H H1 → P v H1 → R v H1) : EvP te σ H R := fun H1 e Q q => h H1 e Q fun v H2 e2 p => q v H2 e2 (i v H2 (e.trans e2) p)
theorem EvPA.imp (h : EvPA tr σ H PA) (i : ∀ v H1, Ex H H1 → PA v H1 → RA v H1) : EvPA tr σ H RA := fun H1 e Q q => h H1 e Q fun v H2 e2 p => q v H2 e2 (i v H2 (e.trans e2) p)
theorem EvPA.of {vs : List V} (h : EvA tr σ H vs) : EvPA tr σ H (fun x _ => x = vs) := fun H1 e Q q => h H1 e Q fun H2 e2 => q vs H2 e2 rfl
theorem stays_eq {α : Type} {v : α} : Stays (fun x _ => x = v) := fun _ _ _ _ h => h
theorem evpa_nil : EvPA tNil σ H (fun vs _ => vs = []) := fun H1 _ _ q => q [] H1 (Ex.refl _) rfl
theorem evpa_cons (ha : EvP te σ H P) (mP : Stays P) (hr : EvPA tr σ H RA) : EvPA (tCons te tr) σ H (fun vs H => ∃ v ws, vs = v :: ws ∧ P v H ∧ RA ws H) := fun H1 e Q q =>
  ha H1 e _ fun v H2 e2 p => hr H2 (e.trans e2) _ fun ws H3 e3 r => q (v :: ws) H3 (e2.trans e3) ⟨v, ws, rfl, mP _ _ _ e3 p, r⟩
theorem evpa_one (ha : EvP te σ H P) : EvPA (tCons te tNil) σ H (fun vs H => ∃ v, vs = [v] ∧ P v H) := fun H1 e Q q =>
  ha H1 e _ fun v H2 e2 p => q [v] H2 e2 ⟨v, rfl, p⟩
theorem evp_lst (ha : EvPA tr σ H PA) (mA : Stays PA) (hz : ∀ vs H1, PA vs H1 → vs.length ≤ 100000) : EvP (tLst tr) σ H (fun v H => ∃ p vs, v = .ref p ∧ H p = some (.lst vs) ∧ PA vs H) := fun H1 e Q q =>
  ha H1 e _ fun vs H2 e2 p => ⟨sz_of (hz vs H2 p), fun l hl => q _ _ (e2.trans (Ex.new hl)) ⟨l, vs, rfl, upd_same, mA _ _ _ (Ex.new hl) p⟩⟩
theorem evp_lstS (ha : EvPA tr σ H PA) (mA : Stays PA) (hz : ∀ vs H1, PA vs H1 → vs.length ≤ 100000) : EvP (tLstS tr) σ H (fun v H => ∃ p vs, v = .ref p ∧ p ≠ sysModules ∧ H p = some (.lst vs) ∧ PA vs H) := fun H1 e Q q =>
  ha H1 e _ fun vs H2 e2 p => ⟨sz_of (hz vs H2 p), fun l hl hs => q _ _ (e2.trans (Ex.new hl)) ⟨l, vs, rfl, hs, upd_same, mA _ _ _ (Ex.new hl) p⟩⟩
theorem evp_tup (ha : EvPA tr σ H PA) (mA : Stays PA) (hz : ∀ vs H1, PA vs H1 → vs.length ≤ 100000) : EvP (tTup tr) σ H (fun v H => ∃ p vs, v = .ref p ∧ H p = some (.tup vs) ∧ PA vs H) := fun H1 e Q q =>
  ha H1 e _ fun vs H2 e2 p => ⟨sz_of (hz vs H2 p), fun l hl => q _ _ (e2.trans (Ex.new hl)) ⟨l, vs, rfl, upd_same, mA _ _ _ (Ex.new hl) p⟩⟩
theorem evp_op {r : R2} (ha : EvP ta σ H P) (mP : Stays P) (hb : EvP tb σ H R) (hr : ∀ x y H1, Ex H H1 → P x H1 → R y H1 → ∀ Q : VK, (∀ v H2, Ex H1 H2 → S v H2 → Q v H2) → r x y H1 Q) : EvP (tOp r ta tb) σ H S := fun H1 e Q q =>
  ha H1 e _ fun x H2 e2 p => hb H2 (e.trans e2) _ fun y H3 e3 p2 => hr x y H3 ((e.trans e2).trans e3) (mP _ _ _ e3 p) p2 Q fun v H4 e4 s => q v H4 ((e2.trans e3).trans e4) s
theorem evp_cb {r : List V → Hp → VK → Prop} (ha : EvPA tr σ H RA) (hr : ∀ vs H1, Ex H H1 → RA vs H1 → ∀ Q : VK, (∀ v H2, Ex H1 H2 → S v H2 → Q v H2) → r vs H1 Q) : EvP (tCB r tr) σ H S := fun H1 e Q q =>
  ha H1 e _ fun vs H2 e2 p => hr vs H2 (e.trans e2) p Q fun v H3 e3 s => q v H3 (e2.trans e3) s
theorem evp_call {sp : Sp} {dvs : List V} {E : XK} (ha : EvPA tr σ H RA) (hs : ∀ vs H1, Ex H H1 → RA vs H1 → ∀ Q : VK, (∀ v H2, Ex H1 H2 → S v H2 → Q v H2) → sp (vs ++ dvs) H1 Q E) : EvP (tCall sp dvs E tr) σ H S := fun H1 e Q q =>
  ha H1 e _ fun vs H2 e2 p => hs vs H2 (e.trans e2) p Q fun v H3 e3 s => q v H3 (e2.trans e3) s
theorem et_bl {b : Bool} (h : EvP te σ H fun v _ => v = .bl b) : EvT (tTest te) σ H b := et_test h.to
theorem et_yes : EvT tYes σ H true := fun H1 _ _ q => q H1 (Ex.refl _)
/-! statements -/
variable {D : Ends} {tz tu : TS}
theorem s_asgP {i : Nat} (h : EvP te σ H P) (k : ∀ v H1, Ex H H1 → P v H1 → D.nx (σ.set i (some v)) H1) : tAsg te (gName i) D σ H := h H (Ex.refl H) _ k
theorem q_asgP {i : Nat} (h : EvP te σ H P) (k : ∀ v H1, Ex H H1 → P v H1 → tz D (σ.set i (some v)) H1) : tSeq (tAsg te (gName i)) tz D σ H := s_asgP (D := { D with nx := tz D }) h k
theorem s_retP (h : EvP te σ H P) (k : ∀ v H1, Ex H H1 → P v H1 → D.rt v H1) : tRet te D σ H := h H (Ex.refl H) _ k
/-! xs + ys of two lists -/
theorem evp_cat (ha : EvP ta σ H fun v H => ∃ p vs, v = .ref p ∧ H p = some (.lst vs) ∧ PA vs H) (mA : Stays PA) (hb : EvP tb σ H fun v H => ∃ p vs, v = .ref p ∧ H p = some (.lst vs) ∧ RA vs H) (mR : Stays RA)
    (hz : ∀ xs ys H1, PA xs H1 → RA ys H1 → xs.length + ys.length ≤ 100000) :
    EvP (tOp rCat ta tb) σ H (fun v H => ∃ p vs, v = .ref p ∧ H p = some (.lst vs) ∧ ∃ xs ys, vs = xs ++ ys ∧ PA xs H ∧ RA ys H) := by
  refine evp_op ha (fun v H H' e h => ?_) hb (fun x y H1 e hx hy Q q => ?_)
  · obtain ⟨p, vs, rfl, h1, h2⟩ := h
    exact ⟨p, vs, rfl, e _ _ h1, mA _ _ _ e h2⟩
  · obtain ⟨p, xs, rfl, h1, h2⟩ := hx
    obtain ⟨p', ys, rfl, h3, h4⟩ := hy
    exact ⟨p, p', xs, ys, rfl, rfl, h1, h3, sz_of (hz _ _ _ h2 h4), fun o ho => q _ _ (Ex.new ho) ⟨o, _, rfl, upd_same, xs, ys, rfl, mA _ _ _ (Ex.new ho) h2, mR _ _ _ (Ex.new ho) h4⟩⟩
end

/-! ### lists of truth values, compared -/
section
variable {K : PySem.W.Frag} {σ : L2.St} {H : Hp} {ta tb : TE}
theorem dp_bools : ∀ bs : List Bool, DpAll K H (bs.map V.bl) (bs.map PyData.bool)
  | [] => .nil
  | b :: bs => .cons (.bl b) (dp_bools bs)
theorem lay_bools : ∀ bs : List Bool, PyData.canLayAll0 (bs.map PyData.bool) = true
  | [] => rfl
  | b :: bs => by
    show (true && PyData.canLayAll0 (bs.map PyData.bool)) = true
    rw [lay_bools bs]
    rfl
theorem dep_bools : ∀ bs : List Bool, PyData.depthAll (bs.map PyData.bool) = 0
  | [] => rfl
  | b :: bs => by
    show max 0 (PyData.depthAll (bs.map PyData.bool)) = 0
    rw [dep_bools bs]
    rfl
theorem shaped_bools (bs : List Bool) : SeqAt.shaped (.list (bs.map PyData.bool)) = true := by
  unfold SeqAt.shaped
  rw [Bool.and_eq_true]
  refine ⟨lay_bools bs, decide_eq_true ?_⟩
  show PyData.depthAll _ + 1 ≤ 64
  rw [dep_bools]
  decide
/-- a list of these truth values -/
def IsBools (bs : List Bool) : V → Hp → Prop := fun v H => ∃ p, v = .ref p ∧ H p = some (.lst (bs.map V.bl))
theorem stays_bools {bs : List Bool} : Stays (IsBools bs) := fun v H H' e ⟨p, h1, h2⟩ => ⟨p, h1, e _ _ h2⟩
theorem evp_neB {bs : List Bool} (ha : EvP ta σ H (IsBools bs)) (hb : EvP tb σ H (IsBools bs)) : EvP (tOp (rNeD K) ta tb) σ H (fun v _ => v = .bl false) := by
  refine evp_op ha stays_bools hb (fun x y H1 e hx hy Q q => ?_)
  obtain ⟨p, rfl, h1⟩ := hx
  obtain ⟨p', rfl, h2⟩ := hy
  refine ⟨.list (bs.map PyData.bool), .list (bs.map PyData.bool), .lst (SqL.of h1) (dp_bools bs), .lst (SqL.of h2) (dp_bools bs), shaped_bools bs, shaped_bools bs, ?_⟩
  rw [SeqAt.eqv_refl (.list (bs.map PyData.bool)) (lay_bools bs)]
  exact q _ _ (Ex.refl _) rfl
theorem evp_eqB {bs : List Bool} (ha : EvP ta σ H (IsBools bs)) (hb : EvP tb σ H (IsBools bs)) : EvP (tOp (rEqD K) ta tb) σ H (fun v _ => v = .bl true) := by
  refine evp_op ha stays_bools hb (fun x y H1 e hx hy Q q => ?_)
  obtain ⟨p, rfl, h1⟩ := hx
  obtain ⟨p', rfl, h2⟩ := hy
  refine ⟨.list (bs.map PyData.bool), .list (bs.map PyData.bool), .lst (SqL.of h1) (dp_bools bs), .lst (SqL.of h2) (dp_bools bs), shaped_bools bs, shaped_bools bs, ?_⟩
  rw [SeqAt.eqv_refl (.list (bs.map PyData.bool)) (lay_bools bs)]
  exact q _ _ (Ex.refl _) rfl
/-- [e for x in range(n)], e a truth value -/
theorem evp_lcB {ta : TA} {te : TE} {j : Nat} {vs : List Nat} {n : Nat} (f : Nat → Bool) (hn : n ≤ 40000) (h : EvA ta σ H [.int n]) (hw : ∀ x, wipe ((wipe σ vs).set j (some x)) vs = wipe σ vs)
    (he : ∀ (i : Nat) H1, Ex H H1 → i < n → Ev te ((wipe σ vs).set j (some (.int (i : Int)))) H1 (.bl (f i))) : EvP (tLc (iRng1 ta) (gName j) tYes te vs) σ H (IsBools ((List.range n).map f)) := by
  have k := el_lcR1 (t := tYes) (n := (n : Int)) (fun _ => true) (fun i => V.bl (f i)) h ⟨by omega, by omega⟩ hw (fun i H1 _ _ => et_yes) (fun i H1 e hi _ => he i H1 e (by omega))
  refine fun H1 e Q q => k H1 e Q fun p H2 _ e2 hp => q _ _ e2 ⟨p, rfl, ?_⟩
  rw [hp]
  unfold given
  rw [List.filter_eq_self.mpr (fun _ _ => rfl), List.map_map]
  rfl
end

/-! ### rules within a comprehension's block, whose written part is told -/
section
variable {X : Cx} {K : PySem.W.Frag}
theorem ix_listK (h : X.K = K := by rfl) : IxR X (rIxL K) := h ▸ ix_list
theorem ix_tupK (h : X.K = K := by rfl) : IxR X (rIxT K) := h ▸ ix_tup
theorem op_in_seqK (h : X.K = K := by rfl) : OpR X (compareOp .In) (rIn K false) := h ▸ op_in_seq
theorem op_notIn_seqK (h : X.K = K := by rfl) : OpR X (compareOp .NotIn) (rIn K true) := h ▸ op_notIn_seq
theorem op_eqDK (hu : X.A.units + 64 < cLine) (h : X.K = K := by rfl) : OpR X (compareOp .Eq) (rEqD K) := h ▸ op_eqD hu
theorem op_neDK (hu : X.A.units + 64 < cLine) (h : X.K = K := by rfl) : OpR X (compareOp .NotEq) (rNeD K) := h ▸ op_neD hu
end
end XV

set_option Elab.async false
set_option maxRecDepth 100000
set_option maxHeartbeats 2000000
set_option linter.all false
/-! Sets of any kind of keys whose table can be walked; set(xs) and sorted(set) of texts. -/
namespace XT
open PySem PySem.Spec PyProof.Rows L2
section
variable {P : Program} {w : World} {κ : Type} [DecidableEq κ] (knd : KeyKind P w κ)
/-- no key stands twice -/
def Once (l : List (Int × Value)) : Prop := l.Pairwise fun e f => ∀ k, knd.is k e.2 = true → ¬ knd.is k f.2 = true
/-- the table: it rises, and it can be walked -/
def Walk (w : World) (t : SetTable) : Prop := Ris t.place.toList ∧ (w.params.followText "set-order" = true ∨ t.led = true)
/-- the set at a, with its members and its table -/
structure Row (h : Heap) (a : Addr) (es : Array (Int × Value)) (t : SetTable) : Prop where
  here : ∃ o ep, h.get? a = some o ∧ o.ExactSet ∧ o.data = .set es ep t
  el : ElemsOf knd es.toList
  one : Once knd es.toList
  few : es.size < scanBound
  fit : t.fits es.size = true
  way : Walk w t
variable {knd}
variable {A : Around} {E : Value → Shared → Prop} {s : Shared} {a : Addr} {es : Array (Int × Value)} {t : SetTable}
/-- k is a member -/
def Has (knd : KeyKind P w κ) (es : Array (Int × Value)) (k : κ) : Prop := ∃ e ∈ es.toList, knd.is k e.2 = true
theorem sym_once {l : List (Int × Value)} {e f : Int × Value} (h : ∀ k, knd.is k e.2 = true → ¬ knd.is k f.2 = true) : ∀ k, knd.is k f.2 = true → ¬ knd.is k e.2 = true := fun k h1 h2 => h k h2 h1
theorem once_perm {l m : List (Int × Value)} (p : l.Perm m) (h : Once knd l) : Once knd m := (p.pairwise_iff fun h => sym_once (l := l) h).mp h
theorem Row.move {h h' : Heap} (R : Row knd h a es t) (k : ∀ o, h.get? a = some o → h'.get? a = some o) : Row knd h' a es t := by
  obtain ⟨o, ep, h1, h2⟩ := R.here
  exact ⟨⟨o, ep, k o h1, h2⟩, R.el, R.one, R.few, R.fit, R.way⟩
/-- what is stored at the end of an add -/
theorem store_end {Z : Array (Int × Value)} {t2 : SetTable} {o : Obj} {ep : Nat} {es : Array (Int × Value)} {t : SetTable} (g0 : s.heap.get? a = some o) (gx : o.ExactSet) (gd : o.data = .set es ep t)
    (el : ElemsOf knd Z.toList) (one : Once knd Z.toList) (few : Z.size < scanBound) (fit : t2.fits Z.size = true) (way : Walk w t2) {g : Bool → Sem Unit} (hg : ∀ b (s₁ : Shared) (Q' : Unit → Shared → Prop), Q' () s₁ → wpAny (model P w) A (g b) Q' E s₁)
    {dum : Bool} {R : Option Bool → Shared → Prop} (hR : ∀ h' es' t', Heap.SameBut a s.heap h' → Row knd h' a es' t' → es'.toList.Perm Z.toList → R (some true) { s with heap := h' }) :
    wpAny (model P w) A (storeSet a Z t2 >>= fun _ => if (!dum && t2.tooFull) = true then
      (do g (relayAll t2 Z (SetTable.grown Z.size)).2.2; storeSet a (relayAll t2 Z (SetTable.grown Z.size)).1 (relayAll t2 Z (SetTable.grown Z.size)).2.1; pure (some true)) else pure (some true)) R E s := by
  refine wpAny_bind (wpAny_storeSet_of g0 gd ?_ (fits_of_scanBound few))
  have g1 := store_at (es' := Z) (t' := t2) g0 gd
  have b1 := Heap.SameBut.update s.heap a (Obj.putSet Z t2)
  by_cases c : (!dum && t2.tooFull) = true
  · rw [if_pos c]
    have p1 := relayAll_perm t2 Z (SetTable.grown Z.size)
    have p2 := relayAll_fits t2 Z (SetTable.grown Z.size)
    have p3 := relayAll_ris t2 Z (SetTable.grown Z.size)
    have p4 := relayAll_led t2 Z (SetTable.grown Z.size)
    generalize relayAll t2 Z (SetTable.grown Z.size) = W at p1 p2 p3 p4 ⊢
    have zz : W.1.size = Z.size := by rw [← Array.length_toList, p1.length_eq, Array.length_toList]
    have few2 : W.1.size < scanBound := zz ▸ few
    refine wpAny_bind (hg _ _ _ (wpAny_bind (wpAny_storeSet_of g1 rfl (wpAny_pure (hR _ W.1 W.2.1 (b1.trans (Heap.SameBut.update _ a _)) ?_ p1)) (fits_of_scanBound few2))))
    exact { here := ⟨_, _, store_at g1 rfl, gx, rfl⟩, el := fun e he => el e (p1.mem_iff.mp he), one := once_perm p1.symm one, few := few2, fit := p2, way := ⟨p3, way.2.imp id fun z => p4.trans z⟩ }
  · rw [if_neg c]
    exact wpAny_pure (hR _ Z t2 b1 { here := ⟨_, _, g1, gx, rfl⟩, el := el, one := one, few := few, fit := fit, way := way } (List.Perm.refl _))
theorem add_row {k : κ} {x : Value} {Q : Bool → Shared → Prop} (hk : knd.is k x = true) (hc : x.scannable = true) (R : Row knd s.heap a es t) (room : es.size + 1 < scanBound)
    (h0 : Has knd es k → Q false s) (h1 : ¬ Has knd es k → ∀ h' es' t', Heap.SameBut a s.heap h' → Row knd h' a es' t' → es'.toList.Perm ((knd.hash k, x) :: es.toList) → Q true { s with heap := h' }) :
    wpAny (model P w) A (setAddHashed a x (knd.hash k)) Q E s := by
  obtain ⟨⟨o, ep, g0, gx, gd⟩, el, one, few, fit, way⟩ := R
  unfold setAddHashed
  unfold setAddHashedIn
  refine wpAny_holding (wpAny_bind (wpAny_setState_of g0 gd fit ?_))
  dsimp only
  rw [byScan_of hc few el, if_pos rfl]
  unfold setAddByScan
  refine wpAny_bind (wpAny_bind (wpAny_rule (wpAny_bind (wpAny_setScan_of hk g0 gd fit el ?_))))
  cases hf : List.findIdx? (fun e => knd.is k e.2) es.toList with
  | some j =>
    obtain ⟨hj, pj, _⟩ := List.findIdx?_eq_some_iff_getElem.mp hf
    exact wpAny_pure (wpAny_pure (h0 ⟨_, List.getElem_mem hj, pj⟩))
  | none =>
    have nk : ¬ Has knd es k := fun ⟨e, he, q⟩ => by
      have c := List.findIdx?_eq_none_iff.mp hf e he
      rw [q] at c
      cases c
    dsimp only
    have q1 := layNew_perm t es (knd.hash k) x
    have q2 := layNew_fits t es (knd.hash k) x
    have q3 := layNew_ris t es (knd.hash k) x way.1
    have q4 := layNew_led t es (knd.hash k) x
    generalize layNew t es (knd.hash k) x = Z at q1 q2 q3 q4 ⊢
    obtain ⟨Y, t1, dum, gave⟩ := Z
    dsimp only at q1 q2 q3 q4 ⊢
    rw [Array.toList_push] at q1
    have pc : Y.toList.Perm ((knd.hash k, x) :: es.toList) := q1.trans (List.perm_append_singleton _ _)
    have el1 : ElemsOf knd Y.toList := fun e he => by
      rcases List.mem_cons.mp (pc.mem_iff.mp he) with z | z
      · rw [z]
        exact ⟨⟨k, hk, rfl⟩, hc⟩
      · exact el e z
    have one1 : Once knd Y.toList := once_perm pc.symm (List.pairwise_cons.mpr ⟨fun f hf k' z1 z2 => nk ⟨f, hf, by rw [knd.inj x k k' hk z1]; exact z2⟩, one⟩)
    have sz1 : Y.size = es.size + 1 := by rw [← Array.length_toList, pc.length_eq, List.length_cons, Array.length_toList]
    have few1 : Y.size < scanBound := by omega
    have way1 : Walk w t1 := ⟨q3, way.2.imp id fun z => q4.trans z⟩
    have gw : ∀ (b : Bool) (s₁ : Shared) (Q' : Unit → Shared → Prop), Q' () s₁ → wpAny (model P w) A (match b with | true => rule "set.scan.the-table-gave-way" | false => pure ()) Q' E s₁ := fun b s₁ Q' q => by
      cases b with
      | true => exact wpAny_rule q
      | false => exact wpAny_pure q
    refine wpAny_bind (gw _ _ _ ?_)
    split
    · refine wpAny_bind ?_
      rw [hashByValue_scannable 8 hc]
      refine wpAny_pure ?_
      refine store_end g0 gx gd el1 one1 few1 ?_ ?_ gw ?_
      · split
        · exact q2
        · exact SetTable.fits_plain_off q2
      · split <;> exact way1
      · intro h' es' t' b r p
        exact wpAny_pure (h1 nk h' es' t' b r (p.trans pc))
    · refine wpAny_bind (wpAny_pure ?_)
      refine store_end g0 gx gd el1 one1 few1 ?_ ?_ gw ?_
      · exact q2
      · exact way1
      · intro h' es' t' b r p
        exact wpAny_pure (h1 nk h' es' t' b r (p.trans pc))
/-- the set holds the first i keys -/
def Upto (knd : KeyKind P w κ) (ks : List κ) (h : Heap) (S : Addr) (i : Nat) : Prop := ∃ es t, Row knd h S es t ∧ (∀ k, Has knd es k ↔ k ∈ ks.take i) ∧ es.size ≤ i
theorem Upto.move {ks : List κ} {h h' : Heap} {S : Addr} {i : Nat} (U : Upto knd ks h S i) (k : ∀ o, h.get? S = some o → h'.get? S = some o) : Upto knd ks h' S i := by
  obtain ⟨es, t, R, r⟩ := U
  exact ⟨es, t, R.move k, r⟩
theorem has_perm {es es' : Array (Int × Value)} {k : κ} {x : Value} (hk : knd.is k x = true) (p : es'.toList.Perm ((knd.hash k, x) :: es.toList)) (k' : κ) : Has knd es' k' ↔ Has knd es k' ∨ k' = k := by
  constructor
  · rintro ⟨e, he, q⟩
    rcases List.mem_cons.mp (p.mem_iff.mp he) with z | z
    · rw [z] at q
      exact .inr (knd.inj x k' k q hk)
    · exact .inl ⟨e, z, q⟩
  · rintro (⟨e, he, q⟩ | rfl)
    · exact ⟨e, p.mem_iff.mpr (List.mem_cons_of_mem _ he), q⟩
    · exact ⟨_, p.mem_iff.mpr List.mem_cons_self, hk⟩
theorem take_one {ks : List κ} {i : Nat} {k : κ} (h : ks[i]? = some k) (k' : κ) : k' ∈ ks.take (i + 1) ↔ k' ∈ ks.take i ∨ k' = k := by
  rw [List.take_add_one, h]
  simp
theorem fill {I : Addr} {fp wr : List Addr} {G : Array GenState → Array GenState → Prop} {n : Nat} {Pv : Nat → Value → Prop} {St : Nat → Shared → Prop} {R : Result → Shared → Prop} {ks : List κ} {S : Addr}
    (W : WalksS P w A.in1 I fp wr G n Pv St) (off : S ∉ fp) (hn : ks.length = n) (n64 : n < 4000) (hv : ∀ i v, Pv i v → ∃ k, ks[i]? = some k ∧ knd.is k v = true ∧ v.scannable = true) :
    ∀ (m i : Nat) (s : Shared), n - i = m → i ≤ n → St i s → Upto knd ks s.heap S i → (∀ s', Moved (S :: wr) G s s' → Upto knd ks s'.heap S n → R (.ok (.ret .none)) s') →
      codeAny (model P w) A (.builtin "set.update.loop" ⟨[.ref S, .ref I], []⟩) R s := by
  have offw : S ∉ wr := fun h => off (W.sub _ h)
  have wide : ∀ b ∈ wr, b ∈ S :: wr := fun b => List.mem_cons_of_mem _
  intro m
  induction m with
  | zero =>
    intro i s em hi st U fin
    obtain rfl : i = n := by omega
    refine codeAny_builtin F.entry_set_update_loop ?_
    rw [Around.under_plainId F.plain_set_update_loop]
    show wpAny (model P w) A.in1 (pyNext (.ref I) >>= _) _ _ s
    refine wpAny_bind (W.done s _ _ st fun s1 mv => ?_)
    show wpAny (model P w) A.in1 (ret Value.none) _ _ s1
    exact wpAny_pure (fin s1 (mv.mono wide) (U.move fun o e => mv.heap S o offw e))
  | succ m ih =>
    intro i s em hi st U fin
    have hi2 : i < n := by omega
    refine codeAny_builtin F.entry_set_update_loop ?_
    rw [Around.under_plainId F.plain_set_update_loop]
    show wpAny (model P w) A.in1 (pyNext (.ref I) >>= _) _ _ s
    refine wpAny_bind (W.item i s _ _ hi2 st fun v s1 pv st1 mv => ?_)
    obtain ⟨k, hk, is, sc⟩ := hv i v pv
    obtain ⟨es, t, Rw, mem, few⟩ := U.move fun o e => mv.heap S o offw e
    show wpAny (model P w) A.in1 (holding [v] (setAdd S v) >>= _) _ _ s1
    refine wpAny_bind (wpAny_holding ?_)
    unfold setAdd
    refine wpAny_holding (wpAny_bind (knd.pyHash is ?_))
    have go : ∀ h2, Heap.SameBut S s1.heap h2 → Upto knd ks h2 S (i + 1) → ∀ tk, codeAny (model P w) A (.builtin "set.update.loop" ⟨[.ref S, .ref I], []⟩) R { s1 with heap := h2, toks := tk + s1.toks } := fun h2 sb U2 tk =>
      ih (i + 1) _ (by omega) hi2 (W.frame _ s1 _ _ st1 (Nat.le_add_left _ _) fun b hb o e => by
        rw [sb.2 b fun z => off (z ▸ hb)]
        exact e) U2 fun s3 mv3 U3 => fin s3 (Moved.trans W.gtrans ((mv.mono wide).then_heap (Nat.le_add_left _ _) fun b o hb e => by
          rw [sb.2 b fun z => hb (z ▸ List.mem_cons_self)]
          exact e) mv3) U3
    refine add_row (s := { s1 with toks := s1.toks + 1 }) is sc Rw (by unfold scanBound; omega) (fun hs => ?_) fun hs h2 es2 t2 sb R2 p2 => ?_
    · refine wpAny_pure ⟨plainId_quiet F.plain_set_update_loop _, ?_⟩
      have := go s1.heap (Heap.SameBut.refl S s1.heap) ⟨es, t, Rw, fun k' => by
        rw [take_one hk, mem]
        exact ⟨.inl, fun z => z.elim id fun z => z ▸ (mem k).mp hs⟩, by omega⟩ 1
      rw [Nat.add_comm] at this
      exact this
    · refine wpAny_pure ⟨plainId_quiet F.plain_set_update_loop _, ?_⟩
      have hz : es2.size = es.size + 1 := by rw [← Array.length_toList, p2.length_eq, List.length_cons, Array.length_toList]
      have := go h2 sb ⟨es2, t2, R2, fun k' => by rw [take_one hk, has_perm is p2, mem], by omega⟩ 1
      rw [Nat.add_comm] at this
      exact this
/-- a set without members -/
abbrev bare (w : World) : Obj := { cls := .type "set", dict := none, data := .set #[] 0 (.fresh 0 0 (!w.params.followText "set-order")) }
theorem upto_bare {h : Heap} {S : Addr} {ks : List κ} (e : h.get? S = some (bare w)) : Upto knd ks h S 0 := by
  refine ⟨#[], _, ⟨⟨_, 0, e, ⟨rfl, rfl, rfl⟩, rfl⟩, fun e z => by simp at z, List.Pairwise.nil, by decide, rfl, List.Pairwise.nil, ?_⟩, fun k => ?_, Nat.le_refl _⟩
  · show _ ∨ (!w.params.followText "set-order") = true
    cases w.params.followText "set-order" <;> simp
  · simp [Has]
set_option maxHeartbeats 3200000 in
/-- set(xs) of a list whose items are keys -/
theorem set_of_list {l : Addr} {items : Array Value} (ks : List κ) {Q : Value → Shared → Prop} (hh : A.handled = none) (hl : s.heap.IsList l items) (hn : ks.length = items.size) (n64 : items.size < 4000)
    (hv : ∀ (i : Nat) (v : Value), items[i]? = some v → ∃ k, ks[i]? = some k ∧ knd.is k v = true ∧ v.scannable = true)
    (h : ∀ (h' : Heap) (tk : Nat), Upto knd ks h' s.heap.objs.size items.size → (∀ b o, s.heap.get? b = some o → h'.get? b = some o) → Q (.ref s.heap.objs.size) { s with heap := h', toks := tk }) :
    wpAny (model P w) A (call (.type "set") [.ref l]) Q E s := by
  obtain ⟨_, _, m0⟩ := F.called_set.mro
  have m1 := F.called_set.made
  have m2 := F.called_set.sub
  have m3 := F.called_set.notType
  have m4 := F.called_set.canCreate
  have m5 := F.typeCall_set_1 (.ref l)
  refine wpAny_call (codeAny_of_tree ?_)
  show wpAny (model P w) _ (callAny (.type "set") _) _ _ _
  refine wpAny_pure ⟨Code.quiet_builtin _ (by decide +kernel), codeAny_builtin F.entry_type_call ?_⟩
  rw [Around.under_plain (weight_type_call_type "set" [.ref l] []) rfl]
  repeat (any_goals (first | assumption | wp_step))
  refine codeAny_mono (code_set_led1 (.ref l) (E := E) (Q₁ := fun u s1 => u = .ref s.heap.objs.size ∧ s1 = { s with heap := s.heap.push (bare w) }) ⟨rfl, rfl⟩) fun r s1 hr => ?_
  cases r with
  | error e => exact hr
  | ok fl =>
    cases fl with
    | ret u =>
      obtain ⟨rfl, rfl⟩ := hr
      have g1 : (s.heap.push (bare w)).get? s.heap.objs.size = some (bare w) := Heap.get?_push_size _ rfl
      have T1 : Shared.TypeIs { s with heap := s.heap.push (bare w) } (.ref s.heap.objs.size) "set" := ⟨_, g1, rfl⟩
      have m6 := F.called_set.init.lookup
      have m7 := F.called_set.init.bind (.ref s.heap.objs.size)
      repeat (any_goals (first | assumption | wp_step))
      refine codeAny_mono (codeAny_call_builtin (R := wants (fun r s2 => r = .none ∧ ∃ h' tk, s2 = { s with heap := h', toks := tk } ∧ Upto knd ks h' s.heap.objs.size items.size ∧ ∀ b o, s.heap.get? b = some o → h'.get? b = some o) E)
        F.called_set.init.plain F.entry_set_init (check_set_init_1 T1 ?_)) fun r2 s2 hr2 => ?_
      · obtain ⟨⟨c0, d0, x0, sl0⟩, g2, c2, nl, d2⟩ := id hl
        obtain rfl : c0 = .type "list" := c2
        obtain rfl : x0 = .seq items nl := d2
        have g3 : (s.heap.push (bare w)).get? l = some { cls := .type "list", dict := d0, data := .seq items nl, slots := sl0 } := Heap.get?_push_of_some _ g2
        have m8 := F.sub_list_set
        have m9 := F.sub_list_frozenset
        have ma : (Value.type "list" == Value.type "dict") = false := by decide
        have L1 : (s.heap.push (bare w)).IsList l items := ⟨_, g3, rfl, nl, rfl⟩
        unfold Builtin.«set.__init__» noKeywords
        unfold Builtin.Frozenset.updateFrom
        generalize hPI : pyIter = PI
        wp_walk
        subst hPI
        refine wpAny_pyIter_list L1 (wpAny_bind (wpAny_runValue ?_))
        have lS : l < s.heap.objs.size := Heap.lt_size g2
        have z1 : (s.heap.push (bare w)).objs.size = s.heap.objs.size + 1 := Heap.size_push ..
        have ne1 : l ≠ (s.heap.push (bare w)).objs.size := by
          rw [z1]
          exact Nat.ne_of_lt (Nat.lt_succ_of_lt lS)
        have off : s.heap.objs.size ∉ [(s.heap.push (bare w)).objs.size, l] := by
          rw [z1]
          simp only [List.mem_cons, List.not_mem_nil, or_false, not_or]
          exact ⟨Nat.ne_of_lt (Nat.lt_succ_self _), Nat.ne_of_gt lS⟩
        refine fill (ks := ks) ((Walks.list (by simp [hh]) _ l ne1 items).toS) off hn n64 hv (items.size - 0) 0 _ (by omega) (Nat.zero_le _) ⟨⟨_, Heap.get?_push_size _ rfl, rfl, rfl⟩, L1.push _⟩ (upto_bare (Heap.get?_push_of_some _ g1)) ?_
        rintro ⟨h', g', d', tk', os'⟩ mv U
        obtain rfl : g' = s.gens := mv.gens
        obtain rfl : d' = s.drawn := mv.drawn
        obtain rfl : os' = s.os := mv.os
        show wpAny _ _ _ _ _ _
        refine wpAny_pure ?_
        show wpAny _ _ (ret Value.none) _ _ _
        refine wpAny_pure ⟨rfl, h', tk', rfl, U, fun b o e => ?_⟩
        have lb : b < s.heap.objs.size := Heap.lt_size e
        refine mv.heap b o (fun z => ?_) (Heap.get?_push_of_some _ (Heap.get?_push_of_some _ e))
        rw [z1] at z
        simp only [List.mem_cons, List.not_mem_nil, or_false] at z
        exact z.elim (Nat.ne_of_lt lb) (Nat.ne_of_lt (Nat.lt_succ_of_lt lb))
      · cases r2 with
        | error e => exact hr2
        | ok fl2 =>
          cases fl2 with
          | ret r =>
            obtain ⟨rfl, h', tk, rfl, U, kp⟩ := hr2
            repeat (any_goals (first | assumption | wp_step))
            exact h _ _ U kp
          | _ => exact hr2.elim
    | _ => exact hr.elim
end
/-! ### sorted(a set of texts) -/
section
variable {P : Program} {w : World} {A : Around} {E : Value → Shared → Prop} {s : Shared} {a : Addr} {es : Array (Int × Value)} {t : SetTable}
theorem str_is {k : Str} {v : Value} (h : (PySem.strKind P w).is k v = true) : ∃ tk, v = .str k tk := Value.isStrOf_shape h
theorem sorted_txts {Q : Value → Shared → Prop} (R : Row (PySem.strKind P w) s.heap a es t) (hh : A.handled = none) (few : es.size < 64)
    (hQ : ∀ (s' : Shared) (p : Addr) (out : Array Value) (c : Nat) (ys : List Str), (∀ b o, s.heap.get? b = some o → s'.heap.get? b = some o) → s'.gens = s.gens → s'.os = s.os → s.heap.objs.size ≤ p → s'.heap.get? p = some (seqObj "list" out c) →
      StrsAre out.toList ys → sortedS ys = true → ys.Nodup → (∀ k, k ∈ ys ↔ Has (PySem.strKind P w) es k) → Q (.ref p) s') :
    wpAny (model P w) A (call (.builtin "sorted") [.ref a]) Q E s := by
  obtain ⟨o, ep, g0, gx, gd⟩ := R.here
  refine Calls.call_function_entry kind_sorted plain_sorted entry_sorted (args_sorted1 _) ?_
  unfold Builtin.«sorted»
  refine wpAny_bind (m := checkCount "sorted" 1 1 _) (wpAny_pure (wpAny_bind (collect_set (A := A.in1) hh ⟨o, g0, gx.1, gd⟩ R.fit R.few R.way.1 R.way.2 fun s1 vs k1 z1 e1 e2 pm => ?_)))
  have lv : vs.length = es.size := by rw [pm.length_eq, List.length_map, Array.length_toList]
  have all : ∀ v ∈ vs, ∃ x tk, v = .str x tk := fun v hv => by
    obtain ⟨e, he, rfl⟩ := List.mem_map.mp (pm.mem_iff.mp hv)
    obtain ⟨⟨k, hk, _⟩, _⟩ := R.el e he
    obtain ⟨tk, e⟩ := str_is hk
    exact ⟨k, tk, e⟩
  have S1 : StrsAre vs (vs.map strOf) := strsAre_map vs all
  refine wpAny_bind (wpAny_newList ?_ (by rw [lv, sizeLine_eq]; omega))
  have g1 : (s1.heap.push (seqObj "list" vs.toArray 0)).get? s1.heap.objs.size = some (seqObj "list" vs.toArray 0) := Heap.get?_push_size _ rfl
  refine wpAny_bind (wpAny_holding (wpAny_call_entry slot_list_sort ⟨_, g1, rfl⟩ entry_list_sort (list_sort_treeK strKind_oneLt g1 S1.keysOf (fun v1 v2 r e => keyKind_strs (by rw [← e]; exact S1)) (by omega) fun st hp hs => ⟨_, rfl, ?_⟩) (args_list_sort _)))
  obtain ⟨ys, y1, y2, y3⟩ := sorted_out_str S1 hp hs
  obtain ⟨c, hc⟩ := sortedHeap_at (vs := vs) (out := (arrOf st).map (·.2)) g1
  have mem : ∀ k, k ∈ vs.map strOf ↔ Has (PySem.strKind P w) es k := fun k => by
    rw [List.mem_map]
    constructor
    · rintro ⟨v, hv, rfl⟩
      obtain ⟨e, he, rfl⟩ := List.mem_map.mp (pm.mem_iff.mp hv)
      obtain ⟨⟨k, hk, _⟩, _⟩ := R.el e he
      obtain ⟨tk, q⟩ := str_is hk
      rw [q] at hk ⊢
      exact ⟨e, he, by rw [q]; exact hk⟩
    · rintro ⟨e, he, hk⟩
      obtain ⟨tk, q⟩ := str_is hk
      exact ⟨e.2, pm.mem_iff.mpr (List.mem_map_of_mem he), by rw [q]; rfl⟩
  have nd : (vs.map strOf).Nodup := by
    rw [(pm.map strOf).nodup_iff, List.map_map]
    refine (List.pairwise_map.mpr (R.one.imp_of_mem fun {e f} he hf h q => ?_))
    obtain ⟨⟨k, hk, _⟩, _⟩ := R.el e he
    obtain ⟨⟨k', hk', _⟩, _⟩ := R.el f hf
    obtain ⟨tk, q1⟩ := str_is hk
    obtain ⟨tk', q2⟩ := str_is hk'
    have : k = k' := by
      have q : strOf e.2 = strOf f.2 := q
      rw [q1, q2] at q
      exact q
    subst this
    exact h k hk hk'
  refine wpAny_pure ⟨_, rfl, hQ _ s1.heap.objs.size _ c ys (fun b u e => ?_) e1 e2 z1 hc y1 y3 (y2.nodup_iff.mpr nd) fun k => by rw [y2.mem_iff, mem]⟩
  have q := k1 b u e
  have lt := Heap.lt_size q
  show (sortedHeap (s1.heap.push (seqObj "list" vs.toArray 0)) s1.heap.objs.size vs _).get? b = some u
  rw [sortedHeap_old (Nat.ne_of_lt lt) (by rw [size_push']; exact Nat.lt_succ_of_lt lt)]
  exact Heap.get?_push_of_some _ q
end
/-! ### by values -/
theorem all_but {s s' : Shared} (o : s'.os = s.os) : s' = { s with heap := s'.heap, gens := s'.gens, drawn := s'.drawn, toks := s'.toks } := by
  cases s'
  cases s
  cases o
  rfl
theorem nodup_len {α : Type} [DecidableEq α] : ∀ {l D : List α}, l.Nodup → (∀ x ∈ l, x ∈ D) → l.length ≤ D.length
  | [], _, _, _ => Nat.zero_le _
  | x :: l, D, h, s => by
    obtain ⟨h1, h2⟩ := List.nodup_cons.mp h
    have hx := s x List.mem_cons_self
    have q := nodup_len (D := D.erase x) h2 fun y hy => (List.mem_erase_of_ne (show y ≠ x from fun e => h1 (e ▸ hy))).mpr (s y (List.mem_cons_of_mem _ hy))
    rw [List.length_erase_of_mem hx] at q
    have := List.length_pos_of_mem hx
    rw [List.length_cons]
    omega
/-- the set of these texts at a -/
def SetX (P : Program) (w : World) (a : Addr) (ks : List Str) : HO := .ext fun h => ∃ es t, Row (PySem.strKind P w) h a es t ∧ (∀ k, Has (PySem.strKind P w) es k ↔ k ∈ ks) ∧ es.size ≤ ks.length
theorem setX_new {P : Program} {w : World} {H : Hp} {h : Heap} {a : Addr} {ks : List Str} (R : ∃ es t, Row (PySem.strKind P w) h a es t ∧ (∀ k, Has (PySem.strKind P w) es k ↔ k ∈ ks) ∧ es.size ≤ ks.length) : ObjOk P w H h a (SetX P w a ks) := by
  have ⟨es, t, r, _⟩ := R
  obtain ⟨o, ep, g, _⟩ := r.here
  exact ⟨R, ⟨o, g⟩, fun h1 h2 ⟨es', t', r', q⟩ k => ⟨es', t', r'.move k, q⟩⟩
theorem strs_key {P : Program} {w : World} : ∀ {vs : List Value} {ks : List Str}, StrsAre vs ks → ∀ (i : Nat) (v : Value), vs[i]? = some v → ∃ k, ks[i]? = some k ∧ (PySem.strKind P w).is k v = true ∧ v.scannable = true
  | _, _, .nil, i, v, h => by simp at h
  | _, _, .cons y t r, 0, v, h => by
    obtain rfl : Value.str y t = v := by simpa using h
    exact ⟨y, rfl, strKind_is _ _ _ _, rfl⟩
  | _, _, .cons y t r, i + 1, v, h => by
    obtain ⟨k, h1, h2⟩ := strs_key (P := P) (w := w) r i v (by simpa using h)
    exact ⟨k, by simpa using h1, h2⟩
theorem ints_key {P : Program} {w : World} : ∀ {vs : List Value} {ks : List Int}, IntsAre vs ks → ∀ (i : Nat) (v : Value), vs[i]? = some v → ∃ k, ks[i]? = some k ∧ (PySem.intKind P w).is k v = true ∧ v.scannable = true
  | _, _, .nil, i, v, h => by simp at h
  | _, _, .cons y t r, 0, v, h => by
    obtain rfl : Value.int y t = v := by simpa using h
    exact ⟨y, rfl, intKind_is _ _ _ _, rfl⟩
  | _, _, .cons y t r, i + 1, v, h => by
    obtain ⟨k, h1, h2⟩ := ints_key (P := P) (w := w) r i v (by simpa using h)
    exact ⟨k, by simpa using h1, h2⟩
section
variable {X : Cx}
/-- set(xs), xs a list of texts -/
def rSetS (K : PySem.W.Frag) (P : Program) (w : World) : List V → Hp → VK → Prop := fun xs H Q => ∃ (l : Addr) (ks : List Str), xs = [V.ref l] ∧ SqL K H l (ks.map V.str) ∧ ks.length < 4000 ∧ ∀ p, H p = none → Q (.ref p) (upd H p (SetX P w p ks))
theorem cr_setS (hc : X.calm = true) : CallR X (.type "set") (rSetS X.K X.prog X.w) := by
  intro pins s σ H xs us Q I r h
  obtain ⟨l, ks, rfl, hl, hz, q⟩ := h
  rw [Vals.ref1 r]
  obtain ⟨its, rv, pl, _⟩ := I.list hl
  have len := rv.length
  rw [List.length_map] at len
  have hn : H s.heap.objs.size = none := I.hok.fresh (Nat.le_refl _)
  refine set_of_list (P := X.prog) (w := X.w) (knd := PySem.strKind X.prog X.w) ks (I.ok.hd hc) pl.isList (by simpa using len) (by simpa using len ▸ hz) (fun i v e => strs_key rv.strs i v (by simpa using e)) fun h' tk U k => ?_
  obtain ⟨es, t, R, mem, few⟩ := U
  refine ⟨.ref s.heap.objs.size, upd H s.heap.objs.size (SetX X.prog X.w s.heap.objs.size ks), I.laid (t' := tk) k (Nat.le_refl _) (setX_new ⟨es, t, R, fun k => ?_, ?_⟩), rfl, q _ hn⟩
  · rw [mem k, List.take_of_length_le (by simp [len])]
  · simpa [len] using few
/-- set(xs), xs a list of ints -/
def rSetI (K : PySem.W.Frag) (w : World) : List V → Hp → VK → Prop := fun xs H Q => ∃ (l : Addr) (ks : List Int), xs = [V.ref l] ∧ SqL K H l (ks.map V.int) ∧ ks.length < 4000 ∧ ∀ p n, H p = none → n ≤ ks.length → Q (.ref p) (upd H p (SetO w p (fun k => decide (k ∈ ks)) n))
theorem row_ints {P : Program} {w : World} {h : Heap} {a : Addr} {es : Array (Int × Value)} {t : SetTable} {ks : List Int} (R : Row (PySem.intKind P w) h a es t) (mem : ∀ k, Has (PySem.intKind P w) es k ↔ k ∈ ks) : SetR w h a (fun k => decide (k ∈ ks)) es.size := by
  obtain ⟨o, ep, g0, gx, gd⟩ := R.here
  have good : ∀ e ∈ es.toList, GoodE e := fun e he => by
    obtain ⟨⟨k, hk, q⟩, _⟩ := R.el e he
    obtain ⟨tk, z⟩ := Value.isInt_shape hk
    exact ⟨k, tk, z, q⟩
  refine ⟨o, es, ep, t, g0, gx, gd, good, ?_, fun k => ?_, R.few, R.fit, rfl, R.way⟩
  · refine List.pairwise_map.mpr (R.one.imp_of_mem fun {e f} he hf h q => ?_)
    exact h (keyOf e) ((good_is (good e he) _).2 rfl) ((good_is (good f hf) _).2 q.symm)
  · rw [decide_eq_true_eq, ← mem k]
    exact (good_mem good k).symm
theorem cr_setI (hc : X.calm = true) : CallR X (.type "set") (rSetI X.K X.w) := by
  intro pins s σ H xs us Q I r h
  obtain ⟨l, ks, rfl, hl, hz, q⟩ := h
  rw [Vals.ref1 r]
  obtain ⟨its, rv, pl, _⟩ := I.list hl
  have len := rv.length
  rw [List.length_map] at len
  have hn : H s.heap.objs.size = none := I.hok.fresh (Nat.le_refl _)
  refine set_of_list (P := X.prog) (w := X.w) (knd := PySem.intKind X.prog X.w) ks (I.ok.hd hc) pl.isList (by simpa using len) (by simpa using len ▸ hz) (fun i v e => ints_key rv.ints i v (by simpa using e)) fun h' tk U k => ?_
  obtain ⟨es, t, R, mem, few⟩ := U
  have mem2 : ∀ k, Has (PySem.intKind X.prog X.w) es k ↔ k ∈ ks := fun k => by rw [mem k, List.take_of_length_le (by simp [len])]
  exact ⟨.ref s.heap.objs.size, upd H s.heap.objs.size (SetO X.w s.heap.objs.size _ es.size), I.laid (t' := tk) k (Nat.le_refl _) (setO_new (row_ints R mem2)), rfl, q _ _ hn (by simpa [len] using few)⟩
/-- sorted(a set of texts), fewer than 64 -/
def rSortedX (P : Program) (w : World) : List V → Hp → VK → Prop := fun vs H Q => ∃ (a : Addr) (ks : List Str), vs = [V.ref a] ∧ H a = some (SetX P w a ks) ∧ ks.length < 64 ∧
  ∀ (ys : List Str) (p : Addr), sortedS ys = true → ys.Nodup → (∀ k, k ∈ ys ↔ k ∈ ks) → ys.length ≤ ks.length → H p = none → Q (.ref p) (upd H p (.lst (ys.map V.str)))
theorem cr_sortedX (hc : X.calm = true) : CallR X (.builtin "sorted") (rSortedX X.prog X.w) := by
  intro pins s σ H vs us Q I r h
  obtain ⟨a, ks, rfl, ha, hz, q⟩ := h
  obtain ⟨es, t, R, mem, few⟩ := (I.hok a _ ha).1
  rw [Vals.ref1 r]
  refine sorted_txts R (I.ok.hd hc) (by omega) fun s' p out c ys k g o hp hg so srt nd my => ?_
  have sub : ys.length ≤ ks.length := nodup_len nd fun y hy => (mem y).mp ((my y).mp hy)
  have hn : H p = none := I.hok.fresh hp
  have J : Inv X pins σ (upd H p (.lst (ys.map V.str))) { s with heap := s'.heap, gens := s'.gens, drawn := s'.drawn, toks := s'.toks } :=
    I.call (ch := []) (Un.laid k hp hn) (I.hok.laid k hp ⟨by rw [List.length_map, sizeLine_eq]; omega, out.toList, c, vals_of_strs so, hg⟩) (by rw [g]; exact I.bare) (fun _ z => nomatch z)
  rw [all_but o]
  exact ⟨.ref p, _, J, rfl, q ys p srt nd (fun k => (my k).trans (mem k)) sub hn⟩
end
end XT

set_option Elab.async false
set_option maxRecDepth 100000
set_option maxHeartbeats 2000000
set_option linter.all false
/-! list(range(a, b)) with bounds of any size. -/
namespace XR
open PySem PySem.Spec PyProof.Rows L2
section
variable {P : Program} {w : World} {A : Around} {E : Value → Shared → Prop} {s : Shared} {r : Addr} {a b c : Int} {t u v : Tok} {n : Nat}
/-- what is left of a range in a list -/
def Out (a c : Int) (n : Nat) (acc : Array Value) : Prop := ItemsOf (fun i v => ∃ t, v = .int (a + i * c) t) acc n
abbrev itObj (a b c : Int) : Obj := { cls := .type "longrange_iterator", data := .fields #[rawInt a, rawInt (Builtin.Range.rangeSize a b c), rawInt c] }
theorem grow_great {R : Result → Shared → Prop} (hh : A.handled = none) (hr : IsRange s.heap r a b c t u v) (big : Builtin.Range.small a b c = false) (hn : Builtin.Range.rangeSize a b c = n) (hz : n ≤ 2 ^ 24) (S : Addr) (res : Value) (k0 : Nat)
    (gS : s.heap.get? S = some { cls := .type "list", data := .seq #[] k0 })
    (fin : ∀ h' tk acc k', (∀ b o, b ≠ S → s.heap.get? b = some o → h'.get? b = some o) → h'.get? S = some { cls := .type "list", dict := none, data := .seq acc k', slots := #[] } → Out a c n acc → R (.ok (.ret res)) { s with heap := h', toks := tk }) :
    wpAny (model P w) A.in1 (Builtin.List.listExtendWith (.ref S) (.ref r) res) (fun f s' => match f with | .done f => R (.ok f) s' | .again c' => c'.quiet = true ∧ codeAny (model P w) A c' R s') (fun e s' => R (.error e) s') s := by
  have ne : S ≠ r := by
    rintro rfl
    have q : s.heap.get? S = some _ := hr
    rw [gS] at q
    simp at q
  have lt : S < s.heap.objs.size := Heap.lt_size gS
  have neI : S ≠ s.heap.objs.size := Nat.ne_of_lt lt
  have loop : ∀ (h : Heap) (k1 tk : Nat), IsLongIter h s.heap.objs.size (a + ((0 : Nat) : Int) * c) ((n : Int) - ((0 : Nat) : Int)) c → (∀ b o, b ≠ S → s.heap.get? b = some o → h.get? b = some o) → h.get? S = some { cls := .type "list", data := .seq #[] k1 } →
      codeAny (model P w) A (.builtin "list.extend.loop" ⟨[.ref S, .ref s.heap.objs.size, res], []⟩) R { s with heap := h, toks := tk } := fun h k1 tk it up gS1 =>
    codeAny_extend_loopS (Walks.longrange (prog := P) (w := w) (A := A.in1) hh s.heap.objs.size a c n).toS (by rw [sizeLine_eq]; omega) S (fun z => neI (List.mem_singleton.mp z)) res n 0 _ #[] k1 rfl (Nat.zero_le _) it gS1 (ItemsOf.nil _) fun s' acc k' mv g' out => by
      rw [Moved.eq_with mv]
      refine fin s'.heap s'.toks acc k' (fun b o hb e => mv.heap b o (fun z => ?_) (up b o hb e)) g' out
      rcases List.mem_cons.mp z with z | z
      · exact hb z
      · exact Nat.lt_irrefl _ (List.mem_singleton.mp z ▸ Heap.lt_size e)
  unfold Builtin.List.listExtendWith
  refine wpAny_bind (wpAny_typeOf (T := "range") ⟨_, hr, rfl⟩ ?_)
  have c1 : Builtin.List.listSameRef (.ref S) (.ref r) = false := by simp [Builtin.List.listSameRef, ne]
  have c2 : (Value.type "range" == Value.type "list") = false := by decide
  have c3 : (Value.type "range" == Value.type "tuple") = false := by decide
  simp only [c1, c2, c3, Bool.or_false, Bool.false_eq_true, if_false]
  refine wpAny_bind (wpAny_pyIter_longrange hr big (wpAny_bind (wpAny_holding (wpAny_hint_range (n := n) (Heap.get?_push_of_some _ hr) hn hz ?_))))
  have it1 : IsLongIter (s.heap.push (itObj a b c)) s.heap.objs.size (a + ((0 : Nat) : Int) * c) ((n : Int) - ((0 : Nat) : Int)) c := by
    have q : (s.heap.push (itObj a b c)).get? s.heap.objs.size = some (itObj a b c) := Heap.get?_push_size _ rfl
    show _ = some _
    rw [q]
    unfold itObj
    rw [hn]
    simp
  have gS1 := Heap.get?_push_of_some (itObj a b c) gS
  refine wpAny_ite_split (fun _ => ?_) fun _ => wpAny_pure ⟨plainId_quiet F.plain_extend_loop _, loop _ k0 _ it1 (fun b o _ e => Heap.get?_push_of_some _ e) gS1⟩
  refine wpAny_bind (wpAny_rule (wpAny_bind ?_))
  show wpAny (model P w) _ (updateSeq S (·.push .none) >>= fun _ => updateSeq S (·.pop)) _ _ _
  refine wpAny_bind (wpAny_updateSeq gS1 rfl ?_)
  have gS2 := Heap.get?_update_self (Obj.mapSeq (·.push Value.none)) gS1 rfl
  refine wpAny_updateSeq (hz := by seq_fits) gS2 rfl (wpAny_pure ⟨plainId_quiet F.plain_extend_loop _, loop _ _ _ ?_ (fun b o hb e => ?_) (Heap.get?_update_self (Obj.mapSeq (·.pop)) gS2 rfl)⟩)
  · exact (Heap.get?_update_other _ _ neI).trans ((Heap.get?_update_other _ _ neI).trans it1)
  · exact (Heap.get?_update_other _ _ (Ne.symm hb)).trans ((Heap.get?_update_other _ _ (Ne.symm hb)).trans (Heap.get?_push_of_some _ e))
theorem list_great {Q : Value → Shared → Prop} (hh : A.handled = none) (hr : IsRange s.heap r a b c t u v) (big : Builtin.Range.small a b c = false) (hn : Builtin.Range.rangeSize a b c = n) (hz : n ≤ 2 ^ 24)
    (fin : ∀ h' tk acc k', (∀ b o, s.heap.get? b = some o → h'.get? b = some o) → h'.get? s.heap.objs.size = some { cls := .type "list", dict := none, data := .seq acc k', slots := #[] } → Out a c n acc → Q (.ref s.heap.objs.size) { s with heap := h', toks := tk }) :
    wpAny (model P w) A (call (.type "list") [.ref r]) Q E s := by
  refine callType_codes (Q₁ := fun o s1 => o = .ref s.heap.objs.size ∧ s1 = { s with heap := s.heap.push { cls := .type "list", data := .seq #[] } }) F.called_list (F.typeCall_list_1 _) F.entry_list_init (code_list_new _ ⟨rfl, rfl⟩) fun o s1 hs => ?_
  obtain ⟨rfl, rfl⟩ := hs
  have gS : (s.heap.push { cls := .type "list", data := .seq #[] }).get? s.heap.objs.size = some { cls := .type "list", data := .seq #[] } := Heap.get?_push_size _ rfl
  have ne : s.heap.objs.size ≠ r := Nat.ne_of_gt (Heap.lt_size hr)
  refine ⟨⟨_, gS, rfl⟩, F.args_list_init_2 _ _, ?_⟩
  show wpAny _ _ (do let old ← Builtin.List.listItems (.ref s.heap.objs.size); Builtin.List.listUpdate (.ref s.heap.objs.size) (fun _ => #[]); letGo old.toList.reverse; Builtin.List.listExtendWith (.ref s.heap.objs.size) (.ref r) .none) _ _ _
  refine wpAny_bind ?_
  unfold Builtin.List.listItems
  refine wpAny_bind (wpAny_seqItems gS rfl (wpAny_pure ?_))
  show wpAny _ _ (updateSeq s.heap.objs.size (fun _ => #[]) >>= fun _ => letGo (#[] : Array Value).toList.reverse >>= fun _ => Builtin.List.listExtendWith (.ref s.heap.objs.size) (.ref r) .none) _ _ _
  refine wpAny_bind (wpAny_updateSeq gS rfl (wpAny_bind (wpAny_letGo ?_)))
  have gS2 := Heap.get?_update_self (Obj.mapSeq (fun _ => (#[] : Array Value))) gS rfl
  have up : ∀ b o, b ≠ s.heap.objs.size → s.heap.get? b = some o → ((s.heap.push { cls := .type "list", data := .seq #[] }).update s.heap.objs.size (Obj.mapSeq (fun _ => (#[] : Array Value)))).get? b = some o :=
    fun b o hb e => (Heap.get?_update_other _ _ (Ne.symm hb)).trans (Heap.get?_push_of_some _ e)
  refine grow_great (A := A.in1) hh (up r _ (Ne.symm ne) hr) big hn hz _ .none _ gS2 fun h' tk acc k' kp g out => ?_
  exact ⟨rfl, fin h' tk acc k' (fun b o e => kp b o (Nat.ne_of_lt (Heap.lt_size e)) (up b o (Nat.ne_of_lt (Heap.lt_size e)) e)) g out⟩
end
section
variable {X : Cx} {e : Expr} {te : L2.St → Hp → (Int → Int → Hp → Prop) → Prop}
/-- list(range(a, b)), few items -/
def tLstAny (te : L2.St → Hp → (Int → Int → Hp → Prop) → Prop) : TE := fun σ H Q => te σ H fun a b H1 => (b - a).toNat ≤ 2 ^ 24 ∧ ∀ q, H1 q = none → Q (.ref q) (upd H1 q (.lst (rgV a b)))
theorem pe_listAny {p pos : Pos} (hc : X.calm = true) (hg : Gl X "list") (hm : X.mg "list" = none) (he : PRg X e te) (na : starEach [e] X.env = (false, eval e X.env) :: starEach [] X.env := by rfl) : PE X (.Call (.Name "list" p) [e] [] pos) (tLstAny te) := by
  constructor
  intro pins s σ H Q I h
  refine Call_ (ld_blt I hg hm boot_list (PyProof.Rows.callWith_type1 (args_cons (thn (he pins s σ H _ I h) fun x s1 ⟨r, a, b, t, u, v, H1, ex, hr, I1, few, q⟩ => args_nil ?_) na) na))
  subst ex
  have end_ : ∀ (h' : Heap) (tk : Nat) (acc : Array Value) (k' : Nat), (∀ b o, s1.heap.get? b = some o → h'.get? b = some o) → h'.get? s1.heap.objs.size = some { cls := .type "list", dict := none, data := .seq acc k', slots := #[] } →
      Out a 1 (b - a).toNat acc → EP X pins σ Q (.ref s1.heap.objs.size) { s1 with heap := h', toks := tk } := fun h' tk acc k' kp g out => by
    refine ⟨.ref s1.heap.objs.size, upd H1 s1.heap.objs.size (.lst (rgV a b)), I1.laid kp (Nat.le_refl _) (show ObjOk X.prog X.w _ _ _ (.lst (rgV a b)) from ⟨?_, acc.toList, k', vals_rg out, ?_⟩), rfl, q _ (I1.hok.fresh (Nat.le_refl _))⟩
    · rw [rgV_length, sizeLine_eq]
      omega
    · rw [Array.toArray_toList]
      exact g
  cases hs : Builtin.Range.small a b 1 with
  | true => exact call_list_range (n := (b - a).toNat) (I1.ok.hd hc) hr hs (rangeSize_nat a b) few end_
  | false => exact list_great (n := (b - a).toNat) (I1.ok.hd hc) hr hs (rangeSize_nat a b) few end_
end
end XR

set_option Elab.async false
set_option maxRecDepth 100000
set_option maxHeartbeats 2000000
set_option linter.all false
/-! Operators and built-ins that an instance answers by its own methods. -/
namespace XL
open PySem PySem.Spec PyProof.Rows L2
/-- the method of that name of C's instances is the def at g -/
structure Own (K : PySem.W.Frag) (C : Addr) (name : Str) (g : Addr) : Prop where
  at_ : PySem.W.findIn K (.ref C) name = some (some (.ref g))
  fn : PySem.W.isFn K (.ref g) = true
section
variable {X : Cx} {CX : CXT} {k : Nat} {C g : Addr} {sp : Sp} {E : XK} {pins : List (Addr × Obj)} {σ : L2.St} {H : Hp} {s : Shared}
theorem run_at {A : Around} {us : List Value} {vs : List V} {Q : VK} (F : FnR X.prog X.w X.K X.mg X.base CX k g sp) (hr : Room k A) (hx : Passes CX X E) (I : Inv X pins σ H s) (e0 : Env0 X.prog X.w X.K X.mg X.base A X.stack s H) (r : Vals vs us) (h : sp vs H Q E) :
    wpAny (model X.prog X.w) A (call (.ref g) us) (EP X pins σ Q) X.xe s := by
  refine wpAny_call (codeAny_mono (F A X.stack s H us vs Q E hr e0 r h) fun r s' hq => ?_)
  cases r with
  | error e => exact hx pins σ H s e s' I hq
  | ok fl =>
    cases fl with
    | ret u => exact I.after hq
    | next => exact False.elim hq
    | brk => exact False.elim hq
    | cont => exact False.elim hq
theorem ra (a : Addr) : RelV (.ref a) (.ref a) := rfl
/-! in -/
def rInO (X : Cx) (C : Addr) (sp : Sp) (E : XK) : R2 := fun x y H Q => ∃ a, y = .ref a ∧ StX.InsC X H a C ∧ sp [.ref a, x] H (fun v H' => ∃ b, v = .bl b ∧ Q (.bl b) H') E
theorem op_in_own (c : Own X.K C "__contains__" g) (F : FnR X.prog X.w X.K X.mg X.base CX k g sp) (hr : Room k X.A) (hx : Passes CX X E) : OpR X (compareOp .In) (rInO X C sp E) := by
  intro pins s σ H x y v u Q I rx ry h
  obtain ⟨a, ey, hi, h⟩ := h
  subst ey
  obtain rfl : u = Value.ref a := ry
  obtain ⟨ox, od, J, _⟩ := StX.insC_at I hi
  obtain ⟨m, hF⟩ := I.fr
  refine PySem.W.in_K hF I.ok.mod.kin J c.at_ c.fn ?_
  refine wpAny_mono (run_at F hr hx I I.env0 (.cons (ra a) (.cons rx .nil)) h) (fun r s' hq => ?_) fun _ _ z => z
  obtain ⟨v', H', I', rv, b, ev, q⟩ := hq
  subst ev
  cases rv
  exact wpAny_truthy_bool ⟨.bl b, H', I', rfl, q⟩
/-! a operator whose left side's class answers, the right side of the same class -/
def rBinO (X : Cx) (C : Addr) (sp : Sp) (E : XK) : R2 := fun x y H Q => ∃ a b, x = .ref a ∧ y = .ref b ∧ StX.InsC X H a C ∧ StX.InsC X H b C ∧ sp [.ref a, .ref b] H Q E
theorem back_of {Q : VK} {r : Value} {s' : Shared} (h : EP X pins σ Q r s') : PySem.W.CmpBack (EP X pins σ Q) r s' := by
  obtain ⟨v, H', I', rv, q⟩ := h
  have z : EP X pins σ Q r s' := ⟨v, H', I', rv, q⟩
  unfold PySem.W.CmpBack
  split
  · cases v <;> first | (obtain ⟨t, e⟩ := rv; cases e) | cases rv
  · exact z
theorem op_bin_own {op : Operator} (hc : PySem.W.selfFirst X.K C = true) (c : Own X.K C (PySem.dunder op.info.2) g) (F : FnR X.prog X.w X.K X.mg X.base CX k g sp) (hr : Room k X.A) (hx : Passes CX X E) : OpR X (binaryOp op) (rBinO X C sp E) := by
  intro pins s σ H x y v u Q I rx ry h
  obtain ⟨a, b, ex, ey, hi, hj, h⟩ := h
  subst ex; subst ey
  obtain rfl : v = Value.ref a := rx
  obtain rfl : u = Value.ref b := ry
  obtain ⟨ox, od, J, _⟩ := StX.insC_at I hi
  obtain ⟨ox', od', J', _⟩ := StX.insC_at I hj
  obtain ⟨m, hF⟩ := I.fr
  refine PySem.W.binop_K hF I.ok.mod.kin J J'.type hc c.at_ c.fn ?_
  exact wpAny_mono (run_at F hr hx I I.env0 (.cons (ra a) (.cons (ra b) .nil)) h) (fun r s' hq => back_of hq) fun _ _ z => z
/-! == -/
/-- what type the model finds of a value -/
def LooksT (X : Cx) (H : Hp) (y : V) (t : Value) : Prop := ∀ (pins : List (Addr × Obj)) (σ : L2.St) (s : Shared) (u : Value), Inv X pins σ H s → RelV y u → PySem.W.Looks (model X.prog X.w) s.heap (typeOf u) t
theorem lt_ins {a : Addr} (h : StX.InsC X H a C) : LooksT X H (.ref a) (.ref C) := fun pins σ s u I r => by
  obtain rfl : u = Value.ref a := r
  obtain ⟨ox, od, J, _⟩ := StX.insC_at I h
  exact J.type
theorem lt_int {i : Int} : LooksT X H (.int i) (.type "int") := fun pins σ s u I r => by
  obtain ⟨t, rfl⟩ := r
  exact PySem.W.Looks.of_pure rfl
theorem lt_tup {a : Addr} {xs : List V} (h : SqT X.K H a xs) : LooksT X H (.ref a) (.type "tuple") := fun pins σ s u I r => by
  obtain rfl : u = Value.ref a := r
  obtain ⟨its, r, ⟨o, ho, hc, _⟩, z⟩ := I.tuple h
  exact hc ▸ (PySem.W.Looks.ld (part := none) ho).andThen .now
def rEqO (X : Cx) (C : Addr) (sp : Sp) (E : XK) : R2 := fun x y H Q => ∃ a t, x = .ref a ∧ StX.InsC X H a C ∧ LooksT X H y t ∧ PySem.W.notFirst X.K C t = true ∧ sp [.ref a, y] H Q E
theorem op_eq_own (hu : X.A.units < cLine) (c : Own X.K C "__eq__" g) (F : FnR X.prog X.w X.K X.mg X.base CX k g sp) (hr : Room k X.A) (hx : Passes CX X E) : OpR X (compareOp .Eq) (rEqO X C sp E) := by
  intro pins s σ H x y v u Q I rx ry h
  obtain ⟨a, t, ex, hi, hl, hn, h⟩ := h
  subst ex
  obtain rfl : v = Value.ref a := rx
  obtain ⟨ox, od, J, _⟩ := StX.insC_at I hi
  obtain ⟨m, hF⟩ := I.fr
  refine PySem.W.cmp_K (op := .Eq) hu hF I.ok.mod.kin J (hl pins σ s u I ry) hn c.at_ c.fn ?_
  exact wpAny_mono (run_at F hr hx I I.env0 (.cons (ra a) (.cons ry .nil)) h) (fun r s' hq => back_of hq) fun _ _ z => z
/-! len -/
theorem call_len_own (c : Own X.K C "__len__" g) (F : FnR X.prog X.w X.K X.mg X.base CX k g sp) (hr : Room (k + 1) X.A) (hx : Passes CX X E) :
    CallR X (.builtin "len") (fun xs H Q => ∃ a, xs = [.ref a] ∧ StX.InsC X H a C ∧ sp [.ref a] H (fun v H' => ∃ n : Int, v = .int n ∧ 0 ≤ n ∧ n < 2 ^ 63 ∧ Q (.int n) H') E) := by
  intro pins s σ H xs us Q I r h
  obtain ⟨a, rfl, hi, h⟩ := h
  obtain ⟨u, rfl, rx⟩ := vals1 r
  obtain rfl : u = Value.ref a := rx
  obtain ⟨ox, od, J, _⟩ := StX.insC_at I hi
  obtain ⟨m, hF⟩ := I.fr
  refine PySem.W.len_K hF I.ok.mod.kin J c.at_ c.fn ?_
  refine wpAny_mono (run_at F hr.in1 hx I I.env0.in1 (.cons (ra a) .nil) h) (fun r s' hq => ?_) fun _ _ z => z
  obtain ⟨v, H', I', rv, n, ev, n0, n1, q⟩ := hq
  subst ev
  obtain ⟨t, rfl⟩ := rv
  exact ⟨⟨n0, n1⟩, .int n, H', I'.tok _, ⟨_, rfl⟩, q⟩
/-! str -/
theorem call_str_own (hu : X.A.in1.in1.units < cLine) (c : Own X.K C "__str__" g) (F : FnR X.prog X.w X.K X.mg X.base CX k g sp) (hr : Room (k + 2) X.A) (hx : Passes CX X E) :
    CallR X (.type "str") (fun xs H Q => ∃ a, xs = [.ref a] ∧ StX.InsC X H a C ∧ sp [.ref a] H (fun v H' => ∃ z : Str, v = .str z ∧ Q (.str z) H') E) := by
  intro pins s σ H xs us Q I r h
  obtain ⟨a, rfl, hi, h⟩ := h
  obtain ⟨u, rfl, rx⟩ := vals1 r
  obtain rfl : u = Value.ref a := rx
  obtain ⟨ox, od, J, _⟩ := StX.insC_at I hi
  refine PySem.W.kso_call hu I.kIn J c.at_ c.fn ?_
  refine wpAny_mono (run_at F hr.in1.in1 hx I I.env0.in1.in1 (.cons (ra a) .nil) h) (fun r s' hq => ?_) fun _ _ z => z
  obtain ⟨v, H', I', rv, z, ev, q⟩ := hq
  subst ev
  obtain ⟨t, rfl⟩ := rv
  exact ⟨.str z, H', I', ⟨_, rfl⟩, q⟩
/-! == of types -/
def metaIn (K : PySem.W.Frag) (C : Addr) : Bool := match K.lookup C with
  | some o => o.cls == .type "type"
  | none => false
theorem meta_at (hC : metaIn X.K C = true) (I : Inv X pins σ H s) : s.TypeIs (.ref C) "type" := by
  unfold metaIn at hC
  split at hC
  · rename_i o e
    exact ⟨o, I.kIn _ _ e, beq_iff_eq.mp hC⟩
  · cases hC
theorem same_rt {n : String} : isSame (.ref C) (.type n) = pure false := by rfl
theorem same_tr {n : String} : isSame (.type n) (.ref C) = pure false := by rfl
theorem obj_eq_no {a b : Value} (h : isSame a b = pure false) : Gives (Builtin.«object.__eq__» ⟨[a, b], []⟩) (.val .notImplemented) :=
  .of_eq (by simp [Builtin.«object.__eq__», slotArgs, h, Made.tree])
theorem eq_cls_int {M : Type} {Q : Value → Shared → Prop} {E' : Value → Shared → Prop} {A : Around} (hu : A.units < cLine) (hs : s.TypeIs (.ref C) "type") (h : Q (.bool false) s) :
    wpAny (model X.prog X.w) A (compareOp .Eq (.ref C) (.type "int")) Q E' s := by
  show wpAny _ A (richCompare .Eq _ _) Q E' s
  have h1 := PySem.TypeEq.slot_type_eq
  have h2 := PySem.TypeEq.slot_type_eq_refl
  have one : wpAny (model X.prog X.w) A (call (.builtin "object.__eq__") [.ref C, .type "int"]) (fun v s₁ => v = .notImplemented ∧ s₁ = s) E' s :=
    call_gives h1 hs F.entry_object_eq (F.args_object_eq_2 _ _) (obj_eq_no same_rt) ⟨rfl, rfl⟩
  have two : wpAny (model X.prog X.w) A (call (.builtin "object.__eq__") [.type "int", .ref C]) (fun v s₁ => v = .notImplemented ∧ s₁ = s) E' s :=
    call_gives h2 (PySem.TypeEq.meta_int s) F.entry_object_eq (F.args_object_eq_2 _ _) (obj_eq_no same_tr) ⟨rfl, rfl⟩
  rcases hi : cmpInfo CmpOp.Eq with ⟨sym, f, r⟩
  rw [hi] at h1 h2
  simp only [richCompare, hi, oneThing_ref]
  try with_reducible refine wpAny_holding ?_
  refine wpAny_bind (wpAny_cRoomFor hu ?_)
  refine wpAny_bind (wpAny_typeOf hs (wpAny_bind (wpAny_typeOf (PySem.TypeEq.meta_int s) ?_)))
  simp only [bne_self_eq_false, Bool.false_eq_true, if_false, pure_bind, Bool.not_false, if_true]
  refine wpAny_bind (m := tryCompare (.ref C) _ (.type "int")) (wpAny_tryCompare_declines hs h1 (wpAny_mono one (fun v s₁ h₁ => ⟨h₁.1, ?_⟩) fun _ _ x => x))
  obtain ⟨_, rfl⟩ := h₁
  refine wpAny_bind (m := tryCompare (.type "int") _ (.ref C)) (wpAny_tryCompare_declines (PySem.TypeEq.meta_int s₁) h2 (wpAny_mono two (fun v s₂ h₂ => ⟨h₂.1, ?_⟩) fun _ _ x => x))
  obtain ⟨_, rfl⟩ := h₂
  exact wpAny_bind (wpAny_rule (wpAny_bind (wpAny_of_eq same_rt (wpAny_pure h))))
inductive Meta : String → Prop
  | int : Meta "int"
  | str : Meta "str"
  | bool : Meta "bool"
  | non : Meta "NoneType"
  | tup : Meta "tuple"
  | lst : Meta "list"
theorem Meta.is {n : String} (m : Meta n) (s' : Shared) : s'.TypeIs (.type n) "type" := by
  cases m
  · exact PySem.TypeEq.meta_int s'
  · exact PySem.TypeEq.meta_str s'
  · exact PySem.TypeEq.meta_bool s'
  · exact PySem.TypeEq.meta_NoneType s'
  · exact PySem.TypeEq.meta_tuple s'
  · exact PySem.TypeEq.meta_list s'
/-- type == int -/
def rTyI (X : Cx) : R2 := fun x y H Q => y = .ty "int" ∧ ((∃ a, x = .ty a ∧ Meta a ∧ Q (.bl (decide (a = "int"))) H) ∨ ∃ C, x = .ref C ∧ metaIn X.K C = true ∧ Q (.bl false) H)
theorem op_eq_tyI (hu : X.A.units < cLine) : OpR X (compareOp .Eq) (rTyI X) := by
  intro pins s σ H x y v u Q I rx ry h
  obtain ⟨rfl, h⟩ := h
  obtain rfl : u = Value.type "int" := ry
  rcases h with ⟨a, rfl, m, q⟩ | ⟨C, rfl, m, q⟩
  · obtain rfl : v = Value.type a := rx
    by_cases e : a = "int"
    · have q2 : Q (.bl true) H := decide_eq_true e ▸ q
      have z : EP X pins σ Q (Value.bool true) s := ⟨.bl true, H, I, (show RelV (.bl true) (Value.bool true) from rfl), q2⟩
      have e2 : Value.type a = Value.type "int" := congrArg Value.type e
      rw [e2]
      exact PySem.TypeEq.eq_type_same (X := "int") PySem.TypeEq.meta_int z
    · have q2 : Q (.bl false) H := decide_eq_false e ▸ q
      have z : EP X pins σ Q (Value.bool false) s := ⟨.bl false, H, I, (show RelV (.bl false) (Value.bool false) from rfl), q2⟩
      refine PySem.TypeEq.eq_type_other (X := a) (Y := "int") (fun s' => m.is s') PySem.TypeEq.meta_int ?_ z
      rw [ty_beq]
      exact decide_eq_false e
  · obtain rfl : v = Value.ref C := rx
    exact eq_cls_int (M := Unit) hu (meta_at m I) ⟨.bl false, H, I, rfl, q⟩
/-! != by the own == -/
theorem slot_type_ne : Slot "type" (cmpInfo .NotEq).2.1 "object.__ne__" :=
  .of (owner := "object") (n := "__ne__") (by rw [typeLookup_type, builtinLookup_eq_fast]; kernel_rfl) (by decide +kernel) (by decide +kernel) (by decide +kernel)
    (by first | exact .inl (by decide +kernel) | exact .inr (by decide +kernel)) (by rw [isSubtype_type]; kernel_rfl)
structure OwnNe (K : PySem.W.Frag) (C : Addr) : Prop where
  at_ : PySem.W.findIn K (.ref C) "__ne__" = some (some (.builtin "object.__ne__"))
  obj : PySem.W.subIn K (.ref C) (.type "object") = some true
theorem ne_body {P : Program} {w : World} {K : PySem.W.Frag} {A : Around} {E' : Value → Shared → Prop} {s : Shared} {a f : Addr} {ox : Obj} {od : Option Obj} {y : Value} {Q : Fin → Shared → Prop} (KX : K.In s.heap) (J : PySem.W.InstAt s.heap a ox C od)
    (hs : PySem.W.findIn K (.ref C) "__eq__" = some (some (.ref f))) (hf : PySem.W.isFn K (.ref f) = true) (hu : A.units < cLine)
    (hcall : wpAny (model P w) A (call (.ref f) [.ref a, y]) (fun v s' => ∃ b, v = .bool b ∧ Q (.done (.ret (.bool (!b)))) s') E' s) : wpAny (model P w) A (Builtin.«object.__ne__» ⟨[.ref a, y], []⟩) Q E' s := by
  unfold Builtin.«object.__ne__»
  have key : ∀ {Q2 : Option Value → Shared → Prop}, (∀ b s', Q (.done (.ret (.bool (!b)))) s' → Q2 (some (.bool b)) s') → wpAny (model P w) A (callSpecialIfBound? (.ref a) (Str.ofString "__eq__") [y]) Q2 E' s := fun k =>
    PySem.W.ifBound_K KX J hs hf (wpAny_mono hcall (fun r s' hr => by
      obtain ⟨b, rfl, hq⟩ := hr
      exact k b s' hq) fun _ _ e => e)
  obtain ⟨hh, g, d, t, os⟩ := s
  repeat (first
    | with_reducible refine wpAny_cRoomFor hu ?_
    | (refine wpAny_bind (m := callSpecialIfBound? (.ref a) (Str.ofString "__eq__") [y]) (key fun b s' hq => ?_)
       repeat (first | exact hq | exact wpAny_pure hq | exact wpAny_truthy_bool hq | (refine wpAny_bind (m := truthy (.bool _)) (wpAny_truthy_bool ?_)) | wp_step))
    | wp_step)
def rNeO (X : Cx) (C : Addr) (sp : Sp) (E : XK) : R2 := fun x y H Q => ∃ a t, x = .ref a ∧ StX.InsC X H a C ∧ LooksT X H y t ∧ PySem.W.notFirst X.K C t = true ∧ sp [.ref a, y] H (fun v H' => ∃ b, v = .bl b ∧ Q (.bl (!b)) H') E
theorem op_ne_own (hu : X.A.units < cLine) (hu1 : X.A.in1.units < cLine) (n : OwnNe X.K C) (c : Own X.K C "__eq__" g) (F : FnR X.prog X.w X.K X.mg X.base CX k g sp) (hr : Room (k + 1) X.A) (hx : Passes CX X E) : OpR X (compareOp .NotEq) (rNeO X C sp E) := by
  intro pins s σ H x y v u Q I rx ry h
  obtain ⟨a, t, ex, hi, hl, hn, h⟩ := h
  subst ex
  obtain rfl : v = Value.ref a := rx
  obtain ⟨ox, od, J, _⟩ := StX.insC_at I hi
  have KX := I.kIn
  have Lb := hl pins σ s u I ry
  show wpAny (model X.prog X.w) X.A (richCompare .NotEq (.ref a) u) (EP X pins σ Q) X.xe s
  have body : wpAny (model X.prog X.w) X.A.in1 (Builtin.«object.__ne__» ⟨[.ref a, u], []⟩) (fun fin s' => ∃ v, fin = .done (.ret v) ∧ ∃ b, v = .bool b ∧ EP X pins σ Q v s') X.xe s := by
    refine ne_body KX J c.at_ c.fn hu1 (wpAny_mono (run_at F hr.in1 hx I I.env0.in1 (.cons (ra a) (.cons ry .nil)) h) (fun r s' hq => ?_) fun _ _ z => z)
    obtain ⟨v', H', I', rv, b, ev, q⟩ := hq
    subst ev
    cases rv
    exact ⟨b, rfl, _, rfl, _, rfl, .bl (!b), H', I', rfl, q⟩
  have one : wpAny (model X.prog X.w) X.A (tryCompare (.ref a) (cmpInfo .NotEq).2.1 u) (fun r s' => ∃ v, r = some v ∧ EP X pins σ Q v s') X.xe s := by
    unfold tryCompare
    simp only [callSpecialIfBound?, bindSpecialIfBound?]
    refine wpAny_bind (wpAny_holding (wpAny_bind (wpAny_bind (wpAny_bind (J.type.here ((PySem.W.looks_findIn KX n.at_).here ?_))))))
    have fin : ∀ {first : List Value}, first = [.ref a] → wpAny (model X.prog X.w) X.A (call (.builtin "object.__ne__") (first ++ [u]) >>= fun v => pure (some v)) (fun r s' => wpAny (model X.prog X.w) X.A (match r with | some .notImplemented | none => pure none | some v => pure (some v)) (fun r s' => ∃ v, r = some v ∧ EP X pins σ Q v s') X.xe s') X.xe s := fun e => by
      subst e
      refine wpAny_bind (wpAny_mono (wpAny_call (codeAny_call_builtin slot_type_ne.plain PySem.F.cmpEntry_ne (PySem.W.check_slot PySem.F.cmpKind_ne PySem.F.cmpSplit_ne (J.type.andThen (PySem.W.looks_subIn KX n.obj)) (PySem.F.cmpArgs_ne _ _) (wpAny_mono body (fun fin s' h => ?_) fun _ _ z => z)))) (fun _ _ z => z) fun _ _ z => z)
      obtain ⟨v, rfl, b, rfl, hv⟩ := h
      exact wpAny_pure (wpAny_pure ⟨_, rfl, hv⟩)
    refine wpAny_bind (wpAny_askSetting (wpAny_ite ?_))
    split
    · rw [slot_type_ne.bind]
      exact wpAny_bind (wpAny_pure (wpAny_pure (fin rfl)))
    · rw [slot_type_ne.bind]
      exact wpAny_tryCatch (wpAny_bind (wpAny_pure (wpAny_pure (fin rfl))))
  unfold richCompare
  simp only [oneThing_ref]
  refine wpAny_holding (wpAny_bind (wpAny_cRoomFor hu ?_))
  refine wpAny_bind (J.type.here (wpAny_bind (Lb.here ?_)))
  split
  · rename_i q
    have e : PySem.W.subIn X.K t (.ref C) = some false := by
      rcases Bool.or_eq_true_iff.mp hn with e | e
      · rw [beq_iff_eq.mp e] at q
        simp at q
      · exact beq_iff_eq.mp e
    refine wpAny_bind ((PySem.W.looks_subIn KX e).here ?_)
    simp only [Bool.false_eq_true, if_false]
    refine wpAny_bind (wpAny_mono one (fun r s' z => ?_) fun _ _ e => e)
    obtain ⟨v, rfl, hq⟩ := z
    exact wpAny_pure hq
  · refine wpAny_bind (wpAny_pure ?_)
    simp only [Bool.false_eq_true, if_false]
    refine wpAny_bind (wpAny_mono one (fun r s' z => ?_) fun _ _ e => e)
    obtain ⟨v, rfl, hq⟩ := z
    exact wpAny_pure hq
/-! truth, bool -/
theorem truthy_len {P : Program} {w : World} {K : PySem.W.Frag} {A : Around} {E' : Value → Shared → Prop} {s : Shared} {a f : Addr} {ox : Obj} {od : Option Obj} {Q : Bool → Shared → Prop} (KX : K.In s.heap) (J : PySem.W.InstAt s.heap a ox C od)
    (hb : PySem.W.findIn K (.ref C) "__bool__" = some none) (hs : PySem.W.findIn K (.ref C) "__len__" = some (some (.ref f))) (hf : PySem.W.isFn K (.ref f) = true)
    (h : wpAny (model P w) A.in1 (call (.ref f) [.ref a]) (fun v s' => ∃ (n : Int) (t : Tok), v = .int n t ∧ 0 ≤ n ∧ n < 2 ^ 63 ∧ Q (n != 0) { s' with toks := s'.toks + 1 }) E' s) : wpAny (model P w) A (truthy (.ref a)) Q E' s := by
  have key : wpAny (model P w) A (runValue (.builtin "len" ⟨[.ref a], []⟩)) (fun r s' => ∃ n t, r = .int n t ∧ Q (n != 0) s') E' s := by
    refine wpAny_runValue (codeAny_builtin entry_len ?_)
    rw [Around.under_plainId plain_len _]
    unfold Builtin.«len»
    refine wpAny_bind (m := oneArg "len" _) (wpAny_pure ?_)
    refine wpAny_bind (m := callSpecial? (.ref a) (Str.ofString "__len__")) (PySem.W.special_fn KX J hs (beq_iff_eq.mp hf) (wpAny_mono h (fun r s' hr => ?_) fun _ _ y => y))
    obtain ⟨n, u, rfl, n0, n1, hq⟩ := hr
    refine wpAny_bind (wpAny_holding (wpAny_pure ?_))
    refine wpAny_bind (wpAny_letGo ?_)
    show wpAny _ _ (if n < 0 then _ else _) _ _ _
    rw [if_neg (by omega)]
    show wpAny _ _ (if n ≥ 2 ^ 63 then _ else _) _ _ _
    rw [if_neg (by omega)]
    exact wpAny_bind (wpAny_mkInt (wpAny_pure ⟨n, _, rfl, hq⟩))
  have hsp : ∀ {Q' : Option Value → Shared → Prop}, Q' (some (.ref f)) s → wpAny (model P w) A (specialOf (.ref a) "__len__") Q' E' s := fun q => by
    unfold specialOf
    exact wpAny_bind (J.type.here ((PySem.W.looks_findIn KX hs).here q))
  have tail : ∀ {Q' : Bool → Shared → Prop}, (∀ b s', Q b s' → Q' b s') → wpAny (model P w) A (runValue (.builtin "len" ⟨[.ref a], []⟩) >>= fun r => match r with | .int n _ => pure (n != 0) | _ => unsupported "internal:truth.len") Q' E' s := fun k =>
    wpAny_bind (wpAny_mono key (fun r s' h' => by obtain ⟨n, t, rfl, hq⟩ := h'; exact wpAny_pure (k _ _ hq)) fun _ _ e => e)
  unfold truthy
  first
    | refine wpAny_bind (DSub.special_no (name := Str.ofString "__bool__") KX J hb ?_)
    | refine wpAny_bind (wpAny_pure (wpAny_bind (DSub.special_no (name := Str.ofString "__bool__") KX J hb ?_)))
  first
    | refine wpAny_bind (hsp ?_)
    | refine wpAny_bind (wpAny_pure (wpAny_bind (hsp ?_)))
  first
    | exact tail fun _ _ h => h
    | exact wpAny_bind (wpAny_pure (tail fun _ _ h => h))
open Builtin Builtin.Str in
theorem call_bool_own (hb : PySem.W.findIn X.K (.ref C) "__bool__" = some none) (c : Own X.K C "__len__" g) (F : FnR X.prog X.w X.K X.mg X.base CX k g sp) (hr : Room (k + 3) X.A) (hx : Passes CX X E) :
    CallR X (.type "bool") (fun xs H Q => ∃ a, xs = [.ref a] ∧ StX.InsC X H a C ∧ sp [.ref a] H (fun v H' => ∃ n : Int, v = .int n ∧ 0 ≤ n ∧ n < 2 ^ 63 ∧ Q (.bl (n != 0)) H') E) := by
  intro pins s σ H xs us Q I r h
  obtain ⟨a, rfl, hi, h⟩ := h
  obtain ⟨u, rfl, rx⟩ := vals1 r
  obtain rfl : u = Value.ref a := rx
  obtain ⟨ox, od, J, _⟩ := StX.insC_at I hi
  refine callType_codes (T := "bool") (Bi := Builtin.«object.__init__») (Q₁ := fun r s₁ => ∃ y, r = .bool y ∧ EP X pins σ Q r s₁) PySem.F.called_bool (PySem.F.typeCall_bool_1 _) PySem.F.entry_object_init ?_ ?_
  · refine codeAny_of_tree ?_
    show wpAny _ X.A.in1.in1 (do checkBuiltinCall "bool.__new__" ⟨[.type "bool", .ref a], []⟩; again (.builtin "bool.__new__" ⟨[.type "bool", .ref a], []⟩)) _ _ s
    refine wpAny_bind (wpAny_of_eq (PySem.F.newCall_bool_1 _) (wpAny_pure ⟨plainId_quiet (by decide +kernel) _, codeAny_builtin PySem.F.entry_bool_new ?_⟩))
    rw [Around.under_plainId (by decide +kernel) _]
    have tru : wpAny (model X.prog X.w) X.A.in1.in1 (truthy (.ref a)) (fun b s' => EP X pins σ Q (.bool b) s') X.xe s := by
      refine truthy_len I.kIn J hb c.at_ c.fn (wpAny_mono (run_at F hr.in1.in1.in1 hx I I.env0.in1.in1.in1 (.cons (ra a) .nil) h) (fun r s' hq => ?_) fun _ _ z => z)
      obtain ⟨v, H', I', rv, n, ev, n0, n1, q⟩ := hq
      subst ev
      obtain ⟨t, rfl⟩ := rv
      exact ⟨n, t, rfl, n0, n1, .bl (n != 0), H', I'.tok _, rfl, q⟩
    have f1 := PySem.F.conv_sub_bool
    unfold Builtin.«bool.__new__»
    refine wpAny_bind (wpAny_pure ?_)
    refine wpAny_bind (wpAny_of_eq f1 ?_)
    refine wpAny_bind (wpAny_pure ?_)
    exact wpAny_bind (wpAny_mono tru (fun b s' hq => wpAny_pure ⟨_, rfl, hq⟩) fun _ _ z => z)
  · rintro obj s₁ ⟨y, rfl, hq⟩
    exact ⟨rfl, PySem.F.args_object_init_2 _ _, object_init_meets PySem.F.called_bool.init.lookup PySem.F.called_bool.made (by decide) X.prog X.w X.A.in1 _ s₁ ⟨rfl, rfl, hq⟩⟩
end
/-! making an instance by its class: C(), C(*e), cls(*e) -/
section
variable {X : Cx} {CX : CXT} {k i : Nat} {C f : Addr} {sp : Sp} {E : XK} {x : Str} {e : Expr} {te : TE} {p pos sp_ : Pos}
def tMk0 (C : Addr) (sp : Sp) (E : XK) : TE := fun σ H Q => ∀ x dx, H x = none → H dx = none → dx ≠ x → sp [V.ref x] (upd (upd H dx (.own x)) x (.ins C dx [])) (fun v H2 => v = .non ∧ Q (.ref x) H2) E
theorem pe_mk0 (M : Mk X.K C f) (F : FnR X.prog X.w X.K X.mg X.base CX k f sp) (hr : Room (k + 1) X.A) (hg : Gl X x) (hm : X.mg x = some (.ref C)) (hx : Passes CX X E) (hd : (x == ("__debug__" : Str)) = false := by decide) :
    PE X (.Call (.Name x p) [] [] pos) (tMk0 C sp E) := by
  refine ⟨fun pins s σ H Q I h => ?_⟩
  refine wpAny_Call_Name_kw (ld_glob I hg hm ?_ hd)
  exact PySem.W.callWith_K0 I.kIn M.kp (StX.run_makeR M F hr hx I .nil h)
def tMkS (K : PySem.W.Frag) (C : Addr) (sp : Sp) (E : XK) (te : TE) : TE := fun σ H Q => te σ H fun y H1 => ∃ a xs, y = V.ref a ∧ (SqT K H1 a xs ∨ SqL K H1 a xs) ∧ ∀ x dx, H1 x = none → H1 dx = none → dx ≠ x → sp (V.ref x :: xs) (upd (upd H1 dx (.own x)) x (.ins C dx [])) (fun v H2 => v = .non ∧ Q (.ref x) H2) E
theorem pe_mkS (M : Mk X.K C f) (F : FnR X.prog X.w X.K X.mg X.base CX k f sp) (hr : Room (k + 1) X.A) (hg : Gl X x) (hm : X.mg x = some (.ref C)) (hx : Passes CX X E) (he : PE X e te) (hd : (x == ("__debug__" : Str)) = false := by decide)
    (hst : starEach [.Starred e sp_] X.env = [(true, eval e X.env)] := by rfl) : PE X (.Call (.Name x p) [.Starred e sp_] [] pos) (tMkS X.K C sp E te) := by
  refine ⟨fun pins s σ H Q I h => ?_⟩
  refine wpAny_Call_Name_kw (ld_glob I hg hm ?_ hd)
  refine PySem.W.callWith_S (h₀ := X.base) I.ok.mod.kin M.kp (thn (he.run pins s σ H _ I h) fun v s1 ⟨y, H1, I1, ry, a, xs, ey, hxs, q⟩ => ?_) hst
  subst ey
  obtain rfl : v = Value.ref a := ry
  exact StX.star_any I1 hxs fun us s2 I2 rv => ⟨I2.kIn, StX.run_makeR M F hr hx I2 rv q⟩
def tClsS (K : PySem.W.Frag) (i : Nat) (C : Addr) (sp : Sp) (E : XK) (te : TE) : TE := fun σ H Q => σ[i]? = some (some (.ref C)) ∧ tMkS K C sp E te σ H Q
theorem pe_clsS (M : Mk X.K C f) (F : FnR X.prog X.w X.K X.mg X.base CX k f sp) (hr : Room (k + 1) X.A) (hN : X.N[i]? = some x) (hv : Vis X.env.scope x) (hx : Passes CX X E) (he : PE X e te)
    (hdb : (x == ("__debug__" : Str)) = false := by decide) (hcd : (x == ("__classdict__" : Str)) = false := by decide) (hst : starEach [.Starred e sp_] X.env = [(true, eval e X.env)] := by rfl) :
    PE X (.Call (.Name x p) [.Starred e sp_] [] pos) (tClsS X.K i C sp E te) := by
  refine ⟨fun pins s σ H Q I h => ?_⟩
  obtain ⟨hs, ht⟩ := h
  refine wpAny_Call_Name_kw (thn ((pe_var (pos := p) hN hv hdb hcd).run pins s σ H (fun v H1 => v = .ref C ∧ H1 = H) I ⟨.ref C, hs, rfl, rfl⟩) fun u s1 ⟨v, H1, I1, r1, q1⟩ => ?_)
  obtain ⟨rfl, rfl⟩ := q1
  cases r1
  refine PySem.W.callWith_S (h₀ := X.base) I.ok.mod.kin M.kp (thn (he.run pins s1 σ _ _ I1 ht) fun v s2 ⟨y, H2, I2, ry, a, xs, ey, hxs, q⟩ => ?_) hst
  subst ey
  obtain rfl : v = Value.ref a := ry
  exact StX.star_any I2 hxs fun us s3 I3 rv => ⟨I3.kIn, StX.run_makeR M F hr hx I3 rv q⟩
end
section
variable {X : Cx}
theorem ne_int_int {P : Program} {w : World} {A : Around} {E' : Value → Shared → Prop} {s : Shared} {Q : Value → Shared → Prop} (h : Q (.bool false) s) :
    wpAny (model P w) A (compareOp .NotEq (.type "int") (.type "int")) Q E' s := by
  show wpAny _ A (richCompare .NotEq _ _) Q E' s
  refine wpAny_richCompare_same (T := "type") (PySem.TypeEq.meta_int s) (PySem.TypeEq.meta_int s) slot_type_ne (GQ.call_here slot_type_ne (PySem.TypeEq.meta_int s) PySem.F.cmpEntry_ne (PySem.F.cmpArgs_ne _ _) ?_)
  unfold Builtin.«object.__ne__»
  have key : ∀ {Q2 : Option Value → Shared → Prop}, Q2 (some (.bool true)) s → wpAny (model P w) A.in1 (callSpecialIfBound? (.type "int") (Str.ofString "__eq__") [.type "int"]) Q2 (fun e s' => wants (fun v s' => v ≠ .notImplemented ∧ Q v s') E' (.error e) s') s := fun k =>
    wpAny_callSpecialIfBound?_slot (PySem.TypeEq.meta_int s) PySem.TypeEq.slot_type_eq (call_gives PySem.TypeEq.slot_type_eq (PySem.TypeEq.meta_int s) F.entry_object_eq (F.args_object_eq_2 _ _) (PySem.TypeEq.object_eq_same rfl rfl) k)
  obtain ⟨hh, g, d, t, os⟩ := s
  repeat (first
    | with_reducible refine wpAny_cRoomFor_byValue rfl ?_
    | (refine wpAny_bind (m := callSpecialIfBound? (.type "int") (Str.ofString "__eq__") [.type "int"]) (key ?_)
       repeat (first | exact ⟨(fun e => nomatch e), h⟩ | (refine wpAny_bind (m := truthy (.bool _)) (wpAny_truthy_bool ?_)) | wp_step))
    | wp_step)
def rNeII : R2 := fun x y H Q => x = .ty "int" ∧ y = .ty "int" ∧ Q (.bl false) H
theorem op_ne_II : OpR X (compareOp .NotEq) rNeII := by
  intro pins s σ H x y v u Q I rx ry h
  obtain ⟨rfl, rfl, q⟩ := h
  obtain rfl : v = Value.type "int" := rx
  obtain rfl : u = Value.type "int" := ry
  exact ne_int_int ⟨.bl false, H, I, rfl, q⟩
end
/-! set(t) of a tuple of ints; the call of a def with a star, by its own text -/
section
variable {X : Cx}
def rSetT (K : PySem.W.Frag) (w : World) : List V → Hp → VK → Prop := fun xs H Q => ∃ (l : Addr) (ks : List Int), xs = [V.ref l] ∧ SqT K H l (ks.map V.int) ∧ ks.length ≤ 1000 ∧ ∀ p n, H p = none → n ≤ ks.length → Q (.ref p) (upd H p (SetO w p (fun k => decide (k ∈ ks)) n))
theorem cr_setT (hc : X.calm = true) : CallR X (.type "set") (rSetT X.K X.w) := by
  intro pins s σ H xs us Q I r h
  obtain ⟨l, ks, rfl, hl, hz, q⟩ := h
  rw [Vals.ref1 r]
  obtain ⟨its, rv, pl, _⟩ := I.tuple hl
  have hn : H s.heap.objs.size = none := I.hok.fresh (Nat.le_refl _)
  refine call_set_tupI (P := X.prog) (w := X.w) ks (I.ok.hd hc) (show s.heap.IsTuple l its.toArray from pl) (ints_of_vals rv) (by unfold scanBound; omega) fun h' tk c R hc2 k => ?_
  exact ⟨.ref s.heap.objs.size, upd H s.heap.objs.size (SetO X.w s.heap.objs.size _ c), I.laid (t' := tk) k (Nat.le_refl _) (setO_new R), rfl, q _ _ hn hc2⟩
end
/-- def f(a, *v) with no defaults, by its body -/
theorem okStar {P : Program} {w : World} {K : PySem.W.Frag} {mg : Str → Option Value} {base : Heap} {x qual : Str} {st : Stmt} {f : Addr} {fd : FuncData} {N ps : List Str} {pv : Str} {k : Nat} {sp : Sp} (F : Fun K x qual st f fd) (S : FnScope N (ps ++ [pv]) (defScope st))
    (hb : ∀ (kV doc pm : Value) (an : Option Addr) (cdv ct : Value) (us rest : List Value), us.length = ps.length → bindArgs (PySem.W.fnOf x qual (defArgs st) (defBody st) (defScope st) .none kV doc pm an cdv ct) ⟨us ++ rest, []⟩ = (newTuple rest >>= fun t => pure (ps.zip us ++ [(pv, t)])))
    (hbody : ∀ (cdv : Value) (A : Around) (outer : List Env) (s : Shared) (H : Hp) (vs : List V) (Q : VK) (E : XK), Room k (A.deeper (envOfC qual (defScope st) s.heap.objs.size f cdv)) → sp vs H Q E →
      ∃ t, PSs (cxOf CX0 P w K mg base N qual (defScope st) f cdv A outer s H E).nox (defBody st) t ∧ t { nx := fun _ H' => Q .non H', rt := Q } (start N vs) H) :
    FnR P w K mg base CX0 (k + 1) f (fun vs H Q E => ∃ ws rest, vs = ws ++ rest ∧ ws.length = ps.length ∧ rest.length ≤ sizeLine ∧ ∀ p, H p = Option.none → sp (ws ++ [V.ref p]) (upd H p (.tup rest)) Q E) := by
  obtain ⟨oc, od, kV, doc, pm, an, cdv, ct, osl, rfl, lk, hcd⟩ := F.ex
  refine StX.fn_star lk hcd S StX.cxUp_none (hb kV doc pm an cdv ct) fun A outer s H vs Q E hr hsp => ?_
  obtain ⟨t, h, q⟩ := hbody cdv A outer s H vs Q E hr hsp
  exact ⟨t, h.nox, q⟩
end XL

set_option Elab.async false
set_option maxRecDepth 100000
set_option maxHeartbeats 2000000
set_option linter.all false
set_option pp.maxSteps 200
namespace LN
open PySem PySem.Spec PyProof.Rows L2 XG XV XL
def top (i : Nat) : Stmt := PySem.Challenge.pw_needrows_k01_names_and_places.main.body.getD i (.Pass ⟨0, 0, 0, 0⟩)
abbrev sDice : Stmt := (top 16)
abbrev sPull : Stmt := (top 17)
abbrev sPick : Stmt := (top 18)
abbrev sWhole : Stmt := (top 7)
abbrev sAreW : Stmt := (top 8)
abbrev sChk : Stmt := (top 9)
abbrev sChkA : Stmt := (top 10)
abbrev sName : Stmt := (top 11)
abbrev sCompare : Stmt := (top 12)
abbrev sBelow : Stmt := (top 13)
abbrev sLi : Stmt := (inClass (top 14) 0)
abbrev sLof : Stmt := (inClass (top 14) 1)
abbrev sLgiven : Stmt := (inClass (top 14) 2)
abbrev sLcall : Stmt := (inClass (top 14) 3)
abbrev sLroom : Stmt := (inClass (top 14) 4)
abbrev sLplace : Stmt := (inClass (top 14) 10)
abbrev sLor : Stmt := (inClass (top 14) 11)
abbrev sLlen : Stmt := (inClass (top 14) 12)
abbrev sLhas : Stmt := (inClass (top 14) 13)
abbrev sLeq : Stmt := (inClass (top 14) 14)
abbrev sLstr : Stmt := (inClass (top 14) 15)
/-- the built-in names that the text uses -/
structure Bt (mg : Str → Option Value) : Prop where
  int : mg "int" = none
  abs : mg "abs" = none
  max : mg "max" = none
  min : mg "min" = none
  len : mg "len" = none
  range : mg "range" = none
  tuple : mg "tuple" = none
  str : mg "str" = none
  bool : mg "bool" = none
  isinstance : mg "isinstance" = none
  set : mg "set" = none
  sorted : mg "sorted" = none
  type : mg "type" = none
  repr : mg "repr" = none
/-- a def of the text under its name -/
structure Dn (K : PySem.W.Frag) (mg : Str → Option Value) (x : Str) (st : Stmt) (f : Addr) (fd : FuncData) (ps : List Str) : Prop where
  F : Fun K x x st f fd
  m : mg x = some (.ref f)
  b : Binds K fd ps []
/-- at a: the list of a draw's three numbers -/
def Dice (H : Hp) (a : Addr) : Prop := ∃ g m c : Int, H a = some (.lst [.int g, .int m, .int c])
/-- what else was tracked is as it was -/
def But (a : Addr) (H H' : Hp) : Prop := ∀ b o, b ≠ a → H b = some o → H' b = some o
theorem But.upd {a : Addr} {H : Hp} {o : HO} : But a H (upd H a o) := fun b u hb e => by rw [upd_ne hb]; exact e
theorem But.trans {a : Addr} {H H1 H2 : Hp} (x : But a H H1) (y : But a H1 H2) : But a H H2 := fun b o hb e => y b o hb (x b o hb e)
theorem But.of {a : Addr} {H H1 : Hp} (x : Evl.Ex H H1) : But a H H1 := fun b o _ e => x b o e
theorem sqL_but {K : PySem.W.Frag} {a p : Addr} {H H' : Hp} {xs : List V} (x : But a H H') (n : p ≠ a) (h : SqL K H p xs) : SqL K H' p xs := by
  rcases h with (h | ⟨o, h⟩) | h
  · exact .inl (.inl (x _ _ n h))
  · exact .inl (.inr ⟨o, x _ _ n h⟩)
  · exact .inr h
def spDice (K : PySem.W.Frag) : Sp := fun vs H Q _ => ∃ (p : Addr) (ns : List Int) (at_ : Int), vs = [.ref p, .int at_] ∧ SqL K H p (ns.map V.int) ∧ ns.length ≤ 63 ∧ 0 ≤ at_ ∧
  ∀ (a : Addr) (g m c : Int), H a = none → Q (.ref a) (upd H a (.lst [.int g, .int m, .int c]))
def spPull : Sp := fun vs H Q _ => ∃ (a : Addr) (t : Int), vs = [.ref a, .int t] ∧ Dice H a ∧ 0 < t ∧ t < 1073741824 ∧
  ∀ (r : Int) (g m c : Int), 0 ≤ r → r < t → Q (.int r) (upd H a (.lst [.int g, .int m, .int c]))
def spPick (K : PySem.W.Frag) : Sp := fun vs H Q _ => ∃ (a p : Addr) (xs : List V), vs = [.ref a, .ref p] ∧ Dice H a ∧ p ≠ a ∧ SqL K H p xs ∧ 0 < xs.length ∧ xs.length ≤ 1000 ∧
  ∀ (v : V) (g m c : Int), v ∈ xs → Q v (upd H a (.lst [.int g, .int m, .int c]))
local macro_rules | `(tactic| walk_at "sq") => `(tactic| (first | exact SqL.of (by assumption) | exact SqL.of upd_same | exact SqT.of (by assumption) | exact SqT.of upd_same | assumption))
local macro_rules | `(tactic| walk_at "ar") => `(tactic| (first | decide | exact ⟨by decide, by decide⟩ | (left; exact ⟨by decide, by decide⟩) | (right; exact ⟨by decide, by decide⟩) | omega | exact ⟨by omega, by omega⟩ | (left; exact ⟨by omega, by omega⟩) | (right; exact ⟨by omega, by omega⟩) | assumption | exact ⟨by decide, by decide, by decide⟩ | exact ⟨by decide, by decide, by omega⟩ | (show (0 : Int) < _; decide +kernel) | exact ⟨by decide +kernel, by decide +kernel⟩))
local macro_rules | `(tactic| walk_at "r1") => `(tactic| (first
  | refine ⟨_, rfl, ?_⟩
  | refine ⟨_, _, rfl, rfl, (show (_ : Prop) from by walk_at "ar"), ?_⟩
  | refine ⟨_, _, rfl, rfl, ?_⟩
  | refine ⟨_, _, rfl, ?_⟩
  | refine Or.inl ⟨_, rfl, ?_⟩
  | refine Or.inr ⟨_, rfl, ?_⟩
  | refine ⟨_, _, _, _, rfl, rfl, (by walk_at "sq"), rfl, ?_⟩
  | refine ⟨_, _, _, _, rfl, rfl, (by first | assumption | exact upd_same), rfl, ?_⟩))
theorem atI_in {xs : List V} {i : Int} (h0 : 0 ≤ i) (h1 : i < (xs.length : Int)) : ∃ v, atI xs i = some v ∧ v ∈ xs := by
  have hj : i.toNat < xs.length := by omega
  refine ⟨xs[i.toNat], ?_, List.getElem_mem hj⟩
  unfold atI ixN
  rw [if_pos h0, if_pos h1]
  simp [hj]
section
variable {P : Program} {w : World} {K : PySem.W.Frag} {mg : Str → Option Value} {base : Heap}
theorem scPull : FnScope ["dice", "total", "found", "one", "two"] ["dice", "total"] (defScope sPull) := ⟨rfl, rfl, rfl, by decide +kernel, rfl, by decide +kernel, by decide +kernel⟩
theorem okPull {f : Addr} {fd : FuncData} (F : Fun K "_law_pull" "_law_pull" sPull f fd) (T : Bt mg) : FnOk P w K mg base CX0 1 f fd ["dice", "total"] spPull := by
  refine F.ok scPull (fun vs H Q E h => ?_) (fun cdv A outer s H vs Q E hr h => ?_)
  · obtain ⟨a, t, rfl, _⟩ := h
    rfl
  · obtain ⟨a, t, rfl, ⟨g, m, c, hd⟩, ht, ht2, k⟩ := h
    refine ⟨_, (pss_cons (ps_if (pt_cmpR op_gt (pe_ix ix_list (pv 0) pe_int (fun _ _ => rfl)) pe_int (nomark _)) (pss_cons (ps_set (i := 2) scPull.nd rfl (Or.inl rfl) (pe_op op_mod (pe_callTy call_int1 (by rfl) T.int (by decide +kernel) (pa_cons (pe_ix ix_list (pv 0) pe_int (fun _ _ => rfl)) pa_nil)) (pv 1)))
  (pss_cons (ps_asg (pe_op op_fdiv (pe_ix ix_list (pv 0) pe_int (fun _ _ => rfl)) (pv 1)) (pg_sub (pv 0) pe_int set_list))
  (pss_one (ps_ret (pv 2))))) pss_nil)
  (pss_cons (ps_asg (pe_op op_add (pe_ix ix_list (pv 0) pe_int (fun _ _ => rfl)) pe_int) (pg_sub (pv 0) pe_int set_list))
  (pss_cons (ps_set (i := 3) scPull.nd rfl (Or.inl rfl) (pe_op op_mod (pe_callTy call_int1 (by rfl) T.int (by decide +kernel) (pa_cons (pe_op op_add (pe_ix ix_list (pv 0) pe_int (fun _ _ => rfl)) (pe_op op_mul pe_int (pe_ix ix_list (pv 0) pe_int (fun _ _ => rfl)))) pa_nil)) pe_int))
  (pss_cons (ps_set (i := 4) scPull.nd rfl (Or.inl rfl) (pe_op op_mul (pe_op op_mod (pe_callTy call_int1 (by rfl) T.int (by decide +kernel) (pa_cons (pe_op op_mul (pv 3) (pv 3)) pa_nil)) pe_int) (pv 3)))
  (pss_one (ps_ret (pe_op op_mod (pe_callTy call_int1 (by rfl) T.int (by decide +kernel) (pa_cons (pe_op op_fdiv (pe_op op_mod (pe_callTy call_int1 (by rfl) T.int (by decide +kernel) (pa_cons (pe_op op_add (pv 4) (pe_op op_mul pe_int (pe_ix ix_list (pv 0) pe_int (fun _ _ => rfl)))) pa_nil)) pe_int) pe_int) pa_nil)) (pv 1)))))))), ?_⟩
    repeat walk_at "r1"
    refine ite2 (fun _ => ?_) (fun _ => ?_)
    · repeat walk_at "r1"
      exact k _ _ _ _ (Int.emod_nonneg _ (by omega)) (Int.emod_lt_of_pos _ ht)
    · repeat walk_at "r1"
      exact k _ _ _ _ (Int.emod_nonneg _ (by omega)) (Int.emod_lt_of_pos _ ht)
theorem scDice : FnScope ["script", "at", "cell", "great", "mixed"] ["script", "at"] (defScope sDice) := ⟨rfl, rfl, rfl, by decide +kernel, rfl, by decide +kernel, by decide +kernel⟩
theorem okDice {f : Addr} {fd : FuncData} (F : Fun K "_law_dice" "_law_dice" sDice f fd) (T : Bt mg) : FnOk P w K mg base CX0 1 f fd ["script", "at"] (spDice K) := by
  refine F.ok scDice (fun vs H Q E h => ?_) (fun cdv A outer s H vs Q E hr h => ?_)
  · obtain ⟨p, ns, at_, rfl, _⟩ := h
    rfl
  · obtain ⟨p, ns, at_, rfl, hS, hz, h0, k⟩ := h
    refine ⟨_, (pss_cons (ps_set (i := 2) scDice.nd rfl (Or.inl rfl) (pe_op op_add (pe_op op_mul pe_int (pv 1)) pe_int))
  (pss_cons (ps_if (pt_cmpR op_lt (pv 1) (pe_callB call_len_seq (by rfl) T.len (by decide +kernel) (pa_cons (pv 0) pa_nil)) (nomark _)) (pss_one (ps_set (i := 2) scDice.nd rfl (Or.inl rfl) (pe_ix ix_list (pv 0) (pv 1) (fun _ _ => rfl)))) pss_nil)
  (pss_cons (ps_set (i := 3) scDice.nd rfl (Or.inl rfl) (pe_op op_mod (pe_callTy call_int1 (by rfl) T.int (by decide +kernel) (pa_cons (pe_callB call_abs (by rfl) T.abs (by decide +kernel) (pa_cons (pv 2) pa_nil)) pa_nil)) (pe_op op_powB (pe_op op_pow pe_int pe_int) pe_int)))
  (pss_cons (ps_set (i := 4) scDice.nd rfl (Or.inl rfl) (pe_op op_add (pe_op op_add (pe_op op_add (pe_op op_mul (pe_op op_mod (pe_callTy call_int1 (by rfl) T.int (by decide +kernel) (pa_cons (pv 3) pa_nil)) pe_int) pe_int) (pe_op op_mul pe_int (pv 1))) (pe_op op_mul pe_int (pe_callTy call_int1 (by rfl) T.int (by decide +kernel) (pa_cons (pe_cmpR op_lt (pv 2) pe_int (nomark _)) pa_nil)))) pe_int))
  (pss_one (ps_ret (pe_lst (pa_cons (pe_callB (call_max2 rfl) (by rfl) T.max (by decide +kernel) (pa_cons pe_int (pa_cons (pe_op op_sub (pv 3) (pe_op op_pow pe_int pe_int)) pa_nil))) (pa_cons (pe_op op_mod (pe_callTy call_int1 (by rfl) T.int (by decide +kernel) (pa_cons (pv 4) pa_nil)) pe_int) (pa_cons pe_int pa_nil)))))))))), ?_⟩
    repeat walk_at "r1"
    refine ⟨_, _, rfl, Or.inl hS, ?_⟩
    repeat walk_at "r1"
    refine ite2 (fun hlt => ?_) (fun _ => ?_)
    · have hlt := of_decide_eq_true hlt
      obtain ⟨v, hv, hm⟩ := atI_in (xs := ns.map V.int) h0 hlt
      obtain ⟨z, _, rfl⟩ := List.mem_map.mp hm
      refine ⟨_, rfl, _, rfl, _, _, _, _, rfl, rfl, hS, hv, ?_⟩
      repeat walk_at "r1"
      refine ⟨by show 3 ≤ sizeLine; decide, fun a ha => ?_⟩
      exact k a _ _ _ ha
    · repeat walk_at "r1"
      refine ⟨by show 3 ≤ sizeLine; decide, fun a ha => ?_⟩
      exact k a _ _ _ ha
theorem scPick : FnScope ["dice", "items"] ["dice", "items"] (defScope sPick) := ⟨rfl, rfl, rfl, by decide +kernel, rfl, by decide +kernel, by decide +kernel⟩
theorem okPick {f f1 : Addr} {fd fd1 : FuncData} (F : Fun K "_law_pick" "_law_pick" sPick f fd) (T : Bt mg) (D_law_pull : Dn K mg "_law_pull" sPull f1 fd1 ["dice", "total"]) : FnOk P w K mg base CX0 2 f fd ["dice", "items"] (spPick K) := by
  have G_law_pull : FnOk P w K mg base CX0 1 f1 fd1 ["dice", "total"] spPull := okPull D_law_pull.F T
  refine F.ok scPick (fun vs H Q E h => ?_) (fun cdv A outer s H vs Q E hr h => ?_)
  · obtain ⟨a, p, xs, rfl, _⟩ := h
    rfl
  · obtain ⟨a, p, xs, rfl, hd, hpa, hS, h0, hz, k⟩ := h
    refine ⟨_, (pss_one (ps_ret (pe_ix ix_list (pv 1) (pe_call G_law_pull hr rfl D_law_pull.m D_law_pull.F.kp D_law_pull.b .nil pass0 (pa_cons (pv 0) (pa_cons (pe_callB call_len_seq (by rfl) T.len (by decide +kernel) (pa_cons (pv 1) pa_nil)) pa_nil))) (fun _ _ => rfl)))), ?_⟩
    refine ⟨_, rfl, _, rfl, _, rfl, _, _, rfl, Or.inl hS, a, _, rfl, hd, by omega, by omega, fun r g m c hr0 hr1 => ?_⟩
    obtain ⟨v, hv, hm⟩ := atI_in hr0 hr1
    exact ⟨_, _, _, _, rfl, rfl, sqL_but But.upd hpa hS, hv, k v g m c hm⟩

/-! ### what is new since a heap -/
def nw (H H' : Hp) : Hp := fun b => match H b with
  | none => H' b
  | some _ => none
theorem nw_new {H H' : Hp} {b : Addr} (h : H b = none) : nw H H' b = H' b := by
  unfold nw
  rw [h]
theorem nw_some {H H' : Hp} {b : Addr} {o : HO} (h : nw H H' b = some o) : H b = none ∧ H' b = some o := by
  unfold nw at h
  cases e : H b with
  | none => exact ⟨rfl, by rw [e] at h; exact h⟩
  | some u => rw [e] at h; cases h
theorem nw_ex {H H1 H2 H3 : Hp} (g : ∀ b, H1 b = none → H b = none) (h : ∀ b o, H b = none → H1 b = none → H2 b = some o → H3 b = some o) : Evl.Ex (nw H1 H2) (nw H H3) := fun b o e => by
  obtain ⟨e1, e2⟩ := nw_some e
  rw [nw_new (g b e1)]
  exact h b o (g b e1) e1 e2
theorem nw_off {H H' : Hp} : Evl.Ex (nw H H') H' := fun b o e => (nw_some e).2
/-- the dice at a go on -/
structure Go (a : Addr) (H H' : Hp) : Prop where
  b : But a H H'
  d : Dice H' a
theorem Dice.ne {H : Hp} {a b : Addr} (d : Dice H a) (h : H b = none) : b ≠ a := by
  rintro rfl
  obtain ⟨_, _, _, e⟩ := d
  rw [e] at h
  cases h
theorem Dice.ne' {H H1 : Hp} {a b : Addr} (_ : Dice H a) (d : Dice H1 a) (h : H1 b = none) : b ≠ a := d.ne h
theorem Go.up {a : Addr} {H : Hp} {g m c : Int} : Go a H (upd H a (.lst [.int g, .int m, .int c])) := ⟨But.upd, g, m, c, upd_same⟩
theorem Go.trans {a : Addr} {H H1 H2 : Hp} (x : Go a H H1) (y : Go a H1 H2) : Go a H H2 := ⟨x.b.trans y.b, y.d⟩
theorem Go.new {a b : Addr} {H H1 : Hp} {o : HO} (x : Go a H H1) (h : H1 b = none) : Go a H (upd H1 b o) := by
  refine ⟨x.b.trans (But.of (Evl.Ex.new h)), ?_⟩
  obtain ⟨g, m, c, e⟩ := x.d
  exact ⟨g, m, c, by rw [upd_ne (Ne.symm (x.d.ne h)), e]⟩
theorem Go.fresh {a b : Addr} {H H1 : Hp} (x : Go a H H1) (d : Dice H a) (h : H1 b = none) : H b = none := by
  cases e : H b with
  | none => rfl
  | some o =>
    have := x.b b o (x.d.ne h) e
    rw [h] at this
    cases this
theorem Go.nw {a : Addr} {H H1 H2 : Hp} (x : Go a H H1) (d : Dice H a) : Evl.Ex (LN.nw H1 H2) (LN.nw H H2) := nw_ex (fun b h => x.fresh d h) fun _ _ _ _ e => e
theorem Go.nwu {a t : Addr} {H H1 H2 : Hp} {o : HO} (x : Go a H H1) (d : Dice H a) (ht : H2 t = none) : Evl.Ex (LN.nw H1 H2) (LN.nw H (upd H2 t o)) :=
  nw_ex (fun b h => x.fresh d h) fun b o _ _ e => by rw [upd_ne (ne_of_none e ht)]; exact e
theorem Go.nw2 {a : Addr} {H H1 H2 : Hp} (d : Dice H a) (x : Go a H1 H2) : Evl.Ex (LN.nw H H1) (LN.nw H H2) := nw_ex (fun b h => h) fun b o h _ e => x.b b o (d.ne h) e
theorem Go.refl {a : Addr} {H : Hp} (d : Dice H a) : Go a H H := ⟨fun _ _ _ e => e, d⟩
section
variable {K : PySem.W.Frag} {H H' : Hp}
mutual
theorem dp_mono (e : Evl.Ex H H') : ∀ {d : PyData} {v : V}, Dp K H v d → Dp K H' v d
  | _, _, .non => .non
  | _, _, .bl b => .bl b
  | _, _, .int i => .int i
  | _, _, .str x => .str x
  | _, _, .lst h r => .lst (Evl.ex_l e h) (dpa_mono e r)
  | _, _, .tup h r => .tup (Evl.ex_t e h) (dpa_mono e r)
theorem dpa_mono (e : Evl.Ex H H') : ∀ {ds : List PyData} {vs : List V}, DpAll K H vs ds → DpAll K H' vs ds
  | _, _, .nil => .nil
  | _, _, .cons a b => .cons (dp_mono e a) (dpa_mono e b)
end
theorem dpa_snoc {vs : List V} {ds : List PyData} {v : V} {d : PyData} : DpAll K H vs ds → Dp K H v d → DpAll K H (vs ++ [v]) (ds ++ [d])
  | .nil, h => .cons h .nil
  | .cons a b, h => .cons a (dpa_snoc b h)
end
def spPullG : Sp := fun vs H Q _ => ∃ (a : Addr) (t : Int), vs = [.ref a, .int t] ∧ Dice H a ∧ 0 < t ∧ t < 1073741824 ∧ ∀ (r : Int) (H' : Hp), 0 ≤ r → r < t → Go a H H' → Q (.int r) H'
def spPickG (K : PySem.W.Frag) : Sp := fun vs H Q _ => ∃ (a p : Addr) (xs : List V), vs = [.ref a, .ref p] ∧ Dice H a ∧ p ≠ a ∧ SqL K H p xs ∧ 0 < xs.length ∧ xs.length ≤ 1000 ∧ ∀ (v : V) (H' : Hp), v ∈ xs → Go a H H' → Q v H'
theorem fn_less {P : Program} {w : World} {K : PySem.W.Frag} {mg : Str → Option Value} {base : Heap} {CX : CXT} {k : Nat} {f : Addr} {fd : FuncData} {ps : List Str} {sp sp' : Sp} (F : FnOk P w K mg base CX k f fd ps sp) (h : ∀ vs H Q E, sp' vs H Q E → sp vs H Q E) : FnOk P w K mg base CX k f fd ps sp' :=
  ⟨fun vs H Q E z => F.len vs H Q E (h _ _ _ _ z), fun A outer s H args us vs Q E hr e0 hb r z => F.run A outer s H args us vs Q E hr e0 hb r (h _ _ _ _ z)⟩
theorem pull_go {vs : List V} {H : Hp} {Q : VK} {E : XK} : spPullG vs H Q E → spPull vs H Q E := fun ⟨a, t, h1, h2, h3, h4, h5⟩ => ⟨a, t, h1, h2, h3, h4, fun r g m c r0 r1 => h5 r _ r0 r1 Go.up⟩
theorem pick_go {K : PySem.W.Frag} {vs : List V} {H : Hp} {Q : VK} {E : XK} : spPickG K vs H Q E → spPick K vs H Q E := fun ⟨a, p, xs, h1, h2, h3, h4, h5, h6, h7⟩ => ⟨a, p, xs, h1, h2, h3, h4, h5, h6, fun v g m c hv => h7 v _ hv Go.up⟩
/-! an if with one way on, met twice -/
theorem q_ifB {c : TT} {tb tz : TS} {D : Ends} {σ : L2.St} {H : Hp} (R : Hp → Prop) (hz : ∀ H2, R H2 → tz D σ H2) (h : ∀ Z : Hp → Prop, (∀ H2, R H2 → Z H2) → c σ H (fun b H1 => if b = true then tb { D with nx := tz D } σ H1 else Z H1)) : tSeq (tIfS c tb tNext) tz D σ H := h (fun H2 => tz D σ H2) hz
theorem q_ifT {c : TT} {tb tz : TS} {D : Ends} {σ : L2.St} {H : Hp} (R : Hp → Prop) (hb : ∀ H2, R H2 → tb { D with nx := tz D } σ H2) (h : ∀ Z : Hp → Prop, (∀ H2, R H2 → Z H2) → c σ H (fun b H1 => if b = true then Z H1 else tz D σ H1)) : tSeq (tIfS c tb tNext) tz D σ H := h (fun H2 => tb { D with nx := tz D } σ H2) hb
theorem q_if1 {c : TT} {tb tz : TS} {D : Ends} {σ : L2.St} {H : Hp} (h : c σ H (fun b H1 => if b = true then tb { D with nx := tz D } σ H1 else tz D σ H1)) : tSeq (tIfS c tb tNext) tz D σ H := h
theorem q_asgR {i : Nat} {te : TE} {tz : TS} {D : Ends} {σ : L2.St} {H : Hp} (h : te σ H (fun v H1 => tz D (σ.set i (some v)) H1)) : tSeq (tAsg te (gName i)) tz D σ H := h
theorem g_name {i : Nat} {v : V} {σ : L2.St} {H : Hp} {k : L2.St → Hp → Prop} (h : k (σ.set i (some v)) H) : gName i v σ H k := h
theorem sqL_upd {K : PySem.W.Frag} {H H0 : Hp} {p q : Addr} {xs : List V} {o : HO} (h : SqL K H p xs) (h0 : SqL K H0 p xs) (hq : H0 q = none) : SqL K (upd H q o) p xs := by
  have off : ∀ {u : HO}, H0 p = some u → p ≠ q := fun e => ne_of_none e hq
  rcases h0 with (h0 | ⟨u, h0⟩) | h0
  · rcases h with (h | ⟨o', h⟩) | h
    · exact .inl (.inl (by rw [upd_ne (off h0)]; exact h))
    · exact .inl (.inr ⟨o', by rw [upd_ne (off h0)]; exact h⟩)
    · exact .inr h
  · rcases h with (h | ⟨o', h⟩) | h
    · exact .inl (.inl (by rw [upd_ne (off h0)]; exact h))
    · exact .inl (.inr ⟨o', by rw [upd_ne (off h0)]; exact h⟩)
    · exact .inr h
  · exact .inr h0

/-! ### the program: integers -/
theorem pe_cls {X : Cx} {x : Str} {pos : Pos} {a : Addr} (hg : Gl X x) (hm : X.mg x = some (.ref a)) (hd : (x == ("__debug__" : Str)) = false := by decide) : PE X (.Name x pos) (tC (.ref a)) := pe_glob hg hm rfl hd
theorem pe_tyb {X : Cx} {x : Str} {pos : Pos} {n : String} (hg : Gl X x) (hm : X.mg x = none) (hv : bootBuiltins x = some (.type n)) (hn : x ≠ "__name__" := by decide) (hd : (x == ("__debug__" : Str)) = false := by decide) : PE X (.Name x pos) (tC (.ty n)) := pe_bltn hg hm hv rfl hn hd
def rTyAny (K : PySem.W.Frag) : List V → Hp → VK → Prop := fun xs H Q => rTyp K xs H Q ∨ ∃ a C dx fs, xs = [V.ref a] ∧ H a = some (.ins C dx fs) ∧ Q (.ref C) H
theorem call_tyAny {X : Cx} : CallR X (.type "type") (rTyAny X.K) := by
  intro pins s σ H xs us Q I r h
  rcases h with h | h
  · exact call_type1 pins s σ H xs us Q I r h
  · exact cr_type pins s σ H xs us Q I r h
/-- whether a value is an integer, where that can be told -/
inductive Kd (K : PySem.W.Frag) (H : Hp) : V → Bool → Prop
  | int (i : Int) : Kd K H (.int i) true
  | non : Kd K H .non false
  | bl (b : Bool) : Kd K H (.bl b) false
  | str (x : Str) : Kd K H (.str x) false
  | tup {a : Addr} {xs : List V} (h : SqT K H a xs) : Kd K H (.ref a) false
  | ins {a C dx : Addr} {fs : List (Str × V)} (h : H a = some (.ins C dx fs)) (m : metaIn K C = true) : Kd K H (.ref a) false
section
variable {P : Program} {w : World} {K : PySem.W.Frag} {mg : Str → Option Value} {base : Heap}
def spWhole (K : PySem.W.Frag) : Sp := fun vs H Q _ => ∃ (x : V) (b : Bool), vs = [x] ∧ Kd K H x b ∧ Q (.bl b) H
theorem scWhole : FnScope ["value"] ["value"] (defScope sWhole) := ⟨rfl, rfl, rfl, by decide +kernel, rfl, by decide +kernel, by decide +kernel⟩
theorem okWhole {f : Addr} {fd : FuncData} (F : Fun K "is_whole" "is_whole" sWhole f fd) (T : Bt mg) : FnOk P w K mg base CX0 1 f fd ["value"] (spWhole K) := by
  refine F.ok scWhole (fun vs H Q E h => ?_) (fun cdv A outer s H vs Q E hr h => ?_)
  · obtain ⟨x, b, rfl, _⟩ := h
    rfl
  · obtain ⟨x, b, rfl, k, q⟩ := h
    have hu := Nat.lt_of_succ_lt (hu_of hr)
    refine ⟨_, (pss_one (ps_ret (pe_cmpR (op_eq_tyI hu) (pe_callTy call_tyAny (by rfl) T.type (by decide +kernel) (pa_cons (pv 0) pa_nil)) (pe_tyb (by rfl) T.int (by rfl)) (nomark _)))), ?_⟩
    cases k with
    | int i => exact ⟨_, rfl, .inl ⟨_, "int", rfl, .int i, rfl, .inl ⟨"int", rfl, .int, q⟩⟩⟩
    | non => exact ⟨_, rfl, .inl ⟨_, "NoneType", rfl, .non, rfl, .inl ⟨"NoneType", rfl, .non, q⟩⟩⟩
    | bl b => exact ⟨_, rfl, .inl ⟨_, "bool", rfl, .bl b, rfl, .inl ⟨"bool", rfl, .bool, q⟩⟩⟩
    | str z => exact ⟨_, rfl, .inl ⟨_, "str", rfl, .str z, rfl, .inl ⟨"str", rfl, .str, q⟩⟩⟩
    | tup h => exact ⟨_, rfl, .inl ⟨_, "tuple", rfl, .tup h, rfl, .inl ⟨"tuple", rfl, .tup, q⟩⟩⟩
    | ins h m => exact ⟨_, rfl, .inr ⟨_, _, _, _, rfl, h, rfl, .inr ⟨_, rfl, m, q⟩⟩⟩
def spAreW (K : PySem.W.Frag) : Sp := fun vs H Q _ => ∃ (a : Addr) (ns : List Int), vs = [.ref a] ∧ SqT K H a (ns.map V.int) ∧ Q (.bl true) H
theorem scAreW : FnScope ["value", "one"] ["value"] (defScope sAreW) := ⟨rfl, rfl, rfl, by decide +kernel, rfl, by decide +kernel, by decide +kernel⟩
theorem tyx_tup {K : PySem.W.Frag} {H : Hp} {a : Addr} {xs : List V} (h : SqT K H a xs) : TyX K H (.ref a) (.type "tuple") := by
  rcases h with (h | ⟨o, h⟩) | h
  · exact .base (.tup h)
  · exact .fTuple h
  · obtain ⟨o, its, n, h, hc, _⟩ := h
    exact .kTuple h hc
theorem okAreW {f : Addr} {fd : FuncData} (F : Fun K "are_whole" "are_whole" sAreW f fd) (T : Bt mg) : FnOk P w K mg base CX0 1 f fd ["value"] (spAreW K) := by
  refine F.ok scAreW (fun vs H Q E h => ?_) (fun cdv A outer s H vs Q E hr h => ?_)
  · obtain ⟨a, ns, rfl, _⟩ := h
    rfl
  · obtain ⟨a, ns, rfl, hS, q⟩ := h
    refine ⟨_, (pss_cons (ps_if (pt_not (pt_val (pe_callB call_isi (by rfl) T.isinstance (by decide +kernel) (pa_cons (pv 0) (pa_cons (pe_tyb (by rfl) T.tuple (by rfl)) pa_nil))))) (pss_one (ps_ret pe_bl)) pss_nil)
  (pss_cons (ps_for PassesOwn.never rfl (pi_tup (pv 0)) (pg_name (i := 1) scAreW.nd rfl (Or.inl rfl)) (pss_one (ps_if (pt_cmpR op_ne_II (pe_callTy call_tyAny (by rfl) T.type (by decide +kernel) (pa_cons (pv 1) pa_nil)) (pe_tyb (by rfl) T.int (by rfl)) (nomark _)) (pss_one (ps_ret pe_bl)) pss_nil)))
  (pss_one (ps_ret pe_bl)))), ?_⟩
    refine ⟨_, rfl, _, .ty "tuple", .type "tuple", .type "tuple", true, rfl, .ty "tuple", tyx_tup hS, if_pos (beq_self_eq_true _), true, rfl, iteF ?_⟩
    refine ⟨_, rfl, a, rfl, ⟨_, hS⟩, for_tup (xs := ns.map V.int) (fun i σ' H' => H' = H ∧ ∃ u, σ' = [some (.ref a), u]) ⟨rfl, none, rfl⟩ ?_ ?_ ?_⟩
    · rintro i σ' H' _ ⟨rfl, _⟩
      exact hS
    · rintro i x σ' H' hx ⟨rfl, u, rfl⟩
      obtain ⟨z, _, rfl⟩ : ∃ z, z ∈ ns ∧ V.int z = x := by
        have := List.mem_of_getElem? hx
        exact List.mem_map.mp this
      exact ⟨_, rfl, .inl ⟨_, "int", rfl, .int z, rfl, rfl, _, rfl, iteF ⟨rfl, _, rfl⟩⟩⟩
    · rintro σ' H' ⟨rfl, u, rfl⟩
      exact q

def spChk : Sp := fun vs H Q _ => ∃ i : Int, vs = [.int i] ∧ Q .non H
theorem scChk : FnScope ["value"] ["value"] (defScope sChk) := ⟨rfl, rfl, rfl, by decide +kernel, rfl, by decide +kernel, by decide +kernel⟩
theorem okChk {f f1 : Addr} {fd fd1 : FuncData} (F : Fun K "check_whole" "check_whole" sChk f fd) (T : Bt mg) (Dis_whole : Dn K mg "is_whole" sWhole f1 fd1 ["value"]) : FnOk P w K mg base CX0 2 f fd ["value"] spChk := by
  have Gis_whole : FnOk P w K mg base CX0 1 f1 fd1 ["value"] (spWhole K) := okWhole Dis_whole.F T
  refine F.ok scChk (fun vs H Q E h => ?_) (fun cdv A outer s H vs Q E hr h => ?_)
  · obtain ⟨i, rfl, _⟩ := h
    rfl
  · obtain ⟨i, rfl, q⟩ := h
    refine ⟨_, (pss_one (ps_if (pt_not (pt_val (pe_call Gis_whole hr rfl Dis_whole.m Dis_whole.F.kp Dis_whole.b .nil pass0 (pa_cons (pv 0) pa_nil)))) (pss_one ps_never) pss_nil)), ?_⟩
    exact ⟨_, rfl, _, true, rfl, .int i, true, rfl, q⟩
def spChkA (K : PySem.W.Frag) : Sp := fun vs H Q _ => ∃ (a : Addr) (ns : List Int), vs = [.ref a] ∧ SqT K H a (ns.map V.int) ∧ Q .non H
theorem scChkA : FnScope ["value"] ["value"] (defScope sChkA) := ⟨rfl, rfl, rfl, by decide +kernel, rfl, by decide +kernel, by decide +kernel⟩
theorem okChkA {f f1 : Addr} {fd fd1 : FuncData} (F : Fun K "check_all_whole" "check_all_whole" sChkA f fd) (T : Bt mg) (Dare_whole : Dn K mg "are_whole" sAreW f1 fd1 ["value"]) : FnOk P w K mg base CX0 2 f fd ["value"] (spChkA K) := by
  have Gare_whole : FnOk P w K mg base CX0 1 f1 fd1 ["value"] (spAreW K) := okAreW Dare_whole.F T
  refine F.ok scChkA (fun vs H Q E h => ?_) (fun cdv A outer s H vs Q E hr h => ?_)
  · obtain ⟨a, ns, rfl, _⟩ := h
    rfl
  · obtain ⟨a, ns, rfl, hS, q⟩ := h
    refine ⟨_, (pss_one (ps_if (pt_not (pt_val (pe_call Gare_whole hr rfl Dare_whole.m Dare_whole.F.kp Dare_whole.b .nil pass0 (pa_cons (pv 0) pa_nil)))) (pss_one ps_never) pss_nil)), ?_⟩
    exact ⟨_, rfl, a, ns, rfl, hS, true, rfl, q⟩
def cmpI (i j : Int) : Int := if i < j then -1 else if j < i then 1 else 0
def spCompare : Sp := fun vs H Q _ => ∃ i j : Int, vs = [.int i, .int j] ∧ Q (.int (cmpI i j)) H
theorem scCompare : FnScope ["one", "other"] ["one", "other"] (defScope sCompare) := ⟨rfl, rfl, rfl, by decide +kernel, rfl, by decide +kernel, by decide +kernel⟩
theorem okCompare {f f1 f2 : Addr} {fd fd1 fd2 : FuncData} (F : Fun K "compare" "compare" sCompare f fd) (T : Bt mg) (Dcheck_whole : Dn K mg "check_whole" sChk f2 fd2 ["value"]) (Dis_whole : Dn K mg "is_whole" sWhole f1 fd1 ["value"]) : FnOk P w K mg base CX0 3 f fd ["one", "other"] spCompare := by
  have Gcheck_whole : FnOk P w K mg base CX0 2 f2 fd2 ["value"] spChk := okChk Dcheck_whole.F T Dis_whole
  refine F.ok scCompare (fun vs H Q E h => ?_) (fun cdv A outer s H vs Q E hr h => ?_)
  · obtain ⟨i, j, rfl, _⟩ := h
    rfl
  · obtain ⟨i, j, rfl, q⟩ := h
    refine ⟨_, (pss_cons (ps_expr (pe_call Gcheck_whole hr rfl Dcheck_whole.m Dcheck_whole.F.kp Dcheck_whole.b .nil pass0 (pa_cons (pv 0) pa_nil)))
  (pss_cons (ps_expr (pe_call Gcheck_whole hr rfl Dcheck_whole.m Dcheck_whole.F.kp Dcheck_whole.b .nil pass0 (pa_cons (pv 1) pa_nil)))
  (pss_cons (ps_if (pt_cmpR op_lt (pv 0) (pv 1) (nomark _)) (pss_one (ps_ret (pe_un un_neg pe_int))) pss_nil)
  (pss_one (ps_ret (pe_ifExp (pt_cmpR op_gt (pv 0) (pv 1) (nomark _)) pe_int pe_int)))))), ?_⟩
    refine ⟨_, rfl, i, rfl, _, rfl, j, rfl, ?_⟩
    refine ⟨_, rfl, _, rfl, _, _, rfl, rfl, _, rfl, ?_⟩
    unfold cmpI at q
    refine ite2 (fun h => ?_) (fun h => ?_)
    · rw [if_pos (of_decide_eq_true h)] at q
      exact ⟨1, rfl, q⟩
    · rw [decide_eq_true_eq] at h
      rw [if_neg h] at q
      refine ⟨_, rfl, _, rfl, _, _, rfl, rfl, _, rfl, ite2 (fun h => ?_) (fun h => ?_)⟩
      · rw [if_pos (of_decide_eq_true h)] at q
        exact q
      · rw [decide_eq_true_eq] at h
        rw [if_neg (show ¬ j < i from h)] at q
        exact q
/-! ### count_below -/
def cntL (ws : List Int) (k : Int) : Nat := (ws.filter fun z => decide (z < k)).length
theorem cnt_split {ws : List Int} {k : Int} {n : Nat} (hn : n ≤ ws.length) (h1 : ∀ i (h : i < ws.length), i < n → ws[i] < k) (h2 : ∀ i (h : i < ws.length), n ≤ i → k ≤ ws[i]) : cntL ws k = n := by
  have a : (ws.take n).filter (fun z => decide (z < k)) = ws.take n := List.filter_eq_self.mpr fun z hz => by
    obtain ⟨i, hi, rfl⟩ := List.mem_iff_getElem.mp hz
    rw [List.length_take] at hi
    rw [List.getElem_take]
    exact decide_eq_true (h1 i (by omega) (by omega))
  have b : (ws.drop n).filter (fun z => decide (z < k)) = [] := List.filter_eq_nil_iff.mpr fun z hz => by
    obtain ⟨i, hi, rfl⟩ := List.mem_iff_getElem.mp hz
    rw [List.length_drop] at hi
    rw [List.getElem_drop]
    have := h2 (n + i) (by omega) (by omega)
    simp
    omega
  unfold cntL
  have e : ws.filter (fun z => decide (z < k)) = ((ws.take n).filter fun z => decide (z < k)) ++ ((ws.drop n).filter fun z => decide (z < k)) := by
    rw [← List.filter_append, List.take_append_drop]
  rw [e, a, b, List.append_nil, List.length_take]
  omega
theorem atI_int {ws : List Int} {i : Nat} (h : i < ws.length) : atI (ws.map V.int) (i : Int) = some (.int ws[i]) := by
  unfold atI
  rw [Evl.ixN_nat (by rw [List.length_map]; exact h)]
  simp [h]
theorem ev_lenT {σ : L2.St} {H : Hp} {ta : TE} {p : Addr} {xs : List V} (ha : Evl.Ev ta σ H (.ref p)) (h : SqT K H p xs) : Evl.Ev (tCB (Evl.rLenS K) (tCons ta tNil)) σ H (.int (xs.length : Int)) := fun H1 e Q q =>
  ha H1 e _ fun H2 e2 => ⟨p, xs, rfl, .inr (Evl.ex_t (e.trans e2) h), q H2 (e2)⟩
def spBelow (K : PySem.W.Frag) : Sp := fun vs H Q _ => ∃ (g : Addr) (ws : List Int) (k : Int), vs = [.ref g, .int k] ∧ SqT K H g (ws.map V.int) ∧ ws.Pairwise (· < ·) ∧ Evl.RetV (.int (cntL ws k : Nat)) H Q
theorem scBelow : FnScope ["ascending", "number", "low", "high", "middle"] ["ascending", "number"] (defScope sBelow) := ⟨rfl, rfl, rfl, by decide +kernel, rfl, by decide +kernel, by decide +kernel⟩
theorem okBelow {f : Addr} {fd : FuncData} (F : Fun K "count_below" "count_below" sBelow f fd) (T : Bt mg) : FnOk P w K mg base CX0 1 f fd ["ascending", "number"] (spBelow K) := by
  refine F.ok scBelow (fun vs H Q E h => ?_) (fun cdv A outer s H vs Q E hr h => ?_)
  · obtain ⟨g, ws, k, rfl, _⟩ := h
    rfl
  · obtain ⟨g, ws, k, rfl, hS, hP, q⟩ := h
    have lt : ∀ i j (hi : i < ws.length) (hj : j < ws.length), i < j → ws[i] < ws[j] := fun i j hi hj hij => List.pairwise_iff_getElem.mp hP i j hi hj hij
    refine ⟨_, (pss_cons (ps_set (i := 2) scBelow.nd rfl (Or.inl rfl) pe_int)
  (pss_cons (ps_set (i := 3) scBelow.nd rfl (Or.inl rfl) (pe_callB call_len_seq (by rfl) T.len (by decide +kernel) (pa_cons (pv 0) pa_nil)))
  (pss_cons (ps_while PassesOwn.never (pt_cmpR op_lt (pv 2) (pv 3) (nomark _)) (pss_cons (ps_set (i := 4) scBelow.nd rfl (Or.inl rfl) (pe_op op_fdiv (pe_op op_add (pv 2) (pv 3)) pe_int))
  (pss_one (ps_if (pt_cmpR op_lt (pe_ix ix_tup (pv 0) (pv 4) (fun _ _ => rfl)) (pv 1) (nomark _)) (pss_one (ps_set (i := 2) scBelow.nd rfl (Or.inl rfl) (pe_op op_add (pv 4) pe_int))) (pss_one (ps_set (i := 3) scBelow.nd rfl (Or.inl rfl) (pv 4)))))))
  (pss_one (ps_ret (pv 2)))))), ?_⟩
    refine Evl.q_asg Evl.ev_c fun H1 e1 => ?_
    refine Evl.q_asg (ev_lenT (Evl.ev_var rfl) (Evl.ex_t e1 hS)) fun H2 e2 => ?_
    rw [List.length_map]
    refine Evl.q_while (fun m σ' H' => ∃ (lo hi : Nat) (u : Option V), σ' = [some (.ref g), some (.int k), some (.int (lo : Int)), some (.int (hi : Int)), u] ∧ Evl.Ex H H' ∧ m = hi - lo ∧ lo ≤ hi ∧ hi ≤ ws.length ∧
      (∀ i (h : i < ws.length), i < lo → ws[i] < k) ∧ (∀ i (h : i < ws.length), hi ≤ i → k ≤ ws[i])) ws.length ⟨0, ws.length, none, rfl, e1.trans e2, rfl, Nat.zero_le _, Nat.le_refl _, fun i h z => absurd z (Nat.not_lt_zero _), fun i h z => absurd h (Nat.not_lt.mpr z)⟩ ?_
    rintro m σ' H' ⟨lo, hi, u, rfl, ex, rfl, hl, hh, h1, h2⟩
    refine ⟨decide ((lo : Int) < (hi : Int)), Evl.et_test (Evl.ev_op (Evl.ev_var rfl) (Evl.ev_var rfl) Evl.rv_I0), fun hb H3 e3 => ?_, fun hb H3 e3 => ?_⟩
    · have hlt : lo < hi := by
        rw [decide_eq_true_eq] at hb
        omega
      refine ⟨_, fun σ2 H2 h => h, ?_⟩
      have hm : ((lo : Int) + (hi : Int)) / 2 = (((lo + hi) / 2 : Nat) : Int) := by omega
      have hmid : (lo + hi) / 2 < ws.length := by omega
      refine Evl.q_asg (Evl.ev_is (Evl.ev_op (Evl.ev_op (Evl.ev_var rfl) (Evl.ev_var rfl) Evl.rv_I0) Evl.ev_c (Evl.rv_I ⟨by decide, by decide⟩)) (congrArg V.int hm)) fun H4 e4 => ?_
      generalize hM : (lo + hi) / 2 = mid at hmid
      have hS4 := Evl.ex_t ((ex.trans e3).trans e4) hS
      refine Evl.s_if (b := decide (ws[mid] < k)) (Evl.et_test (Evl.ev_op (Evl.ev_op (Evl.ev_var rfl) (Evl.ev_var rfl) (Evl.rv_ixT hS4 (atI_int hmid))) (Evl.ev_var rfl) Evl.rv_I0)) (fun hc H5 e5 => ?_) (fun hc H5 e5 => ?_)
      · have hc := of_decide_eq_true hc
        refine Evl.s_asg (Evl.ev_op (Evl.ev_var rfl) Evl.ev_c Evl.rv_I0) fun H6 e6 => ⟨hi - (mid + 1), by omega, mid + 1, hi, some (.int (mid : Int)), ?_, ((((ex.trans e3).trans e4).trans e5).trans e6), rfl, by omega, hh, fun i h z => ?_, h2⟩
        · rfl
        · rcases Nat.lt_or_ge i mid with y | y
          · have := lt i mid h hmid y
            omega
          · obtain rfl : i = mid := by omega
            exact hc
      · have hc := of_decide_eq_false hc
        refine Evl.s_asg (Evl.ev_var rfl) fun H6 e6 => ⟨mid - lo, by omega, lo, mid, some (.int (mid : Int)), rfl, ((((ex.trans e3).trans e4).trans e5).trans e6), rfl, by omega, by omega, h1, fun i h z => ?_⟩
        rcases Nat.lt_or_ge mid i with y | y
        · have := lt mid i hmid h y
          omega
        · obtain rfl : i = mid := by omega
          omega
    · have hle : lo = hi := by
        rw [decide_eq_false_iff_not] at hb
        omega
      subst hle
      refine Evl.s_ret (Evl.ev_var rfl) fun H4 e4 => ?_
      have := cnt_split hh h1 h2
      rw [← this]
      exact q _ ((ex.trans e3).trans e4)

/-! ### the class Line -/
structure LC (K : PySem.W.Frag) (C : Addr) : Prop where
  cl : Cls K C
  nG : NoAttr K C "_given"
  mt : metaIn K C = true
  sf : PySem.W.selfFirst K C = true
  ne : OwnNe K C
  nb : PySem.W.findIn K (.ref C) "__bool__" = some none
  ca : PySem.W.findIn K (.ref C) "__class__" = some (some (.builtin "object.__class__"))
  cn : PySem.W.specialIn K (.builtin "object.__class__") "__get__" = some (some (.builtin "getset_descriptor.__get__"))
  ct : PySem.W.takesIn K (.builtin "object.__class__") = some true
  cm : PySem.W.mroIn K C (.type "object") = some true
  isC : PySem.W.kitOne K (.ref C) (.ref C) = some true
  isT : PySem.W.kitOne K (.type "tuple") (.ref C) = some false
  isI : PySem.W.kitOne K (.type "int") (.ref C) = some false
  nfT : PySem.W.notFirst K C (.type "tuple") = true
  nfI : PySem.W.notFirst K C (.type "int") = true
  nfC : PySem.W.notFirst K C (.ref C) = true
/-- ascending, with the members of a list -/
structure Asc (ns ws : List Int) : Prop where
  up : ws.Pairwise (· < ·)
  mem : ∀ k, k ∈ ws ↔ k ∈ ns
theorem asc_ext : ∀ {ws us : List Int}, ws.Pairwise (· < ·) → us.Pairwise (· < ·) → (∀ k, k ∈ ws ↔ k ∈ us) → ws = us
  | [], [], _, _, _ => rfl
  | [], u :: us, _, _, h => absurd ((h u).mpr List.mem_cons_self) (by simp)
  | v :: ws, [], _, _, h => absurd ((h v).mp List.mem_cons_self) (by simp)
  | v :: ws, u :: us, p, q, h => by
    obtain ⟨p1, p2⟩ := List.pairwise_cons.mp p
    obtain ⟨q1, q2⟩ := List.pairwise_cons.mp q
    have e : v = u := by
      have a := (h v).mp List.mem_cons_self
      have b := (h u).mpr List.mem_cons_self
      rcases List.mem_cons.mp a with a | a
      · exact a
      · rcases List.mem_cons.mp b with b | b
        · exact b.symm
        · have := q1 v a
          have := p1 u b
          omega
    subst e
    refine congrArg (v :: ·) (asc_ext p2 q2 fun k => ?_)
    have hk := h k
    constructor
    · intro m
      rcases List.mem_cons.mp (hk.mp (List.mem_cons_of_mem _ m)) with z | z
      · have := p1 k m
        omega
      · exact z
    · intro m
      rcases List.mem_cons.mp (hk.mpr (List.mem_cons_of_mem _ m)) with z | z
      · have := q1 k m
        omega
      · exact z
theorem Asc.eq {ns ws us : List Int} (a : Asc ns ws) (b : Asc ns us) : ws = us := asc_ext a.up b.up fun k => (a.mem k).trans (b.mem k).symm
theorem nodup_len : ∀ {ws ns : List Int}, ws.Pairwise (· < ·) → (∀ k ∈ ws, k ∈ ns) → ws.length ≤ ns.length := fun {ws ns} p h =>
  XT.nodup_len (p.imp fun h => by omega) h
def LineAt (K : PySem.W.Frag) (C : Addr) (H : Hp) (a : Addr) (ws : List Int) : Prop := ∃ dx g, H a = some (.ins C dx [("_given", .ref g)]) ∧ SqT K H g (ws.map V.int)
theorem LineAt.ex {C a : Addr} {H H' : Hp} {ws : List Int} (e : Evl.Ex H H') (h : LineAt K C H a ws) : LineAt K C H' a ws := by
  obtain ⟨dx, g, h1, h2⟩ := h
  exact ⟨dx, g, e _ _ h1, Evl.ex_t e h2⟩
def IsLine (K : PySem.W.Frag) (C : Addr) (ns : List Int) : V → Hp → Prop := fun v H => ∃ a ws, v = .ref a ∧ LineAt K C H a ws ∧ Asc ns ws
theorem stays_line {C : Addr} {ns : List Int} : Stays (IsLine K C ns) := fun v H H' e ⟨a, ws, h1, h2, h3⟩ => ⟨a, ws, h1, h2.ex e, h3⟩
def RetP (R : V → Hp → Prop) (H : Hp) (Q : VK) : Prop := ∀ v H', Evl.Ex H H' → R v H' → Q v H'
/-! __init__ -/
def Lined (C x dx : Addr) (ns : List Int) (H : Hp) (Q : VK) : Prop := ∀ (g : Addr) (ws : List Int) (H' : Hp), Asc ns ws → (∀ b o, b ≠ x → H b = some o → H' b = some o) → H' x = some (.ins C dx [("_given", .ref g)]) → H' g = some (.tup (ws.map V.int)) → Q .non H'
def spLini (K : PySem.W.Frag) (C : Addr) : Sp := fun vs H Q _ => ∃ (x dx p : Addr) (ns : List Int), vs = [.ref x, .ref p] ∧ H x = some (.ins C dx []) ∧ SqT K H p (ns.map V.int) ∧ ns.length ≤ 50 ∧ Lined C x dx ns H Q
def spLin (C : Addr) : Sp := fun vs H Q _ => ∃ (x dx : Addr) (ns : List Int), vs = .ref x :: ns.map V.int ∧ H x = some (.ins C dx []) ∧ ns.length ≤ 50 ∧ Lined C x dx ns H Q
theorem scLi : FnScope ["self", "numbers"] ["self", "numbers"] (defScope sLi) := ⟨rfl, rfl, rfl, by decide +kernel, rfl, by decide +kernel, by decide +kernel⟩
theorem okLi {C f f1 f2 : Addr} {fd fd1 fd2 : FuncData} (F : Fun K "__init__" "Line.__init__" sLi f fd) (T : Bt mg) (c : LC K C) (Dcheck_all_whole : Dn K mg "check_all_whole" sChkA f2 fd2 ["value"]) (Dare_whole : Dn K mg "are_whole" sAreW f1 fd1 ["value"]) : FnR P w K mg base CX0 3 f (spLin C) := by
  have Gcheck_all_whole : FnOk P w K mg base CX0 2 f2 fd2 ["value"] (spChkA K) := okChkA Dcheck_all_whole.F T Dare_whole
  refine FnR.imp (okStar (sp := spLini K C) (ps := ["self"]) (pv := "numbers") F scLi (fun kV doc pm an cdv ct us rest hl => match us, rest, hl with | [_], [], _ => rfl | [_], _ :: _, _ => rfl) (fun cdv A outer s H vs Q E hr h => ?_)) (fun vs H Q E h => ?_)
  · obtain ⟨x, dx, p, ns, rfl, hx, hp, hz, k⟩ := h
    refine ⟨_, (pss_cons (ps_expr (pe_call Gcheck_all_whole hr rfl Dcheck_all_whole.m Dcheck_all_whole.F.kp Dcheck_all_whole.b .nil pass0 (pa_cons (pv 1) pa_nil)))
  (pss_one (ps_fld (pv 0) (pe_callTy call_tuple_of (by rfl) T.tuple (by decide +kernel) (pa_cons (pe_callB (cr_sortedSet rfl) (by rfl) T.sorted (by decide +kernel) (pa_cons (pe_callTy (cr_setT rfl) (by rfl) T.set (by decide +kernel) (pa_cons (pv 1) pa_nil)) pa_nil)) pa_nil)) rfl))), ?_⟩
    refine ⟨_, rfl, p, ns, rfl, hp, _, rfl, p, ns, rfl, hp, by omega, fun p1 n h1 hn => ⟨p1, _, n, rfl, upd_same, by omega, fun ws p2 up mem len h2 => ⟨p2, _, rfl, .inl ⟨SqL.of upd_same, fun p3 h3 => ?_⟩⟩⟩⟩
    have e3 : Evl.Ex H (upd (upd (upd H p1 (SetO w p1 (fun k => decide (k ∈ ns)) n)) p2 (.lst (ws.map V.int))) p3 (.tup (ws.map V.int))) := ((Evl.Ex.new h1).trans (Evl.Ex.new h2)).trans (Evl.Ex.new h3)
    refine ⟨_, rfl, x, C, dx, [], rfl, e3 _ _ hx, c.cl, c.nG, by decide, ?_⟩
    have n0 : H p3 = none := Evl.fresh_back ((Evl.Ex.new h1).trans (Evl.Ex.new (o := .lst (ws.map V.int)) h2)) h3
    have n3 : p3 ≠ x := fun z => by
      rw [z, hx] at n0
      cases n0
    refine k p3 ws _ ⟨up, fun k => ?_⟩ (fun b o hb e => ?_) upd_same ?_
    · rw [mem k, decide_eq_true_eq]
    · rw [upd_ne hb]
      exact e3 _ _ e
    · rw [upd_ne n3, upd_same]
  · obtain ⟨x, dx, ns, rfl, hx, hz, k⟩ := h
    refine ⟨[.ref x], ns.map V.int, rfl, rfl, ?_, fun p hp => ⟨x, dx, p, ns, rfl, (Evl.Ex.new hp) _ _ hx, SqT.of upd_same, hz, fun g ws H' a b h1 h2 => k g ws H' a (fun d o hd e => b d o hd ((Evl.Ex.new hp) _ _ e)) h1 h2⟩⟩
    rw [List.length_map, sizeLine_eq]
    omega
theorem mk_run {C : Addr} {H1 : Hp} {ns : List Int} {Q : VK} {E : XK} (hz : ns.length ≤ 50) (k : ∀ v H2, Evl.Ex H1 H2 → IsLine K C ns v H2 → Q v H2) :
    ∀ x dx, H1 x = none → H1 dx = none → dx ≠ x → spLin C (.ref x :: ns.map V.int) (upd (upd H1 dx (.own x)) x (.ins C dx [])) (fun v H2 => v = .non ∧ Q (.ref x) H2) E := by
  intro x dx hx hd ne
  refine ⟨x, dx, ns, rfl, upd_same, hz, fun g ws H' a b h1 h2 => ⟨rfl, k _ _ (fun d o e => ?_) ⟨x, ws, rfl, ⟨dx, g, h1, SqT.of h2⟩, a⟩⟩⟩
  have n1 : d ≠ x := ne_of_none e hx
  refine b d o n1 ?_
  rw [upd_ne n1, upd_ne (ne_of_none e hd)]
  exact e
section
variable {σ : L2.St} {H : Hp} {te : TE} {ta : TA} {C : Addr} {ns : List Int} {E : XK}
theorem evp_mkS (h : EvP te σ H fun v H => ∃ a, v = .ref a ∧ SqT K H a (ns.map V.int)) (hz : ns.length ≤ 50) : EvP (tMkS K C (spLin C) E te) σ H (IsLine K C ns) := fun H1 e Q q => h H1 e _ fun v H2 e2 ⟨a, ea, ht⟩ =>
  ⟨a, _, ea, .inl ht, mk_run hz fun v H3 e3 p => q v H3 (e2.trans e3) p⟩
theorem evp_mkR (h : Evl.EvA ta σ H (ns.map V.int)) (hz : ns.length ≤ 50) : EvP (StX.tMakeR C (spLin C) E ta) σ H (IsLine K C ns) := fun H1 e Q q => h H1 e _ fun H2 e2 => mk_run hz fun v H3 e3 p => q v H3 (e2.trans e3) p
theorem evp_mk0 : EvP (tMk0 C (spLin C) E) σ H (IsLine K C []) := fun H1 e Q q => mk_run (ns := []) (by decide) fun v H3 e3 p => q v H3 e3 p
end
/-! of -/
def spLof (K : PySem.W.Frag) (C : Addr) : Sp := fun vs H Q _ => ∃ (p : Addr) (ns : List Int), vs = [.ref C, .ref p] ∧ SqT K H p (ns.map V.int) ∧ ns.length ≤ 50 ∧ RetP (IsLine K C ns) H Q
theorem scLof : FnScope ["cls", "numbers"] ["cls", "numbers"] (defScope sLof) := ⟨rfl, rfl, rfl, by decide +kernel, rfl, by decide +kernel, by decide +kernel⟩
theorem okLof {C f f1 f2 fi : Addr} {fd fd1 fd2 fdi : FuncData} (F : Fun K "of" "Line.of" sLof f fd) (T : Bt mg) (c : LC K C) (Fi : Fun K "__init__" "Line.__init__" sLi fi fdi) (M : Mk K C fi)
    (Dcheck_all_whole : Dn K mg "check_all_whole" sChkA f2 fd2 ["value"]) (Dare_whole : Dn K mg "are_whole" sAreW f1 fd1 ["value"]) : FnOk P w K mg base CX0 5 f fd ["cls", "numbers"] (spLof K C) := by
  have Gcheck_all_whole : FnOk P w K mg base CX0 2 f2 fd2 ["value"] (spChkA K) := okChkA Dcheck_all_whole.F T Dare_whole
  have Gi : FnR P w K mg base CX0 3 fi (spLin C) := okLi Fi T c Dcheck_all_whole Dare_whole
  refine F.ok scLof (fun vs H Q E h => ?_) (fun cdv A outer s H vs Q E hr h => ?_)
  · obtain ⟨p, ns, rfl, _⟩ := h
    rfl
  · obtain ⟨p, ns, rfl, hp, hz, k⟩ := h
    have hr2 : Room 2 _ := hr.mono (by decide)
    refine ⟨_, (pss_cons (ps_expr (pe_call Gcheck_all_whole hr2 rfl Dcheck_all_whole.m Dcheck_all_whole.F.kp Dcheck_all_whole.b .nil pass0 (pa_cons (pv 1) pa_nil)))
  (pss_one (ps_ret (pe_clsS (i := 0) M Gi hr rfl (Or.inl rfl) pass0 (pv 1))))), ?_⟩
    refine ⟨_, rfl, p, ns, rfl, hp, rfl, ?_⟩
    exact ⟨_, rfl, p, _, rfl, .inl hp, mk_run hz fun v H3 e3 q => k v H3 e3 q⟩
/-! given -/
section
variable {σ : L2.St} {H : Hp} {C a dx g : Addr} {i : Nat}
theorem ev_giv (c : LC K C) (ha : H a = some (.ins C dx [("_given", .ref g)])) (h : σ[i]? = some (some (.ref a))) : Evl.Ev (tFld K (tVar i) "_given") σ H (.ref g) := fun H1 e Q q =>
  ⟨_, h, a, C, dx, _, .ref g, rfl, e _ _ ha, c.cl, c.nG, rfl, q H1 (Evl.Ex.refl _)⟩
end
def spLgiven (C : Addr) : Sp := fun vs H Q _ => ∃ (a dx g : Addr), vs = [.ref a] ∧ H a = some (.ins C dx [("_given", .ref g)]) ∧ Q (.ref g) H
theorem scLgiven : FnScope ["self"] ["self"] (defScope sLgiven) := ⟨rfl, rfl, rfl, by decide +kernel, rfl, by decide +kernel, by decide +kernel⟩
theorem okLgiven {C f : Addr} {fd : FuncData} (F : Fun K "given" "Line.given" sLgiven f fd) (c : LC K C) : FnOk P w K mg base CX0 1 f fd ["self"] (spLgiven C) := by
  refine F.ok scLgiven (fun vs H Q E h => ?_) (fun cdv A outer s H vs Q E hr h => ?_)
  · obtain ⟨a, dx, g, rfl, _⟩ := h
    rfl
  · obtain ⟨a, dx, g, rfl, ha, q⟩ := h
    refine ⟨_, (pss_one (ps_ret (pe_fld (pv 0) rfl))), ?_⟩
    exact ⟨_, rfl, a, C, dx, _, .ref g, rfl, ha, c.cl, c.nG, rfl, q⟩
/-! places -/
theorem cnt_at {ws : List Int} (p : ws.Pairwise (· < ·)) {i : Nat} (h : i < ws.length) : cntL ws ws[i] = i :=
  cnt_split (Nat.le_of_lt h) (fun j hj z => List.pairwise_iff_getElem.mp p j i hj h z) fun j hj z => by
    rcases Nat.lt_or_ge i j with y | y
    · have := List.pairwise_iff_getElem.mp p i j h hj y
      omega
    · obtain rfl : j = i := by omega
      omega
theorem mem_cnt {ws : List Int} (p : ws.Pairwise (· < ·)) (k : Int) : k ∈ ws ↔ ∃ h : cntL ws k < ws.length, ws[cntL ws k] = k := by
  constructor
  · intro m
    obtain ⟨i, hi, rfl⟩ := List.mem_iff_getElem.mp m
    have e := cnt_at p hi
    exact ⟨by rw [e]; exact hi, by simp [e]⟩
  · rintro ⟨h, e⟩
    exact e ▸ List.getElem_mem h
def plc (ws : List Int) (k : Int) : Int := if k ∈ ws then 2 * (cntL ws k : Int) + 1 else 2 * (cntL ws k : Int)
def spLplace (K : PySem.W.Frag) (C : Addr) : Sp := fun vs H Q _ => ∃ (a : Addr) (ws : List Int) (k : Int), vs = [.ref a, .int k] ∧ LineAt K C H a ws ∧ ws.Pairwise (· < ·) ∧ Evl.RetV (.int (plc ws k)) H Q
theorem scLplace : FnScope ["self", "number", "below"] ["self", "number"] (defScope sLplace) := ⟨rfl, rfl, rfl, by decide +kernel, rfl, by decide +kernel, by decide +kernel⟩
theorem okLplace {C f f1 : Addr} {fd fd1 : FuncData} (F : Fun K "_place" "Line._place" sLplace f fd) (T : Bt mg) (c : LC K C) (Dcount_below : Dn K mg "count_below" sBelow f1 fd1 ["ascending", "number"]) : FnOk P w K mg base CX0 2 f fd ["self", "number"] (spLplace K C) := by
  have Gcount_below : FnOk P w K mg base CX0 1 f1 fd1 ["ascending", "number"] (spBelow K) := okBelow Dcount_below.F T
  refine F.ok scLplace (fun vs H Q E h => ?_) (fun cdv A outer s H vs Q E hr h => ?_)
  · obtain ⟨a, ws, k, rfl, _⟩ := h
    rfl
  · obtain ⟨a, ws, k, rfl, ⟨dx, g, ha, hg⟩, up, q⟩ := h
    refine ⟨_, (pss_cons (ps_set (i := 2) scLplace.nd rfl (Or.inl rfl) (pe_call Gcount_below hr rfl Dcount_below.m Dcount_below.F.kp Dcount_below.b .nil pass0 (pa_cons (pe_fld (pv 0) rfl) (pa_cons (pv 1) pa_nil))))
  (pss_cons (ps_if (PW.pt (pw_and (pt_cmpR op_lt (pv 2) (pe_callB call_len_seq (by rfl) T.len (by decide +kernel) (pa_cons (pe_fld (pv 0) rfl) pa_nil)) (nomark _)) (pw_and1 (pt_cmpR op_eq (pe_ix ix_tup (pe_fld (pv 0) rfl) (pv 2) (fun _ _ => rfl)) (pv 1) (nomark _))))) (pss_one (ps_ret (pe_op op_add (pe_op op_mul pe_int (pv 2)) pe_int))) pss_nil)
  (pss_one (ps_ret (pe_op op_mul pe_int (pv 2)))))), ?_⟩
    refine Evl.q_asg (Evl.ev_call (Evl.ea_cons (ev_giv c ha rfl) (Evl.ea_cons (Evl.ev_var rfl) Evl.ea_nil)) (fun H1 e1 Q1 q1 E1 => ⟨g, ws, k, rfl, Evl.ex_t e1 hg, up, fun H2 e2 => q1 H2 e2⟩)) fun H1 e1 => ?_
    have len := ev_lenT (K := K) (xs := ws.map V.int) (ev_giv (σ := [some (.ref a), some (.int k), some (.int (cntL ws k : Nat))]) (i := 0) c (e1 _ _ ha) rfl) (Evl.ex_t e1 hg)
    rw [List.length_map] at len
    refine Evl.q_when (b := decide (k ∈ ws)) (Evl.et_is (Evl.et_and (b := decide (k ∈ ws)) (Evl.et_test (Evl.ev_op (Evl.ev_var rfl) len Evl.rv_I0)) fun hb => ?_) ?_) (fun hb H2 e2 => ?_) (fun hb H2 e2 => ?_)
    · have hlt : cntL ws k < ws.length := by
        have := of_decide_eq_true hb
        omega
      refine Evl.et_test (Evl.ev_is (Evl.ev_op (Evl.ev_op (ev_giv c (e1 _ _ ha) rfl) (Evl.ev_var rfl) (Evl.rv_ixT (Evl.ex_t e1 hg) (atI_int hlt))) (Evl.ev_var rfl) (Evl.rv_eq rfl)) ?_)
      congr 1
      rw [dec_int, Bool.eq_iff_iff, beq_iff_eq, decide_eq_true_eq, mem_cnt up]
      exact ⟨fun h => ⟨hlt, h⟩, fun ⟨_, h⟩ => h⟩
    · by_cases hk : k ∈ ws
      · obtain ⟨h, _⟩ := (mem_cnt up k).mp hk
        simp [hk]
        omega
      · simp [hk]
    · have hk := of_decide_eq_true hb
      refine Evl.s_ret (Evl.ev_op (Evl.ev_op Evl.ev_c (Evl.ev_var rfl) (Evl.rv_I (.inl ⟨by decide, by decide⟩))) Evl.ev_c Evl.rv_I0) fun H3 e3 => ?_
      unfold plc at q
      rw [if_pos hk] at q
      exact q _ ((e1.trans e2).trans e3)
    · have hk := of_decide_eq_false hb
      refine Evl.s_ret (Evl.ev_op Evl.ev_c (Evl.ev_var rfl) (Evl.rv_I (.inl ⟨by decide, by decide⟩))) fun H3 e3 => ?_
      unfold plc at q
      rw [if_neg hk] at q
      exact q _ ((e1.trans e2).trans e3)
end
end
end LN

set_option Elab.async false
set_option maxRecDepth 100000
set_option maxHeartbeats 2000000
set_option linter.all false
set_option pp.maxSteps 200
namespace LN
open PySem PySem.Spec PyProof.Rows L2 XG XV XL
section
variable {P : Program} {w : World} {K : PySem.W.Frag} {mg : Str → Option Value} {base : Heap}
section
variable {σ : L2.St} {H : Hp} {ta tb tc te : TE}
theorem ev_chain {r r' : R2} {x y z v : V} (ha : Evl.Ev ta σ H x) (hb : Evl.Ev tb σ H y) (hr : Evl.RV r x y H (.bl true)) (hc : Evl.Ev tc σ H z) (hr' : Evl.RV r' y z H v) : Evl.Ev (tChain r r' ta tb tc) σ H v := fun H1 e Q q =>
  ha H1 e _ fun H2 e2 => hb H2 (e.trans e2) _ fun H3 e3 => hr H3 ((e.trans e2).trans e3) _ fun H4 e4 => ⟨true, rfl, by
    rw [if_pos rfl]
    exact hc H4 (((e.trans e2).trans e3).trans e4) _ fun H5 e5 => hr' H5 ((((e.trans e2).trans e3).trans e4).trans e5) Q fun H6 e6 => q H6 ((((e2.trans e3).trans e4).trans e5).trans e6)⟩
theorem Kd.ex {x : V} {b : Bool} {H H' : Hp} (e : Evl.Ex H H') (k : Kd K H x b) : Kd K H' x b := by
  cases k with
  | int i => exact .int i
  | non => exact .non
  | bl b => exact .bl b
  | str z => exact .str z
  | tup h => exact .tup (Evl.ex_t e h)
  | ins h m => exact .ins (e _ _ h) m
theorem sv_whole {x : V} {b : Bool} (k : Kd K H x b) : Evl.SpV (spWhole K) ([x] ++ []) H (.bl b) := fun H1 e Q q E => ⟨x, b, rfl, k.ex e, q H1 (Evl.Ex.refl _)⟩
theorem evp_catA {a b : Addr} {xs ys : List V} (ha : Evl.Ev ta σ H (.ref a)) (hb : Evl.Ev tb σ H (.ref b)) (h1 : SqT K H a xs) (h2 : SqT K H b ys) (hz : xs.length + ys.length ≤ 1000) : EvP (tOp (rCatA K) ta tb) σ H (fun v H => ∃ p, v = .ref p ∧ SqT K H p (xs ++ ys)) := fun H1 e Q q =>
  ha H1 e _ fun H2 e2 => hb H2 (e.trans e2) _ fun H3 e3 => by
    have E3 := (e.trans e2).trans e3
    refine ⟨a, b, xs, ys, rfl, rfl, Evl.ex_t E3 h1, Evl.ex_t E3 h2, by rw [sizeLine_eq]; omega, fun z => ?_, fun z1 z2 => ?_, fun z1 z2 p hp => ?_⟩
    · exact q _ H3 (e2.trans e3) ⟨b, rfl, by rw [z]; exact Evl.ex_t E3 h2⟩
    · exact q _ H3 (e2.trans e3) ⟨a, rfl, by rw [z2, List.append_nil]; exact Evl.ex_t E3 h1⟩
    · exact q _ _ ((e2.trans e3).trans (Evl.Ex.new hp)) ⟨p, rfl, SqT.of upd_same⟩
end
/-! data of ints -/
theorem dpa_ints {H : Hp} : ∀ ws : List Int, DpAll K H (ws.map V.int) (ws.map PyData.int)
  | [] => .nil
  | k :: ws => .cons (.int k) (dpa_ints ws)
theorem lay_ints : ∀ ws : List Int, PyData.canLayAll0 (ws.map PyData.int) = true
  | [] => rfl
  | k :: ws => by
    show (true && PyData.canLayAll0 (ws.map PyData.int)) = true
    rw [lay_ints ws]
    rfl
theorem dep_ints : ∀ ws : List Int, PyData.depthAll (ws.map PyData.int) = 0
  | [] => rfl
  | k :: ws => by
    show max 0 (PyData.depthAll (ws.map PyData.int)) = 0
    rw [dep_ints ws]
    rfl
theorem shaped_ints (ws : List Int) : SeqAt.shaped (.tuple (ws.map PyData.int)) = true := by
  unfold SeqAt.shaped
  rw [Bool.and_eq_true]
  refine ⟨lay_ints ws, decide_eq_true ?_⟩
  show PyData.depthAll (ws.map PyData.int) + 1 ≤ 64
  rw [dep_ints ws]
  decide
theorem eqv_ints : ∀ ws us : List Int, PyData.eqvAll (ws.map PyData.int) (us.map PyData.int) = decide (ws = us)
  | [], [] => rfl
  | [], _ :: _ => rfl
  | _ :: _, [] => rfl
  | w :: ws, u :: us => by
    show ((w == u) && PyData.eqvAll (ws.map PyData.int) (us.map PyData.int)) = _
    rw [eqv_ints ws us, Bool.eq_iff_iff]
    simp
theorem rv_eqT {H : Hp} {g h : Addr} {ws us : List Int} (h1 : SqT K H g (ws.map V.int)) (h2 : SqT K H h (us.map V.int)) : Evl.RV (rEqD K) (.ref g) (.ref h) H (.bl (decide (ws = us))) := fun H1 e Q q =>
  ⟨_, _, .tup (Evl.ex_t e h1) (dpa_ints ws), .tup (Evl.ex_t e h2) (dpa_ints us), shaped_ints ws, shaped_ints us, by
    show Q (.bl (PyData.eqvAll (ws.map PyData.int) (us.map PyData.int))) H1
    rw [eqv_ints]
    exact q H1 (Evl.Ex.refl _)⟩
theorem flat_ints (ws : List Int) : (ws.map V.int).all flatV = true := by
  rw [List.all_map]
  exact List.all_eq_true.mpr fun _ _ => rfl
theorem inV_ints (k : Int) : ∀ ws : List Int, inV (.int k) (ws.map V.int) = decide (k ∈ ws)
  | [] => rfl
  | u :: us => by
    have ih := inV_ints k us
    unfold inV at ih ⊢
    rw [List.map_cons, List.any_cons, ih]
    have e : eqV (.int u) (.int k) = decide (k = u) := by
      have : eqV (.int u) (.int k) = (u == k) := rfl
      rw [this, Bool.eq_iff_iff, beq_iff_eq, decide_eq_true_eq]
      exact eq_comm
    rw [e, Bool.eq_iff_iff]
    simp
/-! line(number) -/
def spLcall (K : PySem.W.Frag) (C : Addr) : Sp := fun vs H Q _ => ∃ (a : Addr) (ws : List Int) (k : Int), vs = [.ref a, .int k] ∧ LineAt K C H a ws ∧ ws.Pairwise (· < ·) ∧ Evl.RetV (.int (plc ws k)) H Q
theorem scLcall : FnScope ["self", "number"] ["self", "number"] (defScope sLcall) := ⟨rfl, rfl, rfl, by decide +kernel, rfl, by decide +kernel, by decide +kernel⟩
theorem okLcall {C f f1 f2 f3 fp : Addr} {fd fd1 fd2 fd3 fdp : FuncData} (F : Fun K "__call__" "Line.__call__" sLcall f fd) (T : Bt mg) (c : LC K C) (Fp : Fun K "_place" "Line._place" sLplace fp fdp) (Mp : Meth K C "_place" fp) (bp : Binds K fdp ["self", "number"] [])
    (Dcount_below : Dn K mg "count_below" sBelow f1 fd1 ["ascending", "number"]) (Dcheck_whole : Dn K mg "check_whole" sChk f2 fd2 ["value"]) (Dis_whole : Dn K mg "is_whole" sWhole f3 fd3 ["value"]) : FnOk P w K mg base CX0 3 f fd ["self", "number"] (spLcall K C) := by
  have Gcheck_whole : FnOk P w K mg base CX0 2 f2 fd2 ["value"] spChk := okChk Dcheck_whole.F T Dis_whole
  have G_place : FnOk P w K mg base CX0 2 fp fdp ["self", "number"] (spLplace K C) := okLplace Fp T c Dcount_below
  refine F.ok scLcall (fun vs H Q E h => ?_) (fun cdv A outer s H vs Q E hr h => ?_)
  · obtain ⟨a, ws, k, rfl, _⟩ := h
    rfl
  · obtain ⟨a, ws, k, rfl, ⟨dx, g, ha, hg⟩, up, q⟩ := h
    refine ⟨_, (pss_cons (ps_expr (pe_call Gcheck_whole hr rfl Dcheck_whole.m Dcheck_whole.F.kp Dcheck_whole.b .nil pass0 (pa_cons (pv 1) pa_nil)))
  (pss_one (ps_ret (pe_meth (pv 0) c.cl Mp G_place hr bp .nil pass0 (pa_cons (pv 1) pa_nil))))), ?_⟩
    exact ⟨_, rfl, k, rfl, _, rfl, a, dx, _, rfl, ha, rfl, _, rfl, a, ws, k, rfl, ⟨dx, g, ha, hg⟩, up, q⟩
/-! room -/
def roomV (ws : List Int) (p : Nat) : V := if p % 2 = 1 then .int 1 else if p / 2 = 0 ∨ p / 2 = ws.length then .non else .int (ws.getD (p / 2) 0 - ws.getD (p / 2 - 1) 0 - 1)
def spLroom (K : PySem.W.Frag) (C : Addr) : Sp := fun vs H Q _ => ∃ (a : Addr) (ws : List Int) (p : Nat), vs = [.ref a, .int (p : Int)] ∧ LineAt K C H a ws ∧ p ≤ 2 * ws.length ∧ Evl.RetV (roomV ws p) H Q
theorem scLroom : FnScope ["self", "place", "below"] ["self", "place"] (defScope sLroom) := ⟨rfl, rfl, rfl, by decide +kernel, rfl, by decide +kernel, by decide +kernel⟩
theorem okLroom {C f f3 : Addr} {fd fd3 : FuncData} (F : Fun K "room" "Line.room" sLroom f fd) (T : Bt mg) (c : LC K C) (Dis_whole : Dn K mg "is_whole" sWhole f3 fd3 ["value"]) : FnOk P w K mg base CX0 2 f fd ["self", "place"] (spLroom K C) := by
  have Gis_whole : FnOk P w K mg base CX0 1 f3 fd3 ["value"] (spWhole K) := okWhole Dis_whole.F T
  refine F.ok scLroom (fun vs H Q E h => ?_) (fun cdv A outer s H vs Q E hr h => ?_)
  · obtain ⟨a, ws, k, rfl, _⟩ := h
    rfl
  · obtain ⟨a, ws, p, rfl, ⟨dx, g, ha, hg⟩, hp, q⟩ := h
    refine ⟨_, (pss_cons (ps_if (PW.pt (pw_or (pt_not (pt_val (pe_call Gis_whole hr rfl Dis_whole.m Dis_whole.F.kp Dis_whole.b .nil pass0 (pa_cons (pv 1) pa_nil)))) (pw_or1 (pt_not (pt_chain op_le op_le pe_int (pv 1) (pe_op op_mul pe_int (pe_callB call_len_seq (by rfl) T.len (by decide +kernel) (pa_cons (pe_fld (pv 0) rfl) pa_nil)))))))) (pss_one ps_never) pss_nil)
  (pss_cons (ps_set (i := 2) scLroom.nd rfl (Or.inl rfl) (pe_op op_fdiv (pv 1) pe_int))
  (pss_cons (ps_if (pt_cmpR op_eq (pe_op op_mod (pv 1) pe_int) pe_int (nomark _)) (pss_one (ps_ret pe_int)) pss_nil)
  (pss_cons (ps_if (PW.pt (pw_or (pt_cmpR op_eq (pv 2) pe_int (nomark _)) (pw_or1 (pt_cmpR op_eq (pv 2) (pe_callB call_len_seq (by rfl) T.len (by decide +kernel) (pa_cons (pe_fld (pv 0) rfl) pa_nil)) (nomark _))))) (pss_one (ps_ret pe_non)) pss_nil)
  (pss_one (ps_ret (pe_op op_sub (pe_op op_sub (pe_ix ix_tup (pe_fld (pv 0) rfl) (pv 2) (fun _ _ => rfl)) (pe_ix ix_tup (pe_fld (pv 0) rfl) (pe_op op_sub (pv 2) pe_int) (fun _ _ => rfl))) pe_int))))))), ?_⟩
    have len : ∀ {H1 : Hp} {σ : L2.St}, Evl.Ex H H1 → σ[0]? = some (some (.ref a)) → Evl.Ev (tCB (Evl.rLenS K) (tCons (tFld K (tVar 0) "_given") tNil)) σ H1 (.int (ws.length : Int)) := fun {H1 σ} e h => by
      have z := ev_lenT (K := K) (xs := ws.map V.int) (ev_giv (i := 0) c (e _ _ ha) h) (Evl.ex_t e hg)
      rw [List.length_map] at z
      exact z
    refine Evl.q_when (b := false) (Evl.et_is (Evl.et_or (a := false) (b := false) (Evl.et_is (Evl.et_not (Evl.et_B (Evl.ev_call (Evl.ea_cons (Evl.ev_var rfl) Evl.ea_nil) (sv_whole (.int _))))) rfl) (fun _ => Evl.et_is (Evl.et_not (a := true) (Evl.et_test (ev_chain Evl.ev_c (Evl.ev_var rfl) (fun H1 e Q q => ⟨_, _, rfl, rfl, ?_⟩)
      (Evl.ev_op Evl.ev_c (len (Evl.Ex.refl _) rfl) (Evl.rv_I (.inl ⟨by decide, by decide⟩))) (fun H1 e Q q => ⟨_, _, rfl, rfl, ?_⟩)))) rfl)) rfl) (fun h => nomatch h) (fun _ H1 e1 => ?_)
    · show Q (.bl (decide ((0 : Int) ≤ (p : Int)))) H1
      rw [decide_eq_true (show (0 : Int) ≤ (p : Int) by omega)]
      exact q H1 (Evl.Ex.refl _)
    · show Q (.bl (decide ((p : Int) ≤ 2 * (ws.length : Int)))) H1
      rw [decide_eq_true (show (p : Int) ≤ 2 * (ws.length : Int) by omega)]
      exact q H1 (Evl.Ex.refl _)
    have h2 : (p : Int) / 2 = ((p / 2 : Nat) : Int) := by omega
    refine Evl.q_asg (Evl.ev_is (Evl.ev_op (Evl.ev_var rfl) Evl.ev_c (Evl.rv_I ⟨by decide, by decide⟩)) (congrArg V.int h2)) fun H2 e2 => ?_
    have E2 := e1.trans e2
    unfold roomV at q
    refine Evl.q_when (b := decide (p % 2 = 1)) (Evl.et_test (Evl.ev_is (Evl.ev_op (Evl.ev_op (Evl.ev_var rfl) Evl.ev_c (Evl.rv_I (show (0 : Int) < 2 by decide))) Evl.ev_c (Evl.rv_eq rfl)) ?_)) (fun hb H3 e3 => ?_) (fun hb H3 e3 => ?_)
    · congr 1
      rw [dec_int, Bool.eq_iff_iff, beq_iff_eq, decide_eq_true_eq]
      omega
    · rw [if_pos (of_decide_eq_true hb)] at q
      exact Evl.s_ret Evl.ev_c fun H4 e4 => q _ ((E2.trans e3).trans e4)
    · rw [if_neg (of_decide_eq_false hb)] at q
      have E3 := E2.trans e3
      refine Evl.q_when (b := decide (p / 2 = 0) || decide (p / 2 = ws.length)) (Evl.et_or (Evl.et_test (Evl.ev_is (Evl.ev_op (Evl.ev_var rfl) Evl.ev_c (Evl.rv_eq rfl)) ?_)) fun _ => Evl.et_test (Evl.ev_is (Evl.ev_op (Evl.ev_var rfl) (len E3 rfl) (Evl.rv_eq rfl)) ?_)) (fun hc H4 e4 => ?_) (fun hc H4 e4 => ?_)
      · congr 1
        rw [dec_int, Bool.eq_iff_iff, beq_iff_eq, decide_eq_true_eq]
        omega
      · congr 1
        rw [dec_int, Bool.eq_iff_iff, beq_iff_eq, decide_eq_true_eq]
        omega
      · rw [if_pos (by simpa using hc)] at q
        exact Evl.s_ret Evl.ev_c fun H5 e5 => q _ ((E3.trans e4).trans e5)
      · have hc : ¬ (p / 2 = 0 ∨ p / 2 = ws.length) := by simpa using hc
        rw [if_neg hc] at q
        have hlt : p / 2 < ws.length := by omega
        have hlt2 : p / 2 - 1 < ws.length := by omega
        have E4 := E3.trans e4
        have h3 : ((p / 2 : Nat) : Int) - 1 = ((p / 2 - 1 : Nat) : Int) := by omega
        refine Evl.s_ret (Evl.ev_op (Evl.ev_op (Evl.ev_op (ev_giv c (E4 _ _ ha) rfl) (Evl.ev_var rfl) (Evl.rv_ixT (Evl.ex_t E4 hg) (atI_int hlt))) (Evl.ev_op (ev_giv c (E4 _ _ ha) rfl) (Evl.ev_is (Evl.ev_op (Evl.ev_var rfl) Evl.ev_c Evl.rv_I0) (congrArg V.int h3)) (Evl.rv_ixT (Evl.ex_t E4 hg) (atI_int hlt2))) Evl.rv_I0) Evl.ev_c Evl.rv_I0) fun H5 e5 => ?_
        have z1 : ws.getD (p / 2) 0 = ws[p / 2] := by simp [hlt]
        have z2 : ws.getD (p / 2 - 1) 0 = ws[p / 2 - 1] := by simp [hlt2]
        rw [z1, z2] at q
        exact q _ (E4.trans e5)
/-! len, str -/
def spLlen (K : PySem.W.Frag) (C : Addr) : Sp := fun vs H Q _ => ∃ (a : Addr) (ws : List Int), vs = [.ref a] ∧ LineAt K C H a ws ∧ Evl.RetV (.int (ws.length : Int)) H Q
theorem scLlen : FnScope ["self"] ["self"] (defScope sLlen) := ⟨rfl, rfl, rfl, by decide +kernel, rfl, by decide +kernel, by decide +kernel⟩
theorem ev_glen {σ : L2.St} {H : Hp} {C a dx g : Addr} {ws : List Int} {i : Nat} (c : LC K C) (ha : H a = some (.ins C dx [("_given", .ref g)])) (hg : SqT K H g (ws.map V.int)) (h : σ[i]? = some (some (.ref a))) : Evl.Ev (tCB (Evl.rLenS K) (tCons (tFld K (tVar i) "_given") tNil)) σ H (.int (ws.length : Int)) := by
  have z := ev_lenT (K := K) (xs := ws.map V.int) (ev_giv (i := i) c ha h) hg
  rw [List.length_map] at z
  exact z
theorem okLlen {C f : Addr} {fd : FuncData} (F : Fun K "__len__" "Line.__len__" sLlen f fd) (T : Bt mg) (c : LC K C) : FnOk P w K mg base CX0 1 f fd ["self"] (spLlen K C) := by
  refine F.ok scLlen (fun vs H Q E h => ?_) (fun cdv A outer s H vs Q E hr h => ?_)
  · obtain ⟨a, ws, rfl, _⟩ := h
    rfl
  · obtain ⟨a, ws, rfl, ⟨dx, g, ha, hg⟩, q⟩ := h
    refine ⟨_, (pss_one (ps_ret (pe_callB call_len_seq (by rfl) T.len (by decide +kernel) (pa_cons (pe_fld (pv 0) rfl) pa_nil)))), ?_⟩
    exact Evl.s_ret (ev_glen c ha hg rfl) fun H1 e1 => q H1 e1
def lineText (n : Nat) : Str := ((Str.empty ++ Str.ofString "line of ") ++ ((toString (n : Int) : String) : Str)) ++ Str.ofString " integers"
def spLstr (K : PySem.W.Frag) (C : Addr) : Sp := fun vs H Q _ => ∃ (a : Addr) (ws : List Int), vs = [.ref a] ∧ LineAt K C H a ws ∧ ws.length ≤ 1000 ∧ Evl.RetV (.str (lineText ws.length)) H Q
theorem scLstr : FnScope ["self"] ["self"] (defScope sLstr) := ⟨rfl, rfl, rfl, by decide +kernel, rfl, by decide +kernel, by decide +kernel⟩
theorem okLstr {C f : Addr} {fd : FuncData} (F : Fun K "__str__" "Line.__str__" sLstr f fd) (T : Bt mg) (c : LC K C) : FnOk P w K mg base CX0 1 f fd ["self"] (spLstr K C) := by
  refine F.ok scLstr (fun vs H Q E h => ?_) (fun cdv A outer s H vs Q E hr h => ?_)
  · obtain ⟨a, ws, rfl, _⟩ := h
    rfl
  · obtain ⟨a, ws, rfl, ⟨dx, g, ha, hg⟩, hz, q⟩ := h
    refine ⟨_, (pss_one (ps_ret (pe_joined (PJ.cons pe_str (PJ.cons (pe_fmt (pe_callB call_len_seq (by rfl) T.len (by decide +kernel) (pa_cons (pe_fld (pv 0) rfl) pa_nil))) (PJ.cons pe_str PJ.nil)))))), ?_⟩
    have l2 : (ws.length : Int).natAbs.log2 < 20 := by
      rcases Nat.eq_zero_or_pos (ws.length : Int).natAbs with z | z
      · rw [z]
        decide
      · exact (Nat.log2_lt (by omega)).mpr (by omega)
    have tl := XS.int_len (ws.length : Int)
    have la : (Str.empty ++ Str.ofString "line of ").length = 8 := by decide
    have lb : (Str.ofString " integers").length = 9 := by decide
    refine ⟨_, rfl, by decide, ?_⟩
    simp only [tJs, tFmt]
    refine ev_glen c ha hg rfl H (Evl.Ex.refl H) _ fun H1 e1 => .inr ⟨_, rfl, by omega, _, rfl, ?_, _, rfl, ?_, q H1 e1⟩
    · rw [XS.lt_len, la, sizeLine_eq]
      omega
    · rw [XS.lt_len, XS.lt_len, la, lb, sizeLine_eq]
      omega
end
end LN

set_option Elab.async false
set_option maxRecDepth 100000
set_option maxHeartbeats 2000000
set_option linter.all false
set_option pp.maxSteps 200
namespace LN
open PySem PySem.Spec PyProof.Rows L2 XG XV XL
section
variable {P : Program} {w : World} {K : PySem.W.Frag} {mg : Str → Option Value} {base : Heap}
theorem tyx_line {C a dx : Addr} {fs : List (Str × V)} {H : Hp} (c : LC K C) (h : H a = some (.ins C dx fs)) : TyX K H (.ref a) (.ref C) := .base (.ins h c.cl c.ca c.cn c.ct c.cm)
theorem rc_isi {x : V} {C : Addr} {t : Value} {b : Bool} {H : Hp} (ty : ∀ H1, Evl.Ex H H1 → TyX K H1 x t) (e : PySem.W.kitOne K t (.ref C) = some b) : Evl.RC (rIsi K) [x, .ref C] H (.bl b) := fun H1 e1 Q q => ⟨x, .ref C, t, .ref C, b, rfl, .own C, ty H1 e1, e, q H1 (Evl.Ex.refl _)⟩
theorem tyx_tup_ex {H : Hp} {a : Addr} {xs : List V} (h : SqT K H a xs) : ∀ H1, Evl.Ex H H1 → TyX K H1 (.ref a) (.type "tuple") := fun H1 e => tyx_tup (Evl.ex_t e h)
theorem evp_ref {σ : L2.St} {H : Hp} {i : Nat} {p : Addr} {xs : List V} (h : SqT K H p xs) (hi : σ[i]? = some (some (.ref p))) : EvP (tVar i) σ H (fun v H => ∃ a, v = .ref a ∧ SqT K H a xs) := fun H1 e Q q => ⟨_, hi, q _ H1 (Evl.Ex.refl _) ⟨p, rfl, Evl.ex_t e h⟩⟩
/-! one | other -/
def spLor (K : PySem.W.Frag) (C : Addr) : Sp := fun vs H Q _ => ∃ (a b : Addr) (ws us : List Int), vs = [.ref a, .ref b] ∧ LineAt K C H a ws ∧ LineAt K C H b us ∧ ws.length + us.length ≤ 50 ∧ RetP (IsLine K C (ws ++ us)) H Q
theorem scLor : FnScope ["self", "other", "numbers"] ["self", "other"] (defScope sLor) := ⟨rfl, rfl, rfl, by decide +kernel, rfl, by decide +kernel, by decide +kernel⟩
theorem okLor {C f f1 f2 fi : Addr} {fd fd1 fd2 fdi : FuncData} (F : Fun K "__or__" "Line.__or__" sLor f fd) (T : Bt mg) (c : LC K C) (hLine : mg "Line" = some (.ref C)) (Fi : Fun K "__init__" "Line.__init__" sLi fi fdi) (M : Mk K C fi)
    (Dcheck_all_whole : Dn K mg "check_all_whole" sChkA f2 fd2 ["value"]) (Dare_whole : Dn K mg "are_whole" sAreW f1 fd1 ["value"]) : FnOk P w K mg base CX0 5 f fd ["self", "other"] (spLor K C) := by
  have Gi : FnR P w K mg base CX0 3 fi (spLin C) := okLi Fi T c Dcheck_all_whole Dare_whole
  refine F.ok scLor (fun vs H Q E h => ?_) (fun cdv A outer s H vs Q E hr h => ?_)
  · obtain ⟨a, b, ws, us, rfl, _⟩ := h
    rfl
  · obtain ⟨a, b, ws, us, rfl, ⟨dx, g, ha, hg⟩, ⟨dy, g', hb, hg'⟩, hz, q⟩ := h
    refine ⟨_, (pss_cons (ps_if (pt_not (pt_val (pe_callB call_isi (by rfl) T.isinstance (by decide +kernel) (pa_cons (pv 1) (pa_cons (pe_cls (by rfl) hLine) pa_nil))))) (pss_one ps_never) pss_nil)
  (pss_cons (ps_set (i := 2) scLor.nd rfl (Or.inl rfl) (pe_op op_catA (pe_fld (pv 0) rfl) (pe_fld (pv 1) rfl)))
  (pss_one (ps_ret (pe_mkS M Gi hr rfl hLine pass0 (pv 2)))))), ?_⟩
    refine Evl.q_when (b := false) (Evl.et_is (Evl.et_not (a := true) (Evl.et_B (Evl.ev_cb (Evl.ea_cons (Evl.ev_var rfl) (Evl.ea_cons Evl.ev_c Evl.ea_nil)) (rc_isi (fun H1 e => tyx_line c (e _ _ hb)) c.isC)))) rfl) (fun h => nomatch h) (fun _ H1 e1 => ?_)
    refine q_asgP (evp_catA (ev_giv c (e1 _ _ ha) rfl) (ev_giv c (e1 _ _ hb) rfl) (Evl.ex_t e1 hg) (Evl.ex_t e1 hg') (by rw [List.length_map, List.length_map]; omega)) fun v H2 e2 ⟨p, ev, hp⟩ => ?_
    subst ev
    rw [← List.map_append] at hp
    exact s_retP (evp_mkS (evp_ref hp rfl) (by rw [List.length_append]; exact hz)) fun v H3 e3 p3 => q v H3 ((e1.trans e2).trans e3) p3
/-! value in line -/
def hasV (ws : List Int) : V → Bool
  | .int k => decide (k ∈ ws)
  | _ => false
def spLhas (K : PySem.W.Frag) (C : Addr) : Sp := fun vs H Q _ => ∃ (a : Addr) (ws : List Int) (x : V) (b : Bool), vs = [.ref a, x] ∧ LineAt K C H a ws ∧ Kd K H x b ∧ Evl.RetV (.bl (hasV ws x)) H Q
theorem scLhas : FnScope ["self", "value"] ["self", "value"] (defScope sLhas) := ⟨rfl, rfl, rfl, by decide +kernel, rfl, by decide +kernel, by decide +kernel⟩
theorem okLhas {C f f3 : Addr} {fd fd3 : FuncData} (F : Fun K "__contains__" "Line.__contains__" sLhas f fd) (T : Bt mg) (c : LC K C) (Dis_whole : Dn K mg "is_whole" sWhole f3 fd3 ["value"]) : FnOk P w K mg base CX0 2 f fd ["self", "value"] (spLhas K C) := by
  have Gis_whole : FnOk P w K mg base CX0 1 f3 fd3 ["value"] (spWhole K) := okWhole Dis_whole.F T
  refine F.ok scLhas (fun vs H Q E h => ?_) (fun cdv A outer s H vs Q E hr h => ?_)
  · obtain ⟨a, ws, x, b, rfl, _⟩ := h
    rfl
  · obtain ⟨a, ws, x, b, rfl, ⟨dx, g, ha, hg⟩, kd, q⟩ := h
    refine ⟨_, (pss_one (ps_ret (pe_and (pe_call Gis_whole hr rfl Dis_whole.m Dis_whole.F.kp Dis_whole.b .nil pass0 (pa_cons (pv 1) pa_nil)) (pe_one (pe_cmpR op_in_seq (pv 1) (pe_fld (pv 0) rfl) (by rfl)))))), ?_⟩
    refine Evl.s_ret (v := .bl (hasV ws x)) (Evl.ev_is (Evl.ev_andV (b := hasV ws x) (Evl.ev_call (Evl.ea_cons (Evl.ev_var rfl) Evl.ea_nil) (sv_whole kd)) (fun hb => ?_)) ?_) fun H1 e1 => q H1 e1
    · subst hb
      cases kd with
      | int k => exact Evl.ev_is (Evl.ev_op (Evl.ev_var rfl) (ev_giv c ha rfl) (Evl.rv_isT hg rfl (flat_ints ws))) (congrArg V.bl (inV_ints k ws))
    · cases kd <;> rfl
/-! == -/
inductive Eqt (K : PySem.W.Frag) (C : Addr) (H : Hp) (ws : List Int) : V → Bool → Prop
  | line {b : Addr} {us : List Int} (h : LineAt K C H b us) : Eqt K C H ws (.ref b) (decide (ws = us))
  | tup {b : Addr} {xs : List V} (h : SqT K H b xs) : Eqt K C H ws (.ref b) false
  | int (i : Int) : Eqt K C H ws (.int i) false
def spLeq (K : PySem.W.Frag) (C : Addr) : Sp := fun vs H Q _ => ∃ (a : Addr) (ws : List Int) (x : V) (b : Bool), vs = [.ref a, x] ∧ LineAt K C H a ws ∧ Eqt K C H ws x b ∧ Evl.RetV (.bl b) H Q
theorem scLeq : FnScope ["self", "other"] ["self", "other"] (defScope sLeq) := ⟨rfl, rfl, rfl, by decide +kernel, rfl, by decide +kernel, by decide +kernel⟩
theorem okLeq {C f : Addr} {fd : FuncData} (F : Fun K "__eq__" "Line.__eq__" sLeq f fd) (T : Bt mg) (c : LC K C) (hLine : mg "Line" = some (.ref C)) : FnOk P w K mg base CX0 1 f fd ["self", "other"] (spLeq K C) := by
  refine F.ok scLeq (fun vs H Q E h => ?_) (fun cdv A outer s H vs Q E hr h => ?_)
  · obtain ⟨a, ws, x, b, rfl, _⟩ := h
    rfl
  · obtain ⟨a, ws, x, b, rfl, ⟨dx, g, ha, hg⟩, kd, q⟩ := h
    refine ⟨_, (pss_one (ps_ret (pe_and (pe_callB call_isi (by rfl) T.isinstance (by decide +kernel) (pa_cons (pv 1) (pa_cons (pe_cls (by rfl) hLine) pa_nil))) (pe_one (pe_cmpR (op_eqD hr.units) (pe_fld (pv 0) rfl) (pe_fld (pv 1) rfl) (nomark _)))))), ?_⟩
    cases kd with
    | @line b us h =>
      obtain ⟨dy, g', hb, hg'⟩ := h
      refine Evl.s_ret (v := .bl (decide (ws = us))) (Evl.ev_is (Evl.ev_andV (a := true) (b := decide (ws = us)) (Evl.ev_cb (Evl.ea_cons (Evl.ev_var rfl) (Evl.ea_cons Evl.ev_c Evl.ea_nil)) (rc_isi (fun H1 e => tyx_line c (e _ _ hb)) c.isC)) (fun _ => Evl.ev_op (ev_giv c ha rfl) (ev_giv c hb rfl) (rv_eqT hg hg'))) (by rw [Bool.true_and])) fun H1 e1 => q H1 e1
    | tup h => exact Evl.s_ret (v := .bl false) (Evl.ev_andV (a := false) (b := false) (Evl.ev_cb (Evl.ea_cons (Evl.ev_var rfl) (Evl.ea_cons Evl.ev_c Evl.ea_nil)) (rc_isi (tyx_tup_ex h) c.isT)) (fun h => nomatch h)) fun H1 e1 => q H1 e1
    | int i => exact Evl.s_ret (v := .bl false) (Evl.ev_andV (a := false) (b := false) (Evl.ev_cb (Evl.ea_cons (Evl.ev_var rfl) (Evl.ea_cons Evl.ev_c Evl.ea_nil)) (rc_isi (fun H1 e => .base (.int i)) c.isI)) (fun h => nomatch h)) fun H1 e1 => q H1 e1
/-! is_name -/
def nameB (z : Str) : Bool := Txt.islower z && (Txt.isalpha z && (Txt.isascii z && decide ((z.length : Int) ≤ 8)))
inductive Nst (K : PySem.W.Frag) (H : Hp) : V → Prop
  | non : Nst K H .non
  | int (i : Int) : Nst K H (.int i)
  | bl (b : Bool) : Nst K H (.bl b)
  | tup {a : Addr} {xs : List V} (h : SqT K H a xs) : Nst K H (.ref a)
  | lst {a : Addr} {xs : List V} (h : H a = some (.lst xs)) : Nst K H (.ref a)
  | dK {a : Addr} {kvs : List (Key × V)} (h : H a = some (.dK kvs)) : Nst K H (.ref a)
def spName (K : PySem.W.Frag) : Sp := fun vs H Q _ => ∃ x : V, vs = [x] ∧ ((∃ z : Str, x = .str z ∧ z.length ≤ 1000 ∧ Evl.RetV (.bl (nameB z)) H Q) ∨ (Nst K H x ∧ Evl.RetV (.bl false) H Q))
theorem kit_no {T : String} (h : (T == "str") = false) (e : PySem.W.kitOne K (.type T) (.type "str") = some false) : PySem.W.kitOne K (.type T) (.type "str") = some false := e
theorem Nst.ty {x : V} {H : Hp} (n : Nst K H x) : ∃ t, (∀ H1, Evl.Ex H H1 → TyX K H1 x t) ∧ PySem.W.kitOne K t (.type "str") = some false := by
  cases n with
  | non => exact ⟨_, fun H1 e => .base .non, rfl⟩
  | int i => exact ⟨_, fun H1 e => .base (.int i), rfl⟩
  | bl b => exact ⟨_, fun H1 e => .base (.bl b), rfl⟩
  | tup h => exact ⟨_, tyx_tup_ex h, rfl⟩
  | lst h => exact ⟨_, fun H1 e => .base (.lst (e _ _ h)), rfl⟩
  | dK h => exact ⟨_, fun H1 e => .base (.dK (e _ _ h)), rfl⟩
theorem rc_isS {x : V} {t : Value} {b : Bool} {H : Hp} (ty : ∀ H1, Evl.Ex H H1 → TyX K H1 x t) (e : PySem.W.kitOne K t (.type "str") = some b) : Evl.RC (rIsi K) [x, .ty "str"] H (.bl b) := fun H1 e1 Q q => ⟨x, .ty "str", t, .type "str", b, rfl, .ty "str", ty H1 e1, e, q H1 (Evl.Ex.refl _)⟩
section
variable {σ : L2.St} {H : Hp} {te : TE}
theorem ev_bm0 {r : V → List V → Hp → VK → Prop} {z : Str} {v : V} (h : Evl.Ev te σ H (.str z)) (hr : ∀ (H1 : Hp) (Q : VK), Q v H1 → r (.str z) [] H1 Q) : Evl.Ev (tBM0 K "str" r te) σ H v := fun H1 e Q q => h H1 e _ fun H2 e2 => ⟨rfl, hr H2 Q (q H2 e2)⟩
theorem ev_lenS {ta : TE} {z : Str} (h : Evl.Ev ta σ H (.str z)) (hz : z.length ≤ sizeLine) : Evl.Ev (tCB (fun xs H Q => ∃ z, xs = [.str z] ∧ z.length ≤ sizeLine ∧ Q (.int z.length) H) (tCons ta tNil)) σ H (.int (z.length : Int)) := fun H1 e Q q => h H1 e _ fun H2 e2 => ⟨z, rfl, hz, q H2 e2⟩
end
theorem scName : FnScope ["value"] ["value"] (defScope sName) := ⟨rfl, rfl, rfl, by decide +kernel, rfl, by decide +kernel, by decide +kernel⟩
theorem okName {f : Addr} {fd : FuncData} {tk : Tok} (F : Fun K "is_name" "is_name" sName f fd) (T : Bt mg) (hL : mg "LONGEST_NAME" = some (.int 8 tk)) : FnOk P w K mg base CX0 1 f fd ["value"] (spName K) := by
  refine F.ok scName (fun vs H Q E h => ?_) (fun cdv A outer s H vs Q E hr h => ?_)
  · obtain ⟨x, rfl, _⟩ := h
    rfl
  · obtain ⟨x, rfl, h⟩ := h
    refine ⟨_, (pss_cons (ps_if (PW.pt (pw_or (pt_not (pt_val (pe_callB call_isi (by rfl) T.isinstance (by decide +kernel) (pa_cons (pv 0) (pa_cons (pe_tyb (by rfl) T.str (by rfl)) pa_nil))))) (pw_or1 (pt_not (pt_val (pe_bm0 PySem.F.plainAttrs_str PySem.F.slot_str_islower PySem.F.type_str_islower mt_islower (pv 0))))))) (pss_one (ps_ret pe_bl)) pss_nil)
  (pss_one (ps_ret (pe_and (pe_bm0 PySem.F.plainAttrs_str PySem.F.slot_str_isalpha PySem.F.type_str_isalpha mt_isalpha (pv 0)) (pe_and (pe_bm0 PySem.F.plainAttrs_str PySem.F.slot_str_isascii PySem.F.type_str_isascii mt_isascii (pv 0)) (pe_one (pe_cmpR op_le (pe_callB call_len_str (by rfl) T.len (by decide +kernel) (pa_cons (pv 0) pa_nil)) (pe_glob (v := .int 8) rfl hL ⟨_, rfl⟩) (nomark _)))))))), ?_⟩
    rcases h with ⟨z, rfl, hz, q⟩ | ⟨n, q⟩
    · unfold nameB at q
      have low : ∀ {H1 : Hp}, Evl.Ev (tBM0 K "str" (fun x xs H Q => ∃ a, x = .str a ∧ xs = [] ∧ True ∧ Q (.bl (Txt.islower a)) H) (tVar 0)) [some (.str z)] H1 (.bl (Txt.islower z)) := fun {H1} => ev_bm0 (Evl.ev_var rfl) fun H2 Q q => ⟨z, rfl, rfl, trivial, q⟩
      refine Evl.q_when (b := !Txt.islower z) (Evl.et_is (Evl.et_or (a := false) (b := !Txt.islower z) (Evl.et_is (Evl.et_not (a := true) (Evl.et_B (Evl.ev_cb (Evl.ea_cons (Evl.ev_var rfl) (Evl.ea_cons Evl.ev_c Evl.ea_nil)) (rc_isS (fun H1 e => .base (.str z)) rfl)))) rfl) (fun _ => Evl.et_not (Evl.et_B low))) (by rw [Bool.false_or])) (fun hb H1 e1 => ?_) (fun hb H1 e1 => ?_)
      · have hb : Txt.islower z = false := by simpa using hb
        rw [hb] at q
        exact Evl.s_ret Evl.ev_c fun H2 e2 => q H2 (e1.trans e2)
      · have hb : Txt.islower z = true := by simpa using hb
        rw [hb, Bool.true_and] at q
        refine Evl.s_ret (Evl.ev_andV (ev_bm0 (Evl.ev_var rfl) fun H2 Q q => ⟨z, rfl, rfl, trivial, q⟩) fun _ => Evl.ev_andV (ev_bm0 (Evl.ev_var rfl) fun H2 Q q => ⟨z, rfl, rfl, trivial, q⟩) fun _ => Evl.ev_op (ev_lenS (Evl.ev_var rfl) (by rw [sizeLine_eq]; omega)) Evl.ev_c Evl.rv_I0) fun H2 e2 => q H2 (e1.trans e2)
    · obtain ⟨t, ty, e⟩ := n.ty
      refine Evl.q_when (b := true) (Evl.et_is (Evl.et_or (a := true) (b := true) (Evl.et_is (Evl.et_not (a := false) (Evl.et_B (Evl.ev_cb (Evl.ea_cons (Evl.ev_var rfl) (Evl.ea_cons Evl.ev_c Evl.ea_nil)) (rc_isS ty e)))) rfl) (fun h => nomatch h)) rfl) (fun hb H1 e1 => ?_) (fun h => nomatch h)
      exact Evl.s_ret Evl.ev_c fun H2 e2 => q H2 (e1.trans e2)
end
end LN

set_option Elab.async false
set_option maxRecDepth 100000
set_option maxHeartbeats 2000000
set_option linter.all false
set_option pp.maxSteps 200
namespace LN
open PySem PySem.Spec PyProof.Rows L2 XG XV XL
abbrev sGiven : Stmt := (top 19)
abbrev sLine : Stmt := (top 20)
abbrev sPlace : Stmt := (top 21)
abbrev sSome : Stmt := (top 22)
section
variable {P : Program} {w : World} {K : PySem.W.Frag} {mg : Str → Option Value} {base : Heap}
/-- new lists of ints -/
def IntF (H0 : Hp) : List (List Int) → List V → Hp → Prop
  | [], vs, _ => vs = []
  | ns :: r, vs, H => ∃ p ws, vs = .ref p :: ws ∧ H0 p = none ∧ H p = some (.lst (ns.map V.int)) ∧ IntF H0 r ws H
theorem intF_stays {H0 : Hp} : ∀ r, Stays (IntF H0 r)
  | [] => fun vs H H' _ h => h
  | ns :: r => fun vs H H' e ⟨p, ws, h1, h2, h3, h4⟩ => ⟨p, ws, h1, h2, e _ _ h3, intF_stays r _ _ _ e h4⟩
theorem intF_len {H0 H : Hp} : ∀ {r : List (List Int)} {vs : List V}, IntF H0 r vs H → vs.length = r.length
  | [], _, h => by rw [show _ = [] from h] <;> rfl
  | ns :: r, _, ⟨p, ws, h1, _, _, h4⟩ => by rw [h1, List.length_cons, List.length_cons, intF_len h4]
theorem intF_get {H0 H : Hp} : ∀ {r : List (List Int)} {vs : List V} {v : V}, IntF H0 r vs H → v ∈ vs → ∃ p, ∃ ns ∈ r, v = .ref p ∧ H0 p = none ∧ H p = some (.lst (ns.map V.int))
  | [], _, v, h, hv => by
    rw [show _ = [] from h] at hv
    cases hv
  | ns :: r, _, v, ⟨p, ws, h1, h2, h3, h4⟩, hv => by
    rw [h1] at hv
    rcases List.mem_cons.mp hv with z | z
    · exact ⟨p, ns, List.mem_cons_self, z, h2, h3⟩
    · obtain ⟨p', ns', m, e, q1, q2⟩ := intF_get h4 z
      exact ⟨p', ns', List.mem_cons_of_mem _ m, e, q1, q2⟩
section
variable {σ : L2.St} {H : Hp} {ta tb te : TE} {tr ts : TA}
theorem evpa_intsF {ns : List Int} {r : List (List Int)} (h : Evl.EvA tr σ H (ns.map V.int)) (hz : ns.length ≤ 100000) (hr : EvPA ts σ H (IntF H r)) : EvPA (tCons (tLst tr) ts) σ H (IntF H (ns :: r)) := fun H1 e Q q =>
  (Evl.el_lst h (by rw [List.length_map]; exact hz)) H1 e _ fun p H2 hp e2 h2 => hr H2 (e.trans e2) _ fun ws H3 e3 z => q _ H3 (e2.trans e3) ⟨p, ws, rfl, Evl.fresh_back e hp, e3 _ _ h2, z⟩
theorem evp_if {t : TT} {b : Bool} {R : V → Hp → Prop} (h : Evl.EvT t σ H b) (h1 : b = true → EvP ta σ H R) (h2 : b = false → EvP tb σ H R) : EvP (tIf t ta tb) σ H R := fun H1 e Q q => h H1 e _ fun H2 e2 => by
  cases b with
  | true =>
    rw [if_pos rfl]
    exact h1 rfl H2 (e.trans e2) Q fun v H3 e3 z => q v H3 (e2.trans e3) z
  | false =>
    rw [if_neg Bool.false_ne_true]
    exact h2 rfl H2 (e.trans e2) Q fun v H3 e3 z => q v H3 (e2.trans e3) z
end
def Small (z : Int) : Prop := z.natAbs < 2 ^ 140
instance {z : Int} : Decidable (Small z) := inferInstanceAs (Decidable (z.natAbs < 2 ^ 140))
def pools : List (List Int) := [[0, 1, 2, 3, 5, 8], [4, 6, 8], [-2, -1, 0, 10, 9], [10 ^ 39, 10 ^ 39 - 2, 1 - 10 ^ 39, 3], [7]]
theorem pools_ok : ∀ ns ∈ pools, 0 < ns.length ∧ ns.length ≤ 10 ∧ ∀ z ∈ ns, Small z := by decide
def spGiven : Sp := fun vs H Q _ => ∃ a : Addr, vs = [.ref a] ∧ Dice H a ∧ ∀ (l : Addr) (ns : List Int) (H' : Hp), H l = none → H' l = some (.lst (ns.map V.int)) → ns.length ≤ 6 → (∀ z ∈ ns, Small z) → Go a H H' → Q (.ref l) H'
theorem scGiven : FnScope ["dice", "pools", "pool", "turn"] ["dice"] (defScope sGiven) := ⟨rfl, rfl, rfl, by decide +kernel, rfl, by decide +kernel, by decide +kernel⟩
theorem ea_neg {σ : L2.St} {H : Hp} {i : Int} : Evl.Ev (tUn (rU fun i => .int (-i)) (tC (.int i))) σ H (.int (-i)) := Evl.ev_un Evl.ev_c Evl.ru_neg
theorem okGiven {f f1 f2 : Addr} {fd fd1 fd2 : FuncData} (F : Fun K "_law_given" "_law_given" sGiven f fd) (T : Bt mg) (D_law_pull : Dn K mg "_law_pull" sPull f1 fd1 ["dice", "total"]) (D_law_pick : Dn K mg "_law_pick" sPick f2 fd2 ["dice", "items"]) : FnOk P w K mg base CX0 3 f fd ["dice"] spGiven := by
  have G_law_pull : FnOk P w K mg base CX0 1 f1 fd1 ["dice", "total"] spPullG := fn_less (okPull D_law_pull.F T) fun _ _ _ _ => pull_go
  have G_law_pick : FnOk P w K mg base CX0 2 f2 fd2 ["dice", "items"] (spPickG K) := fn_less (okPick D_law_pick.F T D_law_pull) fun _ _ _ _ => pick_go
  refine F.ok scGiven (fun vs H Q E h => ?_) (fun cdv A outer s H vs Q E hr h => ?_)
  · obtain ⟨a, rfl, _⟩ := h
    rfl
  · obtain ⟨a, rfl, hd, k⟩ := h
    have hr1 : Room 1 _ := hr.mono (by decide)
    refine ⟨_, (pss_cons (ps_set (i := 1) scGiven.nd rfl (Or.inl rfl) (pe_lst (pa_cons (pe_lst (pa_cons pe_int (pa_cons pe_int (pa_cons pe_int (pa_cons pe_int (pa_cons pe_int (pa_cons pe_int pa_nil))))))) (pa_cons (pe_lst (pa_cons pe_int (pa_cons pe_int (pa_cons pe_int pa_nil)))) (pa_cons (pe_lst (pa_cons (pe_un un_neg pe_int) (pa_cons (pe_un un_neg pe_int) (pa_cons pe_int (pa_cons pe_int (pa_cons pe_int pa_nil)))))) (pa_cons (pe_lst (pa_cons (pe_op op_powB pe_int pe_int) (pa_cons (pe_op op_sub (pe_op op_powB pe_int pe_int) pe_int) (pa_cons (pe_op op_sub pe_int (pe_op op_powB pe_int pe_int)) (pa_cons pe_int pa_nil))))) (pa_cons (pe_lst (pa_cons pe_int pa_nil)) pa_nil)))))))
  (pss_cons (ps_set (i := 2) scGiven.nd rfl (Or.inr rfl) (pe_call G_law_pick hr rfl D_law_pick.m D_law_pick.F.kp D_law_pick.b .nil pass0 (pa_cons (pv 0) (pa_cons (pv 1) pa_nil))))
  (pss_one (ps_ret (pe_lc (own := [("turn", 3)]) (g := gName 3) (tt := tYes) rfl scGiven.nd (pi_range1 (by rfl) T.range (pa_cons (pe_call G_law_pull hr1 rfl D_law_pull.m D_law_pull.F.kp D_law_pull.b .nil pass0 (pa_cons (pv 0) (pa_cons pe_int pa_nil))) pa_nil)) (blkOk_by (own := [("turn", 3)]) (N := ["dice", "pools", "pool", "turn"]) (sc := defScope sGiven) (by decide +kernel)) (fun _ _ _ _ _ => (pg_name (i := 3) scGiven.nd rfl (Or.inl rfl))) (fun _ _ _ _ _ => pts_nil) (fun _ _ _ _ _ => (pe_call G_law_pick hr rfl D_law_pick.m D_law_pick.F.kp D_law_pick.b .nil pass0 (pa_cons (pv 0) (pa_cons (pv 2) pa_nil))))))))), ?_⟩
    have big : ∀ {σ : L2.St} {H : Hp}, Evl.Ev (tOp (rI CPowB fun i j => .int (i ^ j.toNat)) (tC (.int 10)) (tC (.int 39))) σ H (.int (10 ^ 39)) := fun {σ H} => Evl.ev_op Evl.ev_c Evl.ev_c (Evl.rv_I ⟨by decide, by decide⟩)
    refine q_asgP (evp_lst (PA := IntF H pools) (evpa_intsF (ns := [0, 1, 2, 3, 5, 8]) (Evl.ea_cons Evl.ev_c (Evl.ea_cons Evl.ev_c (Evl.ea_cons Evl.ev_c (Evl.ea_cons Evl.ev_c (Evl.ea_cons Evl.ev_c (Evl.ea_cons Evl.ev_c Evl.ea_nil)))))) (by decide)
      (evpa_intsF (ns := [4, 6, 8]) (Evl.ea_cons Evl.ev_c (Evl.ea_cons Evl.ev_c (Evl.ea_cons Evl.ev_c Evl.ea_nil))) (by decide) (evpa_intsF (ns := [-2, -1, 0, 10, 9]) (Evl.ea_cons ea_neg (Evl.ea_cons ea_neg (Evl.ea_cons Evl.ev_c (Evl.ea_cons Evl.ev_c (Evl.ea_cons Evl.ev_c Evl.ea_nil))))) (by decide)
      (evpa_intsF (ns := [10 ^ 39, 10 ^ 39 - 2, 1 - 10 ^ 39, 3]) (Evl.ea_cons big (Evl.ea_cons (Evl.ev_op big Evl.ev_c Evl.rv_I0) (Evl.ea_cons (Evl.ev_op Evl.ev_c big Evl.rv_I0) (Evl.ea_cons Evl.ev_c Evl.ea_nil)))) (by decide) (evpa_intsF (ns := [7]) (Evl.ea_cons Evl.ev_c Evl.ea_nil) (by decide) evpa_nil))))) (intF_stays _) (fun vs H1 z => by rw [intF_len z]; decide)) fun v H1 e1 z => ?_
    obtain ⟨p, vs, rfl, hp, hv⟩ := z
    have d1 : Dice H1 a := by
      obtain ⟨x, y, z, h⟩ := hd
      exact ⟨x, y, z, e1 _ _ h⟩
    have npa : p ≠ a := fun e => by
      obtain ⟨x, y, z, h⟩ := d1
      rw [← e, hp] at h
      have := intF_len hv
      injection h with h
      injection h with h
      rw [h] at this
      exact absurd this (show ¬ (3 = 5) by decide)
    refine q_asgR ⟨_, rfl, _, rfl, a, p, vs, rfl, d1, npa, SqL.of hp, by rw [intF_len hv]; decide, by rw [intF_len hv]; decide, fun v H2 hm x2 => ?_⟩
    obtain ⟨pp, ns, hns, rfl, np, hpp⟩ := intF_get hv hm
    obtain ⟨z0, z1, zs⟩ := pools_ok ns hns
    have nppa : pp ≠ a := hd.ne np
    refine ⟨_, rfl, a, 7, rfl, x2.d, by decide, by decide, fun r H3 r0 r1 x3 => ⟨_, rfl, by omega, by omega, fun Dl hDl => ?_⟩⟩
    have x1 : Go a H H1 := ⟨But.of e1, d1⟩
    have X3 := (x1.trans x2).trans x3
    have nl : H Dl = none := X3.fresh hd hDl
    have nla : Dl ≠ a := hd.ne nl
    refine lc_range (lo := 0) (n := r.toNat) (fun i H' => ∃ ms : List Int, Go a H H' ∧ H' Dl = some (.lst (ms.map V.int)) ∧ H' pp = some (.lst (ns.map V.int)) ∧ ms.length = i ∧ ∀ z ∈ ms, Small z) ?_ ?_ ?_
    · exact ⟨[], X3.new hDl, upd_same, by rw [upd_ne (fun e => by rw [e] at hpp; exact absurd ((x2.trans x3).b _ _ nla hpp) (by rw [hDl]; intro z; cases z))]; exact (x2.trans x3).b _ _ nppa hpp, rfl, fun z hz => (nomatch hz)⟩
    · rintro i H' hi ⟨ms, xg, hl, hq, hm, hs⟩
      refine ⟨rfl, _, rfl, _, rfl, a, pp, ns.map V.int, rfl, xg.d, nppa, SqL.of hq, by rw [List.length_map]; exact z0, by rw [List.length_map]; omega, fun v H4 hv4 x4 => ?_⟩
      obtain ⟨z, hz, rfl⟩ := List.mem_map.mp hv4
      refine ⟨_, x4.b _ _ nla hl, by rw [List.length_map, sizeLine_eq]; omega, ms ++ [z], ⟨fun b o hb e => ?_, ?_⟩, by rw [upd_same, List.map_append]; rfl, ?_, by rw [List.length_append, hm]; rfl, fun y hy => ?_⟩
      · rw [upd_ne (ne_of_none e nl)]
        exact x4.b _ _ hb (xg.b _ _ hb e)
      · obtain ⟨g1, g2, g3, e⟩ := x4.d
        exact ⟨g1, g2, g3, by rw [upd_ne (Ne.symm nla)]; exact e⟩
      · rw [upd_ne (fun e => by
          have h1 := (x2.trans x3).b _ _ nppa hpp
          rw [e, hDl] at h1
          cases h1)]
        exact x4.b _ _ nppa hq
      · rcases List.mem_append.mp hy with h | h
        · exact hs y h
        · rw [List.mem_singleton.mp h]
          exact zs z hz
    · rintro H' ⟨ms, xg, hl, hq, hm, hs⟩
      exact k Dl ms H' nl hl (by omega) hs xg
end
end LN

set_option Elab.async false
set_option maxRecDepth 100000
set_option maxHeartbeats 2000000
set_option linter.all false
set_option pp.maxSteps 200
namespace LN
open PySem PySem.Spec PyProof.Rows L2 XG XV XL
/-- what the law's side asks of the class -/
structure LP (P : Program) (w : World) (K : PySem.W.Frag) (mg : Str → Option Value) (base : Heap) (C fi po go pg gg fc fr fo fl fh fe fs : Addr) (fdg fdr : FuncData) : Prop where
  c : LC K C
  ln : mg "Line" = some (.ref C)
  mkr : Mk K C fi
  Gi : FnR P w K mg base CX0 3 fi (spLin C)
  cr : ClX.CRead K C (.type "type")
  cm : ClX.CMet K C (.type "type") "of" po go
  Gof : FnR P w K mg base CX0 5 go (spLof K C)
  pr : PropOf K C "given" pg gg
  Gg : FnOk P w K mg base CX0 1 gg fdg ["self"] (spLgiven C)
  bg : Binds K fdg ["self"] []
  co : StX.CallO K C fc
  Gc : FnR P w K mg base CX0 3 fc (spLcall K C)
  mr : Meth K C "room" fr
  Gr : FnOk P w K mg base CX0 2 fr fdr ["self", "place"] (spLroom K C)
  br : Binds K fdr ["self", "place"] []
  oo : Own K C "__or__" fo
  Goo : FnR P w K mg base CX0 5 fo (spLor K C)
  ol : Own K C "__len__" fl
  Gl : FnR P w K mg base CX0 1 fl (spLlen K C)
  oh : Own K C "__contains__" fh
  Gh : FnR P w K mg base CX0 2 fh (spLhas K C)
  oe : Own K C "__eq__" fe
  Ge : FnR P w K mg base CX0 1 fe (spLeq K C)
  os : Own K C "__str__" fs
  Gs : FnR P w K mg base CX0 1 fs (spLstr K C)
theorem raw0 {P : Program} {w : World} {K : PySem.W.Frag} {mg : Str → Option Value} {base : Heap} {k : Nat} {f : Addr} {fd : FuncData} {ps : List Str} {sp : Sp} (F : FnOk P w K mg base CX0 k f fd ps sp) (b : Binds K fd ps []) : FnR P w K mg base CX0 k f sp :=
  FnR.imp (F.raw b .nil) fun vs H Q E h => by
    rw [List.append_nil]
    exact h
section
variable {P : Program} {w : World} {K : PySem.W.Frag} {mg : Str → Option Value} {base : Heap} {C fi po go pg gg fc fr fo fl fh fe fs : Addr} {fdg fdr : FuncData}
section
variable {σ : L2.St} {H : Hp} {ta tb te : TE}
theorem shaped_intsL (ws : List Int) : SeqAt.shaped (.list (ws.map PyData.int)) = true := by
  unfold SeqAt.shaped
  rw [Bool.and_eq_true]
  refine ⟨lay_ints ws, decide_eq_true ?_⟩
  show PyData.depthAll (ws.map PyData.int) + 1 ≤ 64
  rw [dep_ints ws]
  decide
theorem rv_neL {g h : Addr} {ws us : List Int} (h1 : SqL K H g (ws.map V.int)) (h2 : SqL K H h (us.map V.int)) : Evl.RV (rNeD K) (.ref g) (.ref h) H (.bl (!decide (ws = us))) := fun H1 e Q q =>
  ⟨_, _, .lst (Evl.ex_l e h1) (dpa_ints ws), .lst (Evl.ex_l e h2) (dpa_ints us), shaped_intsL ws, shaped_intsL us, by
    show Q (.bl (!PyData.eqvAll (ws.map PyData.int) (us.map PyData.int))) H1
    rw [eqv_ints]
    exact q H1 (Evl.Ex.refl _)⟩
theorem el_cat {l : Addr} {xs ys : List V} (ha : Evl.Ev ta σ H (.ref l)) (hl : H l = some (.lst xs)) (hb : Evl.EvL tb σ H ys) (hz : xs.length + ys.length ≤ 100000) : Evl.EvL (tOp rCat ta tb) σ H (xs ++ ys) := fun H1 e Q q =>
  ha H1 e _ fun H2 e2 => hb H2 (e.trans e2) _ fun p H3 hp e3 h3 => ⟨l, p, xs, ys, rfl, rfl, ((e.trans e2).trans e3) _ _ hl, h3, Evl.sz_of hz, fun p' hp' => q p' _ (Evl.fresh_back (e2.trans e3) hp') ((e2.trans e3).trans (Evl.Ex.new hp')) upd_same⟩
theorem evp_tupL {l : Addr} {xs : List V} (ha : Evl.Ev te σ H (.ref l)) (hl : SqL K H l xs) : EvP (tCB (fun xs H Q => ∃ p ys, xs = [.ref p] ∧ ((SqL K H p ys ∧ ∀ l, H l = none → Q (.ref l) (upd H l (.tup ys))) ∨ (SqT K H p ys ∧ Q (.ref p) H))) (tCons te tNil)) σ H (fun v H => ∃ a, v = .ref a ∧ SqT K H a xs) := fun H1 e Q q =>
  ha H1 e _ fun H2 e2 => ⟨l, xs, rfl, .inl ⟨Evl.ex_l (e.trans e2) hl, fun t ht => q _ _ (e2.trans (Evl.Ex.new ht)) ⟨t, rfl, SqT.of upd_same⟩⟩⟩
theorem evp_of {E : XK} {ns : List Int} (ho : Evl.Ev ta σ H (.ref C)) (h : EvP te σ H (fun v H => ∃ a, v = .ref a ∧ SqT K H a (ns.map V.int))) (hz : ns.length ≤ 50) : EvP (ClX.tCMeth C (spLof K C) E ta (tCons te tNil)) σ H (IsLine K C ns) := fun H1 e Q q =>
  ho H1 e _ fun H2 e2 => ⟨rfl, h H2 (e.trans e2) _ fun v H3 e3 ⟨a, ev, ha⟩ => by
    subst ev
    exact ⟨a, ns, rfl, ha, hz, fun v H4 e4 p => q v H4 ((e2.trans e3).trans e4) p⟩⟩
theorem ev_lenL {l : Addr} {ns : List Int} (ha : Evl.Ev ta σ H (.ref l)) (h : SqL K H l (ns.map V.int)) : Evl.Ev (tCB (Evl.rLenS K) (tCons ta tNil)) σ H (.int (ns.length : Int)) := by
  have z := Evl.ev_len ha h
  rw [List.length_map] at z
  exact z
theorem dec_nat {m n : Nat} : decide (V.int (m : Int) = V.int (n : Int)) = decide (m = n) := by
  rw [dec_int, Bool.eq_iff_iff, beq_iff_eq, decide_eq_true_eq]
  omega
end
def spLine (K : PySem.W.Frag) (C : Addr) : Sp := fun vs H Q _ => ∃ (l : Addr) (ns : List Int), vs = [.ref l] ∧ H l = some (.lst (ns.map V.int)) ∧ ns.length ≤ 40 ∧ RetP (IsLine K C ns) H Q
theorem scLine : FnScope ["given"] ["given"] (defScope sLine) := ⟨rfl, rfl, rfl, by decide +kernel, rfl, by decide +kernel, by decide +kernel⟩
theorem okLine {f : Addr} {fd : FuncData} (F : Fun K "_law_line" "_law_line" sLine f fd) (T : Bt mg) (L : LP P w K mg base C fi po go pg gg fc fr fo fl fh fe fs fdg fdr) : FnOk P w K mg base CX0 6 f fd ["given"] (spLine K C) := by
  refine F.ok scLine (fun vs H Q E h => ?_) (fun cdv A outer s H vs Q E hr h => ?_)
  · obtain ⟨l, ns, rfl, _⟩ := h
    rfl
  · obtain ⟨l, ns, rfl, hl, hz, q⟩ := h
    have hr4 : Room 4 _ := hr.mono (by decide)
    refine ⟨_, (pss_cons (ps_if (pt_cmpR op_eq (pe_callB call_len_seq (by rfl) T.len (by decide +kernel) (pa_cons (pv 0) pa_nil)) pe_int (nomark _)) (pss_one (ps_ret (StX.pe_makeR L.mkr L.Gi hr4 rfl L.ln pass0 (pa_cons (pe_ix ix_list (pv 0) pe_int (fun _ _ => rfl)) pa_nil)))) pss_nil)
  (pss_cons (ps_if (pt_cmpR op_eq (pe_callB call_len_seq (by rfl) T.len (by decide +kernel) (pa_cons (pv 0) pa_nil)) pe_int (nomark _)) (pss_one (ps_ret (StX.pe_makeR L.mkr L.Gi hr4 rfl L.ln pass0 (pa_cons (pe_ix ix_list (pv 0) pe_int (fun _ _ => rfl)) (pa_cons (pe_ix ix_list (pv 0) pe_int (fun _ _ => rfl)) pa_nil))))) pss_nil)
  (pss_one (ps_ret (pe_ifExp (pt_cmpR (op_neD hr.units) (pv 0) (pe_lst pa_nil) (nomark _)) (ClX.pe_cmeth (pe_cls (by rfl) L.ln) L.cr L.cm L.Gof hr pass0 (pa_cons (pe_callTy call_tuple_of (by rfl) T.tuple (by decide +kernel) (pa_cons (pv 0) pa_nil)) pa_nil)) (pe_mk0 L.mkr L.Gi hr4 rfl L.ln pass0)))))), ?_⟩
    refine Evl.q_when (b := decide (ns.length = 1)) (Evl.et_test (Evl.ev_is (Evl.ev_op (ev_lenL (Evl.ev_var rfl) (SqL.of hl)) Evl.ev_c (Evl.rv_eq rfl)) (congrArg V.bl dec_nat))) (fun hb H1 e1 => ?_) (fun hb H1 e1 => ?_)
    · obtain ⟨z, rfl⟩ := List.length_eq_one_iff.mp (of_decide_eq_true hb)
      exact s_retP (evp_mkR (ns := [z]) (Evl.ea_cons (Evl.ev_op (Evl.ev_var rfl) Evl.ev_c (Evl.rv_ixL (SqL.of (e1 _ _ hl)) rfl)) Evl.ea_nil) (show 1 ≤ 50 by decide)) fun v H2 e2 p => q v H2 (e1.trans e2) p
    · refine Evl.q_when (b := decide (ns.length = 2)) (Evl.et_test (Evl.ev_is (Evl.ev_op (ev_lenL (Evl.ev_var rfl) (SqL.of (e1 _ _ hl))) Evl.ev_c (Evl.rv_eq rfl)) (congrArg V.bl dec_nat))) (fun hc H2 e2 => ?_) (fun hc H2 e2 => ?_)
      · obtain ⟨y, z, rfl⟩ : ∃ y z, ns = [y, z] := by
          match ns, of_decide_eq_true hc with
          | [y, z], _ => exact ⟨y, z, rfl⟩
        have e12 := e1.trans e2
        exact s_retP (evp_mkR (ns := [y, z]) (Evl.ea_cons (Evl.ev_op (Evl.ev_var rfl) Evl.ev_c (Evl.rv_ixL (SqL.of (e12 _ _ hl)) rfl)) (Evl.ea_cons (Evl.ev_op (Evl.ev_var rfl) Evl.ev_c (Evl.rv_ixL (SqL.of (e12 _ _ hl)) rfl)) Evl.ea_nil)) (show 2 ≤ 50 by decide)) fun v H2 e2 p => q v H2 (e12.trans e2) p
      · have e12 := e1.trans e2
        refine s_retP (evp_if (b := !decide (ns = [])) (Evl.et_test (Evl.ev_opL (Evl.ev_var rfl) (Evl.el_lst Evl.ea_nil (by decide)) fun p H1 h1 e => rv_neL (us := []) (SqL.of ((e12.trans e) _ _ hl)) (SqL.of h1))) (fun hd => evp_of Evl.ev_c (evp_tupL (Evl.ev_var rfl) (SqL.of (e12 _ _ hl))) (by omega)) (fun hd => ?_)) fun v H3 e3 p => q v H3 (e12.trans e3) p
        have : ns = [] := by simpa using hd
        subst this
        exact evp_mk0
/-! places, counted -/
theorem given_len {ws : List Int} {f : Nat → Bool} {v : Nat → V} {p : Int → Bool} (h : ∀ i (hi : i < ws.length), f i = p ws[i]) : (Evl.given ws.length f v).length = (ws.filter p).length := by
  have e : ws = (List.range ws.length).map fun i => ws.getD i 0 := by
    refine List.ext_getElem (by simp) fun i h1 h2 => ?_
    simp [h1]
  have a : (ws.filter p).length = (((List.range ws.length).map fun i => ws.getD i 0).filter p).length := by rw [← e]
  rw [a, List.filter_map, List.length_map]
  unfold Evl.given
  rw [List.length_map]
  congr 1
  refine List.filter_congr fun i hi => ?_
  have hi := List.mem_range.mp hi
  rw [h i hi]
  simp [hi]
section
variable {σ : L2.St} {H : Hp} {te : TE}
theorem el_sorted {l : Addr} {ns ws : List Int} (ha : Evl.Ev te σ H (.ref l)) (hl : SqL K H l (ns.map V.int)) (hz : ns.length ≤ 50) (A : Asc ns ws) : Evl.EvL (tCB (rSortedSet w) (tCons (tCB (XT.rSetI K w) (tCons te tNil)) tNil)) σ H (ws.map V.int) := fun H1 e Q q =>
  ha H1 e _ fun H2 e2 => ⟨l, ns, rfl, Evl.ex_l (e.trans e2) hl, by omega, fun p n hp hn => ⟨p, _, n, rfl, upd_same, by omega, fun us p' up mem len hp' => by
    have : us = ws := asc_ext up A.up fun k => by rw [mem k, decide_eq_true_eq, A.mem k]
    subst this
    exact q p' _ (Evl.fresh_back (e2.trans (Evl.Ex.new hp)) hp') ((e2.trans (Evl.Ex.new hp)).trans (Evl.Ex.new hp')) upd_same⟩⟩
theorem rc_intb {b : Bool} : Evl.RC (fun xs H Q => (∃ i, xs = [.int i] ∧ Q (.int i) H) ∨ ∃ k, xs = [.bl k] ∧ Q (.int (if k then 1 else 0)) H) [.bl b] H (.int (if b then 1 else 0)) := fun H1 e Q q => .inr ⟨b, rfl, q H1 (Evl.Ex.refl _)⟩
end
def spPlace (K : PySem.W.Frag) : Sp := fun vs H Q _ => ∃ (l : Addr) (k : Int) (ns ws : List Int), vs = [.ref l, .int k] ∧ H l = some (.lst (ns.map V.int)) ∧ ns.length ≤ 40 ∧ Asc ns ws ∧ Evl.RetV (.int (plc ws k)) H Q
theorem scPlace : FnScope ["given", "number", "some", "one"] ["given", "number"] (defScope sPlace) := ⟨rfl, rfl, rfl, by decide +kernel, rfl, by decide +kernel, by decide +kernel⟩
theorem okPlace {f : Addr} {fd : FuncData} (F : Fun K "_law_place" "_law_place" sPlace f fd) (T : Bt mg) : FnOk P w K mg base CX0 1 f fd ["given", "number"] (spPlace K) := by
  refine F.ok scPlace (fun vs H Q E h => ?_) (fun cdv A outer s H vs Q E hr h => ?_)
  · obtain ⟨l, k, ns, ws, rfl, _⟩ := h
    rfl
  · obtain ⟨l, k, ns, ws, rfl, hl, hz, hA, q⟩ := h
    refine ⟨_, (pss_cons (ps_set (i := 2) scPlace.nd rfl (Or.inl rfl) (pe_callB (cr_sortedSet rfl) (by rfl) T.sorted (by decide +kernel) (pa_cons (pe_callTy (XT.cr_setI rfl) (by rfl) T.set (by decide +kernel) (pa_cons (pv 0) pa_nil)) pa_nil)))
  (pss_one (ps_ret (pe_op op_add (pe_op op_mul pe_int (pe_callB call_len_seq (by rfl) T.len (by decide +kernel) (pa_cons (pe_lc (own := [("one", 3)]) (g := gName 3) rfl scPlace.nd (pi_list (pv 2)) (blkOk_by (own := [("one", 3)]) (N := ["given", "number", "some", "one"]) (sc := defScope sPlace) (by decide +kernel)) (fun _ _ _ _ _ => (pg_name (i := 3) scPlace.nd rfl (Or.inl rfl))) (fun _ _ _ _ _ => (pts_one (pt_cmpR op_lt (pv 3) (pv 1) (nomark _)))) (fun _ _ _ _ _ => (pv 3))) pa_nil))) (pe_callTy call_int1 (by rfl) T.int (by decide +kernel) (pa_cons (pe_cmpR op_in_seq (pv 1) (pv 2) (by rfl)) pa_nil)))))), ?_⟩
    refine Evl.q_asgL (el_sorted (Evl.ev_var rfl) (SqL.of hl) (by omega) hA) fun p H1 hp e1 h1 => ?_
    have z := Evl.ev_lenN (K := K) (Evl.el_lcL (K := K) (σ := [some (.ref l), some (.int k), some (.ref p), none]) (H := H1) (tl := tVar 2) (t := tTest (tOp (rI0 fun i j => .bl (decide (i < j))) (tVar 3) (tVar 1))) (te := tVar 3) (j := 3) (vs := [3]) (a := p) (xs := ws.map V.int) (fun i => decide (ws.getD i 0 < k)) (fun i => .int (ws.getD i 0)) (Evl.ev_var rfl) (SqL.of h1) (by rw [List.length_map]; have := nodup_len hA.up (fun k hk => (hA.mem k).mp hk); omega) (fun _ => rfl)
      (fun i x H2 e2 hx => ?_) (fun i x H2 e2 hx _ => ?_))
    · rw [List.length_map, given_len (p := fun z => decide (z < k)) (fun i hi => by simp [hi])] at z
      refine Evl.s_ret (Evl.ev_is (Evl.ev_op (Evl.ev_op Evl.ev_c z (Evl.rv_I (.inl ⟨by decide, by decide⟩))) (Evl.ev_cb (Evl.ea_cons (Evl.ev_op (Evl.ev_var rfl) (Evl.ev_var rfl) (Evl.rv_isL (SqL.of h1) rfl (flat_ints ws))) Evl.ea_nil) rc_intb) Evl.rv_I0) ?_) fun H2 e2 => q H2 (e1.trans e2)
      rw [inV_ints]
      unfold plc cntL
      by_cases hk : k ∈ ws
      · simp [hk]
      · simp [hk]
    · rw [List.getElem?_map] at hx
      obtain ⟨y, hy, rfl⟩ := Option.map_eq_some_iff.mp hx
      have : ws.getD i 0 = y := by rw [List.getD_eq_getElem?_getD, hy]; rfl
      rw [this]
      exact Evl.et_test (Evl.ev_op (Evl.ev_var rfl) (Evl.ev_var rfl) Evl.rv_I0)
    · rw [List.getElem?_map] at hx
      obtain ⟨y, hy, rfl⟩ := Option.map_eq_some_iff.mp hx
      have : ws.getD i 0 = y := by rw [List.getD_eq_getElem?_getD, hy]; rfl
      rw [this]
      exact Evl.ev_var rfl
/-! integers about the given ones -/
def someL (ns : List Int) : List Int := [0, 10 ^ 39 - 1, 2 - 10 ^ 39] ++ ns.flatMap fun z => [z - 1, z, z + 1]
def spSome (K : PySem.W.Frag) : Sp := fun vs H Q _ => ∃ (l : Addr) (ns : List Int), vs = [.ref l] ∧ H l = some (.lst (ns.map V.int)) ∧ ns.length ≤ 40 ∧ Evl.RetL ((someL ns).map V.int) H Q
theorem scSome : FnScope ["given", "found", "one"] ["given"] (defScope sSome) := ⟨rfl, rfl, rfl, by decide +kernel, rfl, by decide +kernel, by decide +kernel⟩
theorem someL_len (ns : List Int) : (someL ns).length = 3 + 3 * ns.length := by
  unfold someL
  rw [List.length_append, List.length_flatMap]
  induction ns with
  | nil => rfl
  | cons z ns ih =>
    simp only [List.map_cons, List.sum_cons, List.length_cons] at ih ⊢
    simp at ih ⊢
    omega
theorem okSome {f : Addr} {fd : FuncData} (F : Fun K "_law_some" "_law_some" sSome f fd) (T : Bt mg) : FnOk P w K mg base CX0 1 f fd ["given"] (spSome K) := by
  refine F.ok scSome (fun vs H Q E h => ?_) (fun cdv A outer s H vs Q E hr h => ?_)
  · obtain ⟨l, ns, rfl, _⟩ := h
    rfl
  · obtain ⟨l, ns, rfl, hl, hz, q⟩ := h
    refine ⟨_, (pss_cons (ps_set (i := 1) scSome.nd rfl (Or.inl rfl) (pe_lst (pa_cons pe_int (pa_cons (pe_op op_sub (pe_op op_powB pe_int pe_int) pe_int) (pa_cons (pe_op op_sub pe_int (pe_op op_powB pe_int pe_int)) pa_nil)))))
  (pss_cons (ps_for PassesOwn.never rfl (pi_list (pv 0)) (pg_name (i := 2) scSome.nd rfl (Or.inl rfl)) (pss_one (ps_set (i := 1) scSome.nd rfl (Or.inl rfl) (pe_op op_cat (pv 1) (pe_lst (pa_cons (pe_op op_sub (pv 2) pe_int) (pa_cons (pv 2) (pa_cons (pe_op op_add (pv 2) pe_int) pa_nil))))))))
  (pss_one (ps_ret (pv 1))))), ?_⟩
    have big : ∀ {σ : L2.St} {H : Hp}, Evl.Ev (tOp (rI CPowB fun i j => .int (i ^ j.toNat)) (tC (.int 10)) (tC (.int 39))) σ H (.int (10 ^ 39)) := fun {σ H} => Evl.ev_op Evl.ev_c Evl.ev_c (Evl.rv_I ⟨by decide, by decide⟩)
    refine Evl.q_asgL (xs := [.int 0, .int (10 ^ 39 - 1), .int (2 - 10 ^ 39)]) (Evl.el_lst (Evl.ea_cons Evl.ev_c (Evl.ea_cons (Evl.ev_op big Evl.ev_c Evl.rv_I0) (Evl.ea_cons (Evl.ev_op Evl.ev_c big Evl.rv_I0) Evl.ea_nil))) (by decide)) fun p0 H1 n0 e1 h1 => ?_
    refine Evl.q_forLn (xs := ns.map V.int) (Evl.ev_var rfl) (SqL.of (e1 _ _ hl)) (fun i σ' H' => ∃ (p : Addr) (u : Option V), σ' = [some (.ref l), some (.ref p), u] ∧ H p = none ∧ Evl.Ex H H' ∧ H' p = some (.lst ((someL (ns.take i)).map V.int))) (fun H2 e2 => ⟨p0, none, rfl, n0, e1.trans e2, by rw [e2 _ _ h1]; rfl⟩) ?_ ?_ ?_
    · rintro i σ' H' _ ⟨p, u, rfl, np, ex, hp⟩
      exact SqL.of (ex _ _ hl)
    · rintro i x σ' H' hx ⟨p, u, rfl, np, ex, hp⟩
      rw [List.getElem?_map] at hx
      obtain ⟨y, hy, rfl⟩ := Option.map_eq_some_iff.mp hx
      have hi : i < ns.length := (List.getElem?_eq_some_iff.mp hy).1
      refine Evl.s_asgL (el_cat (Evl.ev_var rfl) hp (Evl.el_lst (vs := [.int (y - 1), .int y, .int (y + 1)]) (Evl.ea_cons (Evl.ev_op (Evl.ev_var rfl) Evl.ev_c Evl.rv_I0) (Evl.ea_cons (Evl.ev_var rfl) (Evl.ea_cons (Evl.ev_op (Evl.ev_var rfl) Evl.ev_c Evl.rv_I0) Evl.ea_nil))) (show 3 ≤ 100000 by decide)) ?_) fun p2 H2 n2 e2 h2 => ⟨p2, some (.int y), rfl, Evl.fresh_back ex n2, ex.trans e2, ?_⟩
      · rw [List.length_map, someL_len, List.length_take]
        show _ + 3 ≤ 100000
        omega
      · rw [h2, List.take_add_one, hy]
        unfold someL
        simp
    · rintro σ' H' ⟨p, u, rfl, np, ex, hp⟩
      rw [List.length_map, List.take_length] at hp
      exact Evl.s_ret (Evl.ev_var rfl) fun H2 e2 => q p H2 np (ex.trans e2) (e2 _ _ hp)
end
end LN

set_option Elab.async false
set_option maxRecDepth 100000
set_option maxHeartbeats 2000000
set_option linter.all false
set_option pp.maxSteps 200
namespace LN
open PySem PySem.Spec PyProof.Rows L2 XG XV XL
/-! ### repr of lists that stand by themselves -/
mutual
inductive RepT (K : PySem.W.Frag) (H : Hp) : V → PyData → Prop
  | non : RepT K H .non .none
  | bl (b : Bool) : RepT K H (.bl b) (.bool b)
  | int (i : Int) : RepT K H (.int i) (.int i)
  | str (x : Str) : RepT K H (.str x) (.str x)
  | lst {a : Addr} {xs : List V} {ds : List PyData} : H a = some (.lst xs) → RepTAll K H xs ds → RepT K H (.ref a) (.list ds)
  | tup {a : Addr} {xs : List V} {ds : List PyData} : SqT K H a xs → RepTAll K H xs ds → RepT K H (.ref a) (.tuple ds)
inductive RepTAll (K : PySem.W.Frag) (H : Hp) : List V → List PyData → Prop
  | nil : RepTAll K H [] []
  | cons {v : V} {vs : List V} {d : PyData} {ds : List PyData} : RepT K H v d → RepTAll K H vs ds → RepTAll K H (v :: vs) (d :: ds)
end
section
variable {X : Cx} {pins : List (Addr × Obj)} {σ : L2.St} {H H' : Hp} {s : Shared} {K : PySem.W.Frag}
mutual
theorem RepT.reads (I : Inv X pins σ H s) : ∀ {d : PyData} {v : V} {u : Value}, RepT X.K H v d → RelV v u → d.hasDict = false ∧ ∃ as, Reads s.heap u d as
  | _, _, _, .non, r => by
    cases r
    exact ⟨rfl, _, Reads.none⟩
  | _, _, _, .bl b, r => by
    cases r
    exact ⟨rfl, _, Reads.bool b⟩
  | _, _, _, .int i, r => by
    obtain ⟨t, rfl⟩ := r
    exact ⟨rfl, _, Reads.int i t⟩
  | _, _, _, .str x, r => by
    obtain ⟨t, rfl⟩ := r
    exact ⟨rfl, _, Reads.str x t⟩
  | _, _, _, .lst hs ha, r => by
    cases r
    obtain ⟨its, rv, ⟨o, n, ho, hc, _, hd⟩, _⟩ := I.list (SqL.of hs)
    obtain ⟨z, as, hr⟩ := RepTAll.reads I ha rv
    exact ⟨z, _, Reads.list ho hc hd hr⟩
  | _, _, _, .tup hs ha, r => by
    cases r
    obtain ⟨its, rv, ⟨o, ho, hc, n, hd⟩, _⟩ := I.tuple hs
    obtain ⟨z, as, hr⟩ := RepTAll.reads I ha rv
    exact ⟨z, _, Reads.tuple ho hc hd hr⟩
theorem RepTAll.reads (I : Inv X pins σ H s) : ∀ {ds : List PyData} {vs : List V} {us : List Value}, RepTAll X.K H vs ds → Vals vs us → PyData.hasDictAll ds = false ∧ ∃ as, ReadsAll s.heap us ds as
  | _, _, _, .nil, r => by
    cases r
    exact ⟨rfl, _, ReadsAll.nil⟩
  | _, _, _, .cons h1 h2, r => by
    cases r with
    | cons r1 r2 =>
      obtain ⟨z1, as, q1⟩ := RepT.reads I h1 r1
      obtain ⟨z2, bs, q2⟩ := RepTAll.reads I h2 r2
      exact ⟨by
        show (_ || _) = false
        rw [z1, z2]
        rfl, _, ReadsAll.cons q1 q2⟩
end
mutual
theorem RepT.mono (e : Evl.Ex H H') : ∀ {d : PyData} {v : V}, RepT K H v d → RepT K H' v d
  | _, _, .non => .non
  | _, _, .bl b => .bl b
  | _, _, .int i => .int i
  | _, _, .str x => .str x
  | _, _, .lst h r => .lst (e _ _ h) (RepTAll.mono e r)
  | _, _, .tup h r => .tup (Evl.ex_t e h) (RepTAll.mono e r)
theorem RepTAll.mono (e : Evl.Ex H H') : ∀ {ds : List PyData} {vs : List V}, RepTAll K H vs ds → RepTAll K H' vs ds
  | _, _, .nil => .nil
  | _, _, .cons a b => .cons (RepT.mono e a) (RepTAll.mono e b)
end
end
def rReprT (K : PySem.W.Frag) : List V → Hp → VK → Prop := fun xs H Q => ∃ x d, xs = [x] ∧ RepT K H x d ∧ d.showable = true ∧ d.depth ≤ 100 ∧ d.shown.length ≤ sizeLine ∧ Q (.str d.shown) H
theorem call_reprT {X : Cx} {k : Nat} (hG : X.A.guards = some []) (hr : Room k X.A) : CallR X (.builtin "repr") (rReprT X.K) := by
  intro pins s σ H xs us Q I r h
  obtain ⟨x, d, rfl, hd, hs, hdp, hz, q⟩ := h
  cases r with
  | @cons _ u _ ur rx rr =>
    cases rr
    have hun : X.A.units + (d.depth + 1) < cLine := by
      have := hr.un
      omega
    cases hd with
    | non =>
      cases rx
      exact PySem.P.repr_of_none ⟨.str _, H, I.tok _, ⟨_, rfl⟩, q⟩
    | bl b =>
      cases rx
      exact PySem.P.repr_of_bool ⟨.str _, H, I.tok _, ⟨_, rfl⟩, q⟩
    | int i =>
      obtain ⟨t, rfl⟩ := rx
      exact PySem.P.repr_of_int (by simpa [PyData.showable] using hs) ⟨.str _, H, I.tok _, ⟨_, rfl⟩, q⟩
    | str y =>
      obtain ⟨t, rfl⟩ := rx
      exact PySem.P.repr_of_str ⟨.str _, H, I.tok _, ⟨_, rfl⟩, q⟩ hz
    | lst h1 h2 =>
      cases rx
      obtain ⟨z, as, hrd⟩ := RepT.reads I (RepT.lst h1 h2) rfl
      exact repr_of_reads' hrd hs (PyData.noDict_hsm z) hG hun (fun _ _ e => e) (fun h' t tk k => ⟨.str _, H, I.kept k, ⟨_, rfl⟩, q⟩) hz
    | tup h1 h2 =>
      cases rx
      obtain ⟨z, as, hrd⟩ := RepT.reads I (RepT.tup h1 h2) rfl
      exact repr_of_reads' hrd hs (PyData.noDict_hsm z) hG hun (fun _ _ e => e) (fun h' t tk k => ⟨.str _, H, I.kept k, ⟨_, rfl⟩, q⟩) hz
section
variable {P : Program} {w : World} {K : PySem.W.Frag} {mg : Str → Option Value} {base : Heap}
section
variable {σ : L2.St} {H : Hp} {ta tb tc te : TE}
theorem ev_reprT {d : PyData} (h : EvP te σ H (fun x H => RepT K H x d)) (h1 : d.showable = true) (h2 : d.depth ≤ 100) (h3 : d.shown.length ≤ sizeLine) : Evl.Ev (tCB (rReprT K) (tCons te tNil)) σ H (.str d.shown) := fun H1 e Q q =>
  h H1 e _ fun x H2 e2 r => ⟨x, d, rfl, r, h1, h2, h3, q H2 e2⟩
theorem shown_bl (b : Bool) : (PyData.bool b).shown.length ≤ sizeLine := by cases b <;> decide
theorem ev_reprB {b : Bool} (h : Evl.Ev te σ H (.bl b)) : Evl.Ev (tCB (rReprT K) (tCons te tNil)) σ H (.str (PyData.bool b).shown) :=
  ev_reprT (fun H1 e Q q => h H1 e Q fun H2 e2 => q _ H2 e2 (.bl b)) (by cases b <;> rfl) (by cases b <;> decide) (shown_bl b)
theorem ev_reprI {i : Int} (hz : i.natAbs < 2 ^ 200) (h : Evl.Ev te σ H (.int i)) : Evl.Ev (tCB (rReprT K) (tCons te tNil)) σ H (.str (PyData.int i).shown) := by
  have l2 : i.natAbs.log2 < 200 := by
    rcases Nat.eq_zero_or_pos i.natAbs with z | z
    · rw [z]
      decide
    · exact (Nat.log2_lt (by omega)).mpr hz
  refine ev_reprT (fun H1 e Q q => h H1 e Q fun H2 e2 => q _ H2 e2 (.int i)) ?_ (Nat.zero_le _) ?_
  · show decide _ = true
    exact decide_eq_true (by omega)
  · have := XS.int_len i
    show ((toString i : String) : Str).length ≤ sizeLine
    rw [sizeLine_eq]
    omega
theorem ev_chainB {r r' : R2} {x y z : V} {a b : Bool} (ha : Evl.Ev ta σ H x) (hb : Evl.Ev tb σ H y) (hr : Evl.RV r x y H (.bl a)) (hc : Evl.Ev tc σ H z) (hr' : Evl.RV r' y z H (.bl b)) : Evl.Ev (tChain r r' ta tb tc) σ H (.bl (a && b)) := fun H1 e Q q =>
  ha H1 e _ fun H2 e2 => hb H2 (e.trans e2) _ fun H3 e3 => hr H3 ((e.trans e2).trans e3) _ fun H4 e4 => ⟨a, rfl, by
    cases a with
    | true =>
      rw [if_pos rfl]
      exact hc H4 (((e.trans e2).trans e3).trans e4) _ fun H5 e5 => hr' H5 ((((e.trans e2).trans e3).trans e4).trans e5) Q fun H6 e6 => q H6 ((((e2.trans e3).trans e4).trans e5).trans e6)
    | false =>
      rw [if_neg Bool.false_ne_true]
      exact q H4 ((e2.trans e3).trans e4)⟩
/-- a comprehension over the signs of a text -/
theorem el_lcS {z : Str} {t : TT} {j : Nat} {vs : List Nat} (f : Nat → Bool) (v : Nat → V) (h : Evl.Ev te σ H (.str z)) (hz : z.cps.size ≤ 40000) (hw : ∀ x, wipe ((wipe σ vs).set j (some x)) vs = wipe σ vs)
    (ht : ∀ (i : Nat) (c : Nat) H1, Evl.Ex H H1 → z.cps[i]? = some c → Evl.EvT t ((wipe σ vs).set j (some (.str ⟨#[c]⟩))) H1 (f i)) (he : ∀ (i : Nat) (c : Nat) H1, Evl.Ex H H1 → z.cps[i]? = some c → f i = true → Evl.Ev ta ((wipe σ vs).set j (some (.str ⟨#[c]⟩))) H1 (v i)) :
    Evl.EvL (tLc (iStr te) (gName j) t ta vs) σ H (Evl.given z.cps.size f v) := fun H0 e Q q => h H0 e _ fun H1 e1 => ⟨z, rfl, fun Dl hD =>
  lc_it walk_str (Evl.Cw H1 f v Dl) ⟨hD, Evl.Ex.new hD, upd_same⟩ (fun _ _ _ _ => trivial) (fun i x H2 H' hi p y => by
    obtain ⟨rfl, c, hc, rfl⟩ := y
    exact ⟨hw _, Evl.cw_turn p (by omega) (ht i c H1 (e.trans e1) hc) (fun hf => he i c H1 (e.trans e1) hc hf)⟩) (fun H' p => q Dl H' (Evl.fresh_back e1 p.1) (e1.trans p.2.1) p.2.2)⟩
end
/-! lists of texts, whether empty -/
theorem dpa_strs {H : Hp} : ∀ ws : List Str, DpAll K H (ws.map V.str) (ws.map PyData.str)
  | [] => .nil
  | k :: ws => .cons (.str k) (dpa_strs ws)
theorem lay_strs : ∀ ws : List Str, (∀ z ∈ ws, PyData.canLay0 (.str z) = true) → PyData.canLayAll0 (ws.map PyData.str) = true
  | [], _ => rfl
  | k :: ws, h => by
    show (PyData.canLay0 (.str k) && PyData.canLayAll0 (ws.map PyData.str)) = true
    rw [lay_strs ws fun z hz => h z (List.mem_cons_of_mem _ hz), h k List.mem_cons_self]
    rfl
theorem dep_strs : ∀ ws : List Str, PyData.depthAll (ws.map PyData.str) = 0
  | [] => rfl
  | k :: ws => by
    show max 0 (PyData.depthAll (ws.map PyData.str)) = 0
    rw [dep_strs ws]
    rfl
theorem shaped_strs (ws : List Str) (h : ∀ z ∈ ws, PyData.canLay0 (.str z) = true) : SeqAt.shaped (.list (ws.map PyData.str)) = true := by
  unfold SeqAt.shaped
  rw [Bool.and_eq_true]
  refine ⟨lay_strs ws h, decide_eq_true ?_⟩
  show PyData.depthAll (ws.map PyData.str) + 1 ≤ 64
  rw [dep_strs ws]
  decide
theorem rv_eqNil {H : Hp} {g h : Addr} {ws : List Str} (hw : ∀ z ∈ ws, PyData.canLay0 (.str z) = true) (h1 : SqL K H g (ws.map V.str)) (h2 : SqL K H h []) : Evl.RV (rEqD K) (.ref g) (.ref h) H (.bl ws.isEmpty) := fun H1 e Q q =>
  ⟨_, .list [], .lst (Evl.ex_l e h1) (dpa_strs ws), .lst (Evl.ex_l e h2) .nil, shaped_strs ws hw, rfl, by
    show Q (.bl (PyData.eqvAll (ws.map PyData.str) [])) H1
    have : PyData.eqvAll (ws.map PyData.str) [] = ws.isEmpty := by cases ws <;> rfl
    rw [this]
    exact q H1 (Evl.Ex.refl _)⟩
/-! ### words -/
theorem Go.ex {a : Addr} {H H1 H2 : Hp} (x : Go a H H1) (e : Evl.Ex H1 H2) : Go a H H2 := by
  refine ⟨x.b.trans (But.of e), ?_⟩
  obtain ⟨g, m, c, h⟩ := x.d
  exact ⟨g, m, c, e _ _ h⟩
theorem op_mulS {X : Cx} : OpR X (binaryOp .Mult) (fun x y H Q => ∃ z n, x = .str z ∧ y = .int n ∧ MulOk z n ∧ Q (.str (Txt.mul z n)) H) := by
  intro pins s σ H x y v u Q I rx ry h
  obtain ⟨z, n, rfl, rfl, hok, q⟩ := h
  obtain ⟨t, rfl⟩ := rx
  obtain ⟨t', rfl⟩ := ry
  exact PySem.SB.mul hok fun t2 k => ⟨.str _, H, I.tok _, ⟨_, rfl⟩, q⟩
abbrev sWord : Stmt := (top 23)
def spPickS : Sp := fun vs H Q _ => ∃ (a : Addr) (z : Str), vs = [.ref a, .str z] ∧ Dice H a ∧ 0 < z.length ∧ z.length ≤ 1000 ∧ ∀ (c : Nat) (H' : Hp), c ∈ z.cps.toList → Go a H H' → Q (.str ⟨#[c]⟩) H'
theorem okPickS {f f1 : Addr} {fd fd1 : FuncData} (F : Fun K "_law_pick" "_law_pick" sPick f fd) (T : Bt mg) (D_law_pull : Dn K mg "_law_pull" sPull f1 fd1 ["dice", "total"]) : FnOk P w K mg base CX0 2 f fd ["dice", "items"] spPickS := by
  have G_law_pull : FnOk P w K mg base CX0 1 f1 fd1 ["dice", "total"] spPullG := fn_less (okPull D_law_pull.F T) fun _ _ _ _ => pull_go
  refine F.ok scPick (fun vs H Q E h => ?_) (fun cdv A outer s H vs Q E hr h => ?_)
  · obtain ⟨a, z, rfl, _⟩ := h
    rfl
  · obtain ⟨a, z, rfl, hd, h0, hz, k⟩ := h
    refine ⟨_, (pss_one (ps_ret (pe_ix ix_str (pv 1) (pe_call G_law_pull hr rfl D_law_pull.m D_law_pull.F.kp D_law_pull.b .nil pass0 (pa_cons (pv 0) (pa_cons (pe_callB call_len_str (by rfl) T.len (by decide +kernel) (pa_cons (pv 1) pa_nil)) pa_nil))) (fun _ _ => rfl)))), ?_⟩
    refine ⟨_, rfl, _, rfl, _, rfl, z, rfl, by rw [sizeLine_eq]; omega, a, _, rfl, hd, by omega, by omega, fun r H' r0 r1 x => ?_⟩
    have hlen : z.length = z.cps.toList.length := rfl
    have hj : r.toNat < z.cps.toList.length := by omega
    refine ⟨z, r, z.cps.toList[r.toNat], rfl, rfl, by rw [sizeLine_eq]; omega, ?_, k _ _ (List.getElem_mem hj) x⟩
    unfold atI ixN
    rw [if_pos r0, if_pos (by omega)]
    simp [hj]
def signs : Str := Txt.mul (Str.ofString "abcxyz") 5 ++ Str.ofString "A1 _-."
def okC (c : Nat) : Bool := c ∈ [97, 98, 99, 120, 121, 122, 65, 49, 32, 95, 45, 46]
theorem signs_ok : ∀ c ∈ signs.cps.toList, okC c = true := by decide +kernel
theorem signs_len : signs.length = 36 := by decide +kernel
theorem glued_foldl : ∀ (cs : List Nat) (acc : Array Nat), (cs.map fun c => (⟨#[c]⟩ : Str)).foldl (fun acc p => acc ++ (Str.ofString "").cps ++ p.cps) acc = acc ++ cs.toArray
  | [], acc => by simp
  | c :: cs, acc => by
    rw [List.map_cons, List.foldl_cons, glued_foldl cs]
    have : (Str.ofString "").cps = #[] := by decide
    rw [this]
    simp
theorem join_signs (cs : List Nat) : Txt.join (Str.ofString "") (cs.map fun c => (⟨#[c]⟩ : Str)) = ⟨cs.toArray⟩ := by
  cases cs with
  | nil => rfl
  | cons c cs =>
    show (⟨((List.map (fun c => (⟨#[c]⟩ : Str)) (c :: cs)).drop 1).foldl (fun acc p => acc ++ (Str.ofString "").cps ++ p.cps) #[c]⟩ : Str) = _
    rw [List.map_cons, List.drop_succ_cons, List.drop_zero, glued_foldl]
    simp
def spWord : Sp := fun vs H Q _ => ∃ a : Addr, vs = [.ref a] ∧ Dice H a ∧ ∀ (cs : List Nat) (H' : Hp), cs.length ≤ 9 → (∀ c ∈ cs, okC c = true) → Go a H H' → Q (.str ⟨cs.toArray⟩) H'
theorem scWord : FnScope ["dice", "signs", "turn"] ["dice"] (defScope sWord) := ⟨rfl, rfl, rfl, by decide +kernel, rfl, by decide +kernel, by decide +kernel⟩
theorem okWord {f f1 f2 : Addr} {fd fd1 fd2 : FuncData} (F : Fun K "_law_word" "_law_word" sWord f fd) (T : Bt mg) (D_law_pull : Dn K mg "_law_pull" sPull f1 fd1 ["dice", "total"]) (D_law_pick : Dn K mg "_law_pick" sPick f2 fd2 ["dice", "items"]) : FnOk P w K mg base CX0 3 f fd ["dice"] spWord := by
  have G_law_pull : FnOk P w K mg base CX0 1 f1 fd1 ["dice", "total"] spPullG := fn_less (okPull D_law_pull.F T) fun _ _ _ _ => pull_go
  have G_law_pick : FnOk P w K mg base CX0 2 f2 fd2 ["dice", "items"] spPickS := okPickS D_law_pick.F T D_law_pull
  refine F.ok scWord (fun vs H Q E h => ?_) (fun cdv A outer s H vs Q E hr h => ?_)
  · obtain ⟨a, rfl, _⟩ := h
    rfl
  · obtain ⟨a, rfl, hd, k⟩ := h
    have hr1 : Room 1 _ := hr.mono (by decide)
    refine ⟨_, (pss_cons (ps_set (i := 1) scWord.nd rfl (Or.inr rfl) (pe_op op_add_str (pe_op op_mulS pe_str pe_int) pe_str))
  (pss_one (ps_ret (pe_bm PySem.F.plainAttrs_str PySem.F.slot_str_join PySem.F.type_str_join mt_join pe_str (pa_cons (pe_lc (own := [("turn", 2)]) (g := gName 2) (tt := tYes) rfl scWord.nd (pi_range1 (by rfl) T.range (pa_cons (pe_call G_law_pull hr1 rfl D_law_pull.m D_law_pull.F.kp D_law_pull.b .nil pass0 (pa_cons (pv 0) (pa_cons pe_int pa_nil))) pa_nil)) (blkOk_by (own := [("turn", 2)]) (N := ["dice", "signs", "turn"]) (sc := defScope sWord) (by decide +kernel)) (fun _ _ _ _ _ => (pg_name (i := 2) scWord.nd rfl (Or.inl rfl))) (fun _ _ _ _ _ => pts_nil) (fun _ _ _ _ _ => (pe_call G_law_pick hr rfl D_law_pick.m D_law_pick.F.kp D_law_pick.b .nil pass0 (pa_cons (pv 0) (pa_cons (pv 1) pa_nil))))) pa_nil))))), ?_⟩
    refine q_asgR ⟨_, _, rfl, rfl, ⟨by decide, by decide, by decide⟩, _, _, rfl, rfl, by decide +kernel, ?_⟩
    show _
    refine ⟨rfl, _, rfl, a, 10, rfl, hd, by decide, by decide, fun r H1 r0 r1 x1 => ⟨_, rfl, by omega, by omega, fun Dl hDl => ?_⟩⟩
    have nl : H Dl = none := x1.fresh hd hDl
    have nla : Dl ≠ a := hd.ne nl
    refine lc_range (lo := 0) (n := r.toNat) (fun i H' => ∃ cs : List Nat, Go a H H' ∧ H' Dl = some (.lst ((cs.map fun c => (⟨#[c]⟩ : Str)).map V.str)) ∧ cs.length = i ∧ ∀ c ∈ cs, okC c = true) ?_ ?_ ?_
    · exact ⟨[], x1.new hDl, upd_same, rfl, fun c h => (nomatch h)⟩
    · rintro i H' hi ⟨cs, xg, hl, hm, hs⟩
      refine ⟨rfl, _, rfl, _, rfl, a, signs, rfl, xg.d, by rw [signs_len]; decide, by rw [signs_len]; decide, fun c H4 hc x4 => ?_⟩
      refine ⟨_, x4.b _ _ nla hl, by rw [List.length_map, List.length_map, sizeLine_eq]; omega, cs ++ [c], ⟨fun b o hb e => ?_, ?_⟩, by rw [upd_same, List.map_append, List.map_append]; rfl, by rw [List.length_append, hm]; rfl, fun y hy => ?_⟩
      · rw [upd_ne (ne_of_none e nl)]
        exact x4.b _ _ hb (xg.b _ _ hb e)
      · obtain ⟨g1, g2, g3, e⟩ := x4.d
        exact ⟨g1, g2, g3, by rw [upd_ne (Ne.symm nla)]; exact e⟩
      · rcases List.mem_append.mp hy with h | h
        · exact hs y h
        · rw [List.mem_singleton.mp h]
          exact signs_ok c hc
    · rintro H' ⟨cs, xg, hl, hm, hs⟩
      refine ⟨Str.ofString "", Dl, cs.map fun c => (⟨#[c]⟩ : Str), rfl, rfl, .inl (SqL.of hl), ?_, ?_⟩
      · have e1 : ((cs.map fun c => (⟨#[c]⟩ : Str)).map (·.length)).sum = cs.length := by
          clear hl hm hs
          induction cs with
          | nil => rfl
          | cons c cs ih =>
            rw [List.map_cons, List.map_cons, List.sum_cons, ih, List.length_cons]
            show 1 + cs.length = cs.length + 1
            omega
        have e2 : (Str.ofString "").length = 0 := by decide
        rw [e1, e2]
        omega
      · rw [join_signs]
        exact k cs H' (by omega) hs xg
end
end LN

set_option Elab.async false
set_option maxRecDepth 100000
set_option maxHeartbeats 2000000
set_option linter.all false
set_option pp.maxSteps 200
namespace LN
open PySem PySem.Spec PyProof.Rows L2 XG XV XL
abbrev sNamesR : Stmt := (top 24)
section
variable {P : Program} {w : World} {K : PySem.W.Frag} {mg : Str → Option Value} {base : Heap}
def az : Str := Str.ofString "abcdefghijklmnopqrstuvwxyz"
def isaz (c : Nat) : Bool := decide (c ∈ az.cps.toList)
def okL : List Nat := [97, 98, 99, 120, 121, 122, 65, 49, 32, 95, 45, 46]
theorem okC_mem {c : Nat} (h : okC c = true) : c ∈ okL := by
  unfold okC at h
  exact of_decide_eq_true h
theorem chr_a : ∀ c ∈ okL, isaz c = true → Unicode.isLower c = true ∧ Unicode.isUpper c = false ∧ Unicode.isTitle c = false ∧ Unicode.isAlpha c = true ∧ c < 128 := by decide +kernel
theorem chr_b : ∀ c ∈ okL, isaz c = false → Unicode.isUpper c = true ∨ Unicode.isAlpha c = false := by decide +kernel
theorem chr_c : ∀ c ∈ okL, c < 128 := by decide
theorem name_word {cs : List Nat} (ok : ∀ c ∈ cs, okC c = true) : nameB ⟨cs.toArray⟩ = (cs.all isaz && (decide ((1 : Int) ≤ (cs.length : Int)) && decide ((cs.length : Int) ≤ 8))) := by
  have hl : ((⟨cs.toArray⟩ : Str).length : Int) = (cs.length : Int) := by
    show ((cs.toArray.size : Nat) : Int) = _
    rw [List.size_toArray]
  unfold nameB Txt.islower Txt.isalpha Txt.isascii
  rw [hl]
  show (cs.toArray.any Unicode.isLower && !cs.toArray.any (fun c => Unicode.isUpper c || Unicode.isTitle c) && (decide (cs.toArray.size > 0) && cs.toArray.all Unicode.isAlpha && (cs.toArray.all (fun c => decide (c < 128)) && _))) = _
  rw [List.any_toArray, List.any_toArray, List.all_toArray, List.all_toArray, List.size_toArray]
  cases hf : cs.all isaz with
  | true =>
    have hf := List.all_eq_true.mp hf
    have a1 : cs.any (fun c => Unicode.isUpper c || Unicode.isTitle c) = false := List.any_eq_false.mpr fun c hc => by
      obtain ⟨_, h2, h3, _⟩ := chr_a c (okC_mem (ok c hc)) (hf c hc)
      rw [h2, h3]
      decide
    have a2 : cs.all Unicode.isAlpha = true := List.all_eq_true.mpr fun c hc => (chr_a c (okC_mem (ok c hc)) (hf c hc)).2.2.2.1
    have a3 : (cs.all fun c => decide (c < 128)) = true := List.all_eq_true.mpr fun c hc => decide_eq_true (chr_c c (okC_mem (ok c hc)))
    rw [a1, a2, a3]
    cases cs with
    | nil => rfl
    | cons c cs =>
      have a4 : (c :: cs).any Unicode.isLower = true := List.any_eq_true.mpr ⟨c, List.mem_cons_self, (chr_a c (okC_mem (ok c List.mem_cons_self)) (hf c List.mem_cons_self)).1⟩
      rw [a4]
      simp
      omega
  | false =>
    rw [Bool.false_and]
    obtain ⟨c, hc, hn⟩ : ∃ c ∈ cs, isaz c = false := by
      have := List.all_eq_false.mp hf
      obtain ⟨c, hc, hn⟩ := this
      exact ⟨c, hc, by simpa using hn⟩
    rcases chr_b c (okC_mem (ok c hc)) hn with h | h
    · have : cs.any (fun c => Unicode.isUpper c || Unicode.isTitle c) = true := List.any_eq_true.mpr ⟨c, hc, by rw [h]; rfl⟩
      rw [this]
      simp
    · have : cs.all Unicode.isAlpha = false := List.all_eq_false.mpr ⟨c, hc, by rw [h]; decide⟩
      rw [this]
      simp
theorem bad_empty (cs : List Nat) : (((List.range cs.length).filter fun i => !isaz (cs.getD i 0)).map fun i => (⟨#[cs.getD i 0]⟩ : Str)).isEmpty = cs.all isaz := by
  rw [Bool.eq_iff_iff, List.isEmpty_iff, List.map_eq_nil_iff, List.filter_eq_nil_iff, List.all_eq_true]
  constructor
  · intro h c hc
    obtain ⟨i, hi, rfl⟩ := List.mem_iff_getElem.mp hc
    have := h i (List.mem_range.mpr hi)
    simpa [hi] using this
  · intro h i hi
    have hi := List.mem_range.mp hi
    have := h cs[i] (List.getElem_mem hi)
    simp [hi, this]
section
variable {σ : L2.St} {H : Hp} {ta tb tc te : TE} {tr : TA}
theorem sv_name {z : Str} (hz : z.length ≤ 1000) : Evl.SpV (spName K) ([.str z] ++ []) H (.bl (nameB z)) := fun H1 e Q q E => ⟨_, rfl, .inl ⟨z, rfl, hz, fun H2 e2 => q H2 e2⟩⟩
theorem Nst.ex {x : V} {H H' : Hp} (e : Evl.Ex H H') (n : Nst K H x) : Nst K H' x := by
  cases n with
  | non => exact .non
  | int i => exact .int i
  | bl b => exact .bl b
  | tup h => exact .tup (Evl.ex_t e h)
  | lst h => exact .lst (e _ _ h)
  | dK h => exact .dK (e _ _ h)
theorem sv_none {x : V} (n : Nst K H x) : Evl.SpV (spName K) ([x] ++ []) H (.bl false) := fun H1 e Q q E => ⟨_, rfl, .inr ⟨n.ex e, fun H2 e2 => q H2 e2⟩⟩
/-- no name -/
def NN (K : PySem.W.Frag) : V → Hp → Prop := fun x H => Nst K H x ∨ ∃ z, x = .str z ∧ z.length ≤ 1000 ∧ nameB z = false
theorem stays_nn : Stays (NN K) := fun x H H' e h => h.imp (fun n => n.ex e) id
theorem sv_nn {x : V} (n : NN K x H) : Evl.SpV (spName K) ([x] ++ []) H (.bl false) := by
  rcases n with n | ⟨z, rfl, hz, e⟩
  · exact sv_none n
  · have := sv_name (K := K) (H := H) hz
    rw [e] at this
    exact this
def AllNN (K : PySem.W.Frag) (n : Nat) : List V → Hp → Prop := fun vs H => vs.length = n ∧ ∀ x ∈ vs, NN K x H
theorem stays_all {n : Nat} : Stays (AllNN K n) := fun vs H H' e ⟨h1, h2⟩ => ⟨h1, fun x hx => stays_nn _ _ _ e (h2 x hx)⟩
theorem evpa_nn {n : Nat} (h : EvP te σ H (NN K)) (hr : EvPA tr σ H (AllNN K n)) : EvPA (tCons te tr) σ H (AllNN K (n + 1)) := (evpa_cons h stays_nn hr).imp fun vs H1 _ ⟨v, ws, e, hv, hn, hw⟩ => by
  subst e
  refine ⟨by rw [List.length_cons, hn], fun x hx => ?_⟩
  rcases List.mem_cons.mp hx with z | z
  · rw [z]
    exact hv
  · exact hw x z
theorem evpa_nn0 : EvPA tNil σ H (AllNN K 0) := evpa_nil.imp fun vs H1 _ e => by
  subst e
  exact ⟨rfl, fun x hx => nomatch hx⟩
theorem nn_str {z : Str} (h1 : z.length ≤ 1000) (h2 : nameB z = false) : EvP (tC (.str z)) σ H (NN K) := fun H1 e Q q => q _ H1 (Evl.Ex.refl _) (.inr ⟨z, rfl, h1, h2⟩)
theorem nn_c {x : V} (h : ∀ H, Nst K H x) : EvP (tC x) σ H (NN K) := fun H1 e Q q => q _ H1 (Evl.Ex.refl _) (.inl (h H1))
theorem given_none {n : Nat} {v : Nat → V} : Evl.given n (fun _ => false) v = [] := by
  unfold Evl.given
  simp
theorem rv_isB {a b : Bool} : Evl.RV rIsB (.bl a) (.bl b) H (.bl (decide (a = b))) := fun H1 e Q q => ⟨a, b, rfl, rfl, q H1 (Evl.Ex.refl _)⟩
theorem rv_notB {a b : Bool} : Evl.RV rNotB (.bl a) (.bl b) H (.bl (!decide (a = b))) := fun H1 e Q q => ⟨a, b, rfl, rfl, q H1 (Evl.Ex.refl _)⟩
end
def spNamesR : Sp := fun vs H Q _ => ∃ a : Addr, vs = [.ref a] ∧ Dice H a ∧ ∀ H' : Hp, Go a H H' → Q (.bl true) H'
theorem scNamesR : FnScope ["dice", "turn", "word", "fine", "sign", "some", "one"] ["dice"] (defScope sNamesR) := ⟨rfl, rfl, rfl, by decide +kernel, rfl, by decide +kernel, by decide +kernel⟩
theorem okNamesR {f f1 f2 f3 f4 : Addr} {fd fd1 fd2 fd3 fd4 : FuncData} {tk : Tok} (F : Fun K "_law_names_right" "_law_names_right" sNamesR f fd) (T : Bt mg) (hL : mg "LONGEST_NAME" = some (.int 8 tk)) (D_law_pull : Dn K mg "_law_pull" sPull f1 fd1 ["dice", "total"]) (D_law_pick : Dn K mg "_law_pick" sPick f2 fd2 ["dice", "items"])
    (D_law_word : Dn K mg "_law_word" sWord f3 fd3 ["dice"]) (Dis_name : Dn K mg "is_name" sName f4 fd4 ["value"]) : FnG P w K mg base CX0 4 f fd ["dice"] spNamesR := by
  have G_law_word : FnOk P w K mg base CX0 3 f3 fd3 ["dice"] spWord := okWord D_law_word.F T D_law_pull D_law_pick
  have Gis_name : FnOk P w K mg base CX0 1 f4 fd4 ["value"] (spName K) := okName Dis_name.F T hL
  refine okG F scNamesR (fun vs H Q E h => ?_) (fun cdv A outer s H vs Q E hg hr h => ?_)
  · obtain ⟨a, rfl, _⟩ := h
    rfl
  · obtain ⟨a, rfl, hd, k⟩ := h
    have hr1 : Room 1 _ := hr.mono (by decide)
    have hG := (deeper_guards A (envOfC "_law_names_right" (defScope sNamesR) s.heap.objs.size f cdv)).trans hg
    refine ⟨_, (pss_cons (ps_for PassesOwn.never rfl (pi_range1 (by rfl) T.range (pa_cons pe_int pa_nil)) (pg_name (i := 1) scNamesR.nd rfl (Or.inl rfl)) (pss_cons (ps_set (i := 2) scNamesR.nd rfl (Or.inl rfl) (pe_call G_law_word hr rfl D_law_word.m D_law_word.F.kp D_law_word.b .nil pass0 (pa_cons (pv 0) pa_nil)))
  (pss_cons (ps_set (i := 3) scNamesR.nd rfl (Or.inl rfl) (pe_cmpR (op_eqD hr.units) (pe_lc (own := [("sign", 4)]) (g := gName 4) rfl scNamesR.nd (pi_str (pv 2)) (blkOk_by (own := [("sign", 4)]) (N := ["dice", "turn", "word", "fine", "sign", "some", "one"]) (sc := defScope sNamesR) (by decide +kernel)) (fun _ _ _ _ _ => (pg_name (i := 4) scNamesR.nd rfl (Or.inl rfl))) (fun _ _ _ _ _ => (pts_one (pt_cmpR op_notIn_sign (pv 4) pe_str (by rfl)))) (fun _ _ _ _ _ => (pv 4))) (pe_lst pa_nil) (nomark _)))
  (pss_one (ps_if (pt_cmpR op_ne (pe_callB (call_reprT hG hr) (by rfl) T.repr (by decide +kernel) (pa_cons (pe_call Gis_name hr1 rfl Dis_name.m Dis_name.F.kp Dis_name.b .nil pass0 (pa_cons (pv 2) pa_nil)) pa_nil)) (pe_callB (call_reprT hG hr) (by rfl) T.repr (by decide +kernel) (pa_cons (pe_and (pv 3) (pe_one (pe_chain op_le op_le pe_int (pe_callB call_len_str (by rfl) T.len (by decide +kernel) (pa_cons (pv 2) pa_nil)) pe_int))) pa_nil)) (nomark _)) (pss_one (ps_ret pe_bl)) pss_nil)))))
  (pss_cons (ps_set (i := 5) scNamesR.nd rfl (Or.inl rfl) (pe_lst (pa_cons pe_non (pa_cons pe_int (pa_cons pe_bl (pa_cons (pe_tup (pa_cons pe_str pa_nil)) (pa_cons (pe_lst (pa_cons pe_str pa_nil)) (pa_cons pe_dnewK (pa_cons (pe_tup pa_nil) (pa_cons pe_str (pa_cons pe_str (pa_cons pe_str pa_nil))))))))))))
  (pss_one (ps_ret (pe_and (pe_cmpR (op_eqD hr.units) (pe_lc (own := [("one", 6)]) (g := gName 6) rfl scNamesR.nd (pi_list (pv 5)) (blkOk_by (own := [("one", 6)]) (N := ["dice", "turn", "word", "fine", "sign", "some", "one"]) (sc := defScope sNamesR) (by decide +kernel)) (fun _ _ _ _ _ => (pg_name (i := 6) scNamesR.nd rfl (Or.inl rfl))) (fun _ _ _ _ _ => (pts_one (pt_cmpR op_notBl (pe_call Gis_name hr1 rfl Dis_name.m Dis_name.F.kp Dis_name.b .nil pass0 (pa_cons (pv 6) pa_nil)) pe_bl (nomark _)))) (fun _ _ _ _ _ => (pv 6))) (pe_lst pa_nil) (nomark _)) (pe_one (pe_cmpR op_isBl (pe_call Gis_name hr1 rfl Dis_name.m Dis_name.F.kp Dis_name.b .nil pass0 (pa_cons pe_str pa_nil)) pe_bl (nomark _)))))))), ?_⟩
    refine Evl.q_forR1 (n := 4) (Evl.ea_cons Evl.ev_c Evl.ea_nil) (by decide) (fun i σ' H' => Go a H H' ∧ ∃ u1 u2 u3, σ' = [some (.ref a), u1, u2, u3, none, none, none]) (fun H1 e1 => ⟨(Go.refl hd).ex e1, none, none, none, rfl⟩) ?_ ?_
    · rintro i σ' H' hi ⟨xg, u1, u2, u3, rfl⟩
      refine q_asgR ⟨_, rfl, a, rfl, xg.d, fun cs H2 h9 ok x2 => ?_⟩
      have lay : ∀ z ∈ ((List.range cs.length).filter fun i => !isaz (cs.getD i 0)).map fun i => (⟨#[cs.getD i 0]⟩ : Str), PyData.canLay0 (.str z) = true := fun z hz => by
        obtain ⟨i, hi, rfl⟩ := List.mem_map.mp hz
        have hi := List.mem_range.mp (List.mem_filter.mp hi).1
        have := chr_c _ (okC_mem (ok _ (List.getElem_mem hi)))
        have e : cs.getD i 0 = cs[i] := by simp [hi]
        show ((#[cs.getD i 0] : Array Nat).all fun c => decide (c < 0x110000)) = true
        rw [e]
        simp
        omega
      refine Evl.q_asg (v := .bl (cs.all isaz)) (Evl.ev_opLL (xs := (((List.range cs.length).filter fun i => !isaz (cs.getD i 0)).map fun i => (⟨#[cs.getD i 0]⟩ : Str)).map V.str) (ys := []) ?_ (Evl.el_lst Evl.ea_nil (by decide)) fun p q H1 h1 h2 e => ?_) fun H3 e3 => ?_
      · have z := el_lcS (te := tVar 2) (ta := tVar 4) (σ := [some (.ref a), some (.int (i : Int)), some (.str ⟨cs.toArray⟩), u3, none, none, none]) (H := H2) (z := ⟨cs.toArray⟩) (t := tTest (tOp (fun x y H Q => ∃ (c : Nat) (z : Str), x = .str ⟨#[c]⟩ ∧ y = .str z ∧ Q (.bl (!decide (c ∈ z.cps.toList))) H) (tVar 4) (tC (.str az)))) (j := 4) (vs := [4])
          (fun i => !isaz (cs.getD i 0)) (fun i => .str ⟨#[cs.getD i 0]⟩) (Evl.ev_var rfl) (by show cs.toArray.size ≤ 40000; rw [List.size_toArray]; omega) (fun _ => rfl) (fun i c H1 e hc => ?_) (fun i c H1 e hc _ => ?_)
        · have e1 : (⟨cs.toArray⟩ : Str).cps.size = cs.length := by show cs.toArray.size = _; rw [List.size_toArray]
          rw [e1] at z
          unfold Evl.given at z
          rw [List.map_map]
          exact z
        · have hc : cs[i]? = some c := by simpa using hc
          have e2 : cs.getD i 0 = c := by rw [List.getD_eq_getElem?_getD, hc]; rfl
          rw [e2]
          exact Evl.et_test (Evl.ev_op (Evl.ev_var rfl) Evl.ev_c fun H4 e4 Q q => ⟨c, az, rfl, rfl, q H4 (Evl.Ex.refl _)⟩)
        · have hc : cs[i]? = some c := by simpa using hc
          have e2 : cs.getD i 0 = c := by rw [List.getD_eq_getElem?_getD, hc]; rfl
          rw [e2]
          exact Evl.ev_var rfl
      · have := rv_eqNil (K := K) lay (SqL.of h1) (SqL.of h2)
        rw [bad_empty] at this
        exact this
      have wl : (⟨cs.toArray⟩ : Str).length = cs.length := by show cs.toArray.size = _; rw [List.size_toArray]
      refine Evl.s_when (b := false) (Evl.et_test (Evl.ev_is (Evl.ev_op (ev_reprB (Evl.ev_call (Evl.ea_cons (Evl.ev_var rfl) Evl.ea_nil) (sv_name (by rw [wl]; omega)))) (ev_reprB (Evl.ev_andV (Evl.ev_var rfl) fun _ => ev_chainB Evl.ev_c (ev_lenS (Evl.ev_var rfl) (by rw [wl, sizeLine_eq]; omega)) Evl.rv_I0 Evl.ev_c Evl.rv_I0)) (Evl.rv_ne rfl)) ?_)) (fun h => nomatch h) (fun _ H4 e4 => ⟨(((xg.trans x2).ex e3).ex e4), _, _, _, rfl⟩)
      rw [wl, name_word ok]
      simp
    · rintro σ' H' ⟨xg, u1, u2, u3, rfl⟩
      refine q_asgP (evp_lst (PA := AllNN K 10) (evpa_nn (nn_c fun _ => .non) (evpa_nn (nn_c fun _ => .int _) (evpa_nn (nn_c fun _ => .bl _)
        (evpa_nn ((evp_tup (evpa_cons (P := fun _ _ => True) (fun H1 e Q q => q _ H1 (Evl.Ex.refl _) trivial) (fun _ _ _ _ h => h) evpa_nil) (fun vs H1 H2 e ⟨v, ws, z, _, y⟩ => ⟨v, ws, z, trivial, y⟩) (fun vs H1 ⟨v, ws, z, _, y⟩ => by rw [z, y]; show 1 ≤ 100000; decide)).imp fun v H1 _ ⟨p, vs, e, h, _⟩ => .inl (e ▸ .tup (SqT.of h)))
        (evpa_nn ((evp_lst (evpa_cons (P := fun _ _ => True) (fun H1 e Q q => q _ H1 (Evl.Ex.refl _) trivial) (fun _ _ _ _ h => h) evpa_nil) (fun vs H1 H2 e ⟨v, ws, z, _, y⟩ => ⟨v, ws, z, trivial, y⟩) (fun vs H1 ⟨v, ws, z, _, y⟩ => by rw [z, y]; show 1 ≤ 100000; decide)).imp fun v H1 _ ⟨p, vs, e, h, _⟩ => .inl (e ▸ .lst h))
        (evpa_nn (fun H1 e Q q => fun d hd => q _ _ (Evl.Ex.new hd) (.inl (.dK upd_same)))
        (evpa_nn ((evp_tup evpa_nil (fun vs H1 H2 e z => z) (fun vs H1 z => by rw [z]; decide)).imp fun v H1 _ ⟨p, vs, e, h, _⟩ => .inl (e ▸ .tup (SqT.of h)))
        (evpa_nn (nn_str (by decide) (by decide +kernel)) (evpa_nn (nn_str (by decide) (by decide +kernel)) (evpa_nn (nn_str (by decide) (by decide +kernel)) evpa_nn0)))))))))) stays_all (fun vs H1 ⟨z, _⟩ => by rw [z]; decide)) fun v H1 e1 ⟨p, vs, ev, hp, hn, hall⟩ => ?_
      subst ev
      have z := Evl.el_lcL (K := K) (σ := [some (.ref a), u1, u2, u3, none, some (.ref p), none]) (H := H1) (tl := tVar 5) (te := tVar 6) (t := tTest (tOp rNotB (tCall (spName K) [] E0 (tCons (tVar 6) tNil)) (tC (.bl false)))) (j := 6) (vs := [6]) (a := p) (xs := vs) (fun _ => false) (fun _ => .non) (Evl.ev_var rfl) (SqL.of hp) (by omega) (fun _ => rfl)
        (fun i x H2 e2 hx => Evl.et_test (Evl.ev_is (Evl.ev_op (Evl.ev_call (Evl.ea_cons (Evl.ev_var rfl) Evl.ea_nil) (sv_nn (stays_nn _ _ _ e2 (hall x (List.mem_of_getElem? hx))))) Evl.ev_c rv_notB) rfl)) (fun i x H2 e2 hx h => nomatch h)
      rw [given_none] at z
      exact Evl.s_ret (v := .bl true) (Evl.ev_andV (a := true) (b := true) (Evl.ev_opLL (xs := []) (ys := []) z (Evl.el_lst Evl.ea_nil (by decide)) fun p q H1 h1 h2 e => rv_eqNil (K := K) (ws := []) (fun z hz => nomatch hz) (SqL.of h1) (SqL.of h2)) fun _ => Evl.ev_is (Evl.ev_op (Evl.ev_call (Evl.ea_cons Evl.ev_c Evl.ea_nil) (sv_name (z := Str.ofString "abcdefgh") (by decide))) Evl.ev_c rv_isB) (by
        have : nameB (Str.ofString "abcdefgh") = true := by decide +kernel
        rw [this]
        rfl)) fun H2 e2 => k _ ((xg.ex e1).ex e2)
end
end LN

set_option Elab.async false
set_option maxRecDepth 100000
set_option maxHeartbeats 2000000
set_option linter.all false
set_option pp.maxSteps 200
namespace LN
open PySem PySem.Spec PyProof.Rows L2 XG XV XL
abbrev sPlacesR : Stmt := (top 25)
section
variable {P : Program} {w : World} {K : PySem.W.Frag} {mg : Str → Option Value} {base : Heap} {C fi po go pg gg fc fr fo fl fh fe fs : Addr} {fdg fdr : FuncData}
section
variable {X : Cx} {σ : L2.St} {H : Hp} {ta tb tc te tf : TE} {tr : TA} {E : XK}
theorem LineAt.ins {a : Addr} {ws : List Int} (h : LineAt K C H a ws) : ∃ dx fs, H a = some (.ins C dx fs) := by
  obtain ⟨dx, g, h, _⟩ := h
  exact ⟨dx, _, h⟩
theorem insC_of {a : Addr} {ws : List Int} (h : LineAt K C H a ws) : StX.InsC X H a C := .inr h.ins
theorem ev_callO {a : Addr} {ws : List Int} {k : Int} (hf : Evl.Ev tf σ H (.ref a)) (ht : Evl.Ev te σ H (.int k)) (hl : LineAt K C H a ws) (up : ws.Pairwise (· < ·)) : Evl.Ev (StX.tCallO X C (spLcall K C) E tf (tCons te tNil)) σ H (.int (plc ws k)) := fun H1 e Q q =>
  hf H1 e _ fun H2 e2 => ⟨a, rfl, ht H2 (e.trans e2) _ fun H3 e3 => ⟨insC_of (hl.ex ((e.trans e2).trans e3)), a, ws, k, rfl, hl.ex ((e.trans e2).trans e3), up, fun H4 e4 => q H4 ((e2.trans e3).trans e4)⟩⟩
theorem ev_room {a : Addr} {ws : List Int} {p : Nat} (hf : Evl.Ev tf σ H (.ref a)) (ht : Evl.Ev te σ H (.int (p : Int))) (hl : LineAt K C H a ws) (hp : p ≤ 2 * ws.length) : Evl.Ev (tMeth C "room" (spLroom K C) [] E tf (tCons te tNil)) σ H (roomV ws p) := fun H1 e Q q =>
  hf H1 e _ fun H2 e2 => by
    obtain ⟨dx, g, h1, h2⟩ := hl
    exact ⟨a, dx, _, rfl, (e.trans e2) _ _ h1, rfl, ht H2 (e.trans e2) _ fun H3 e3 => ⟨a, ws, p, rfl, ⟨dx, g, ((e.trans e2).trans e3) _ _ h1, Evl.ex_t ((e.trans e2).trans e3) h2⟩, hp, fun H4 e4 => q H4 ((e2.trans e3).trans e4)⟩⟩
theorem rv_inO {a : Addr} {ws : List Int} {x : V} {b : Bool} (hl : LineAt K C H a ws) (kd : Kd K H x b) : Evl.RV (rInO X C (spLhas K C) E) x (.ref a) H (.bl (hasV ws x)) := fun H1 e Q q =>
  ⟨a, rfl, insC_of (hl.ex e), a, ws, x, b, rfl, hl.ex e, kd.ex e, fun H2 e2 => ⟨_, rfl, q H2 e2⟩⟩
theorem el_map {ta : TA} {te : TE} {j : Nat} {vs : List Nat} {n : Nat} (v : Nat → V) (h : Evl.EvA ta σ H [.int (n : Int)]) (hn : n ≤ 40000) (hw : ∀ x, wipe ((wipe σ vs).set j (some x)) vs = wipe σ vs)
    (he : ∀ (i : Nat) H1, Evl.Ex H H1 → i < n → Evl.Ev te ((wipe σ vs).set j (some (.int (i : Int)))) H1 (v i)) : Evl.EvL (tLc (iRng1 ta) (gName j) tYes te vs) σ H ((List.range n).map v) := by
  have z := Evl.el_lcR1 (σ := σ) (H := H) (ta := ta) (t := tYes) (te := te) (j := j) (vs := vs) (n := (n : Int)) (fun _ => true) v h (by omega) hw (fun i H1 e hi => et_yes) (fun i H1 e hi _ => he i H1 e (by omega))
  unfold Evl.given at z
  rw [Int.toNat_natCast] at z
  have : (List.range n).filter (fun _ => true) = List.range n := List.filter_eq_self.mpr fun _ _ => rfl
  rw [this] at z
  exact z
end
theorem plc_small {ws : List Int} {k : Int} (h : ws.length ≤ 40) : (plc ws k).natAbs < 2 ^ 200 := by
  have : cntL ws k ≤ ws.length := List.length_filter_le _ _
  unfold plc
  split <;> omega
theorem in_two (p m : Int) : inV (.int p) [.int 0, .int m] = decide (p = 0 ∨ p = m) := by
  have := inV_ints p [0, m]
  rw [show ([.int 0, .int m] : List V) = [0, m].map V.int from rfl, this]
  simp
theorem in_evens (p n : Nat) : inV (.int (p : Int)) ((List.range n).map fun i : Nat => V.int (2 * (i : Int))) = decide (p % 2 = 0 ∧ p / 2 < n) := by
  have e : ((List.range n).map fun i : Nat => V.int (2 * (i : Int))) = ((List.range n).map fun i : Nat => 2 * (i : Int)).map V.int := by
    rw [List.map_map]
    rfl
  rw [e, inV_ints, Bool.eq_iff_iff, decide_eq_true_eq, decide_eq_true_eq, List.mem_map]
  constructor
  · rintro ⟨i, hi, z⟩
    have := List.mem_range.mp hi
    omega
  · rintro ⟨h1, h2⟩
    exact ⟨p / 2, List.mem_range.mpr h2, by omega⟩
theorem scal_room (ws : List Int) (p : Nat) : scal (roomV ws p) (roomV ws p) = true := by
  unfold roomV
  split
  · rfl
  · split <;> rfl
def spPlacesR (K : PySem.W.Frag) (C : Addr) : Sp := fun vs H Q _ => ∃ (l : Addr) (v : V) (ns : List Int), vs = [.ref l, v] ∧ H l = some (.lst (ns.map V.int)) ∧ ns.length ≤ 10 ∧ IsLine K C ns v H ∧ Evl.RetV (.bl true) H Q
theorem scPlacesR : FnScope ["given", "line", "some", "number", "place", "due", "at"] ["given", "line"] (defScope sPlacesR) := ⟨rfl, rfl, rfl, by decide +kernel, rfl, by decide +kernel, by decide +kernel⟩
theorem okPlacesR {f f1 f2 : Addr} {fd fd1 fd2 : FuncData} (F : Fun K "_law_places_right" "_law_places_right" sPlacesR f fd) (T : Bt mg) (L : LP P w K mg base C fi po go pg gg fc fr fo fl fh fe fs fdg fdr)
    (D_law_some : Dn K mg "_law_some" sSome f1 fd1 ["given"]) (D_law_place : Dn K mg "_law_place" sPlace f2 fd2 ["given", "number"]) : FnG P w K mg base CX0 4 f fd ["given", "line"] (spPlacesR K C) := by
  have G_law_some : FnOk P w K mg base CX0 1 f1 fd1 ["given"] (spSome K) := okSome D_law_some.F T
  have G_law_place : FnOk P w K mg base CX0 1 f2 fd2 ["given", "number"] (spPlace K) := okPlace D_law_place.F T
  refine okG F scPlacesR (fun vs H Q E h => ?_) (fun cdv A outer s H vs Q E hg hr h => ?_)
  · obtain ⟨l, v, ns, rfl, _⟩ := h
    rfl
  · obtain ⟨l, v, ns, rfl, hl, hz, ⟨a, ws, rfl, hA, asc⟩, q⟩ := h
    have hr1 : Room 1 _ := hr.mono (by decide)
    have hr2 : Room 2 _ := hr.mono (by decide)
    have hG := (deeper_guards A (envOfC "_law_places_right" (defScope sPlacesR) s.heap.objs.size f cdv)).trans hg
    have hwl : ws.length ≤ 10 := Nat.le_trans (nodup_len asc.up fun k hk => (asc.mem k).mp hk) hz
    refine ⟨_, (pss_cons (ps_set (i := 2) scPlacesR.nd rfl (Or.inl rfl) (pe_callB (cr_sortedSet rfl) (by rfl) T.sorted (by decide +kernel) (pa_cons (pe_callTy (XT.cr_setI rfl) (by rfl) T.set (by decide +kernel) (pa_cons (pv 0) pa_nil)) pa_nil)))
  (pss_cons (ps_for PassesOwn.never rfl (pi_list (pe_call G_law_some hr1 rfl D_law_some.m D_law_some.F.kp D_law_some.b .nil pass0 (pa_cons (pv 0) pa_nil))) (pg_name (i := 3) scPlacesR.nd rfl (Or.inl rfl)) (pss_one (ps_if (PW.pt (pw_or (pt_cmpR op_ne (pe_callB (call_reprT hG hr) (by rfl) T.repr (by decide +kernel) (pa_cons (StX.pe_callO (pv 1) L.co L.Gc hr pass0 (pa_cons (pv 3) pa_nil)) pa_nil)) (pe_callB (call_reprT hG hr) (by rfl) T.repr (by decide +kernel) (pa_cons (pe_call G_law_place hr1 rfl D_law_place.m D_law_place.F.kp D_law_place.b .nil pass0 (pa_cons (pv 0) (pa_cons (pv 3) pa_nil))) pa_nil)) (nomark _)) (pw_or1 (pt_cmpR op_ne (pe_cmpR (op_in_own L.oh L.Gh hr2 pass0) (pv 3) (pv 1) (by rfl)) (pe_cmpR op_in_seq (pv 3) (pv 2) (by rfl)) (nomark _))))) (pss_one (ps_ret pe_bl)) pss_nil)))
  (pss_cons (ps_for PassesOwn.never rfl (pi_range1 (by rfl) T.range (pa_cons (pe_op op_add (pe_op op_mul pe_int (pe_callB call_len_seq (by rfl) T.len (by decide +kernel) (pa_cons (pv 2) pa_nil))) pe_int) pa_nil)) (pg_name (i := 4) scPlacesR.nd rfl (Or.inl rfl)) (pss_cons (ps_set (i := 5) scPlacesR.nd rfl (Or.inl rfl) pe_int)
  (pss_cons (ps_if (pt_cmpR op_in_seq (pv 4) (pe_tup (pa_cons pe_int (pa_cons (pe_op op_mul pe_int (pe_callB call_len_seq (by rfl) T.len (by decide +kernel) (pa_cons (pv 2) pa_nil))) pa_nil))) (by rfl)) (pss_one (ps_set (i := 5) scPlacesR.nd rfl (Or.inl rfl) pe_non)) (pss_one (ps_if (pt_cmpR op_in_seq (pv 4) (pe_lc (own := [("at", 6)]) (g := gName 6) (tt := tYes) rfl scPlacesR.nd (pi_range1 (by rfl) T.range (pa_cons (pe_callB call_len_seq (by rfl) T.len (by decide +kernel) (pa_cons (pv 2) pa_nil)) pa_nil)) (blkOk_by (own := [("at", 6)]) (N := ["given", "line", "some", "number", "place", "due", "at"]) (sc := defScope sPlacesR) (by decide +kernel)) (fun _ _ _ _ _ => (pg_name (i := 6) scPlacesR.nd rfl (Or.inl rfl))) (fun _ _ _ _ _ => pts_nil) (fun _ _ _ _ _ => (pe_op op_mul pe_int (pv 6)))) (by rfl)) (pss_one (ps_set (i := 5) scPlacesR.nd rfl (Or.inl rfl) (pe_op op_sub (pe_op op_sub (pe_ix ix_list (pv 2) (pe_op op_fdiv (pv 4) pe_int) (fun _ _ => rfl)) (pe_ix ix_list (pv 2) (pe_op op_sub (pe_op op_fdiv (pv 4) pe_int) pe_int) (fun _ _ => rfl))) pe_int))) pss_nil)))
  (pss_one (ps_if (pt_cmpR op_ne (pe_meth (pv 1) L.c.cl L.mr L.Gr hr2 L.br .nil pass0 (pa_cons (pv 4) pa_nil)) (pv 5) (nomark _)) (pss_one (ps_ret pe_bl)) pss_nil)))))
  (pss_one (ps_ret pe_bl))))), ?_⟩
    refine Evl.q_asgL (el_sorted (Evl.ev_var rfl) (SqL.of hl) (by omega) asc) fun p H1 hp e1 h1 => ?_
    -- the numbers
    refine Evl.q_forNLn (xs := (someL ns).map V.int) (Evl.el_call (Evl.ea_cons (Evl.ev_var rfl) Evl.ea_nil) (fun H2 e2 Q2 q2 E2 => ⟨l, ns, rfl, (e1.trans e2) _ _ hl, by omega, fun p2 H3 n3 e3 h3 => q2 p2 H3 n3 e3 h3⟩))
      (fun m i σ' H' => Evl.Ex H1 H' ∧ H' m = some (.lst ((someL ns).map V.int)) ∧ ∃ u, σ' = [some (.ref l), some (.ref a), some (.ref p), u, none, none, none]) (fun m H2 _ e2 h2 => ⟨e2, h2, none, rfl⟩) ?_ ?_ ?_
    · rintro m i σ' H' _ ⟨ex, hm, _⟩
      exact SqL.of hm
    · rintro m i x σ' H' hx ⟨ex, hm, u, rfl⟩
      rw [List.getElem?_map] at hx
      obtain ⟨y, hy, rfl⟩ := Option.map_eq_some_iff.mp hx
      have E1 := e1.trans ex
      refine Evl.s_when (b := false) (Evl.et_is (Evl.et_or (a := false) (b := false) (Evl.et_test (Evl.ev_is (Evl.ev_op (ev_reprI (plc_small (ws := ws) (k := y) (by omega)) (ev_callO (Evl.ev_var rfl) (Evl.ev_var rfl) (hA.ex E1) asc.up)) (ev_reprI (plc_small (ws := ws) (k := y) (by omega)) (Evl.ev_call (Evl.ea_cons (Evl.ev_var rfl) (Evl.ea_cons (Evl.ev_var rfl) Evl.ea_nil)) (fun H2 e2 Q2 q2 E2 => ⟨l, y, ns, ws, rfl, (E1.trans e2) _ _ hl, by omega, asc, fun H3 e3 => q2 H3 e3⟩))) (Evl.rv_ne rfl)) (by simp)))
        (fun _ => Evl.et_test (Evl.ev_is (Evl.ev_op (Evl.ev_op (Evl.ev_var rfl) (Evl.ev_var rfl) (rv_inO (hA.ex E1) (.int y))) (Evl.ev_op (Evl.ev_var rfl) (Evl.ev_var rfl) (Evl.rv_isL (SqL.of (ex _ _ h1)) rfl (flat_ints ws))) (Evl.rv_ne rfl)) (by rw [inV_ints]; simp [hasV])))) rfl) (fun h => nomatch h) (fun _ H2 e2 => ⟨ex.trans e2, e2 _ _ hm, _, rfl⟩)
    · rintro m σ' H' ⟨ex, hm, u, rfl⟩
      have E1 := e1.trans ex
      -- the places
      have len : ∀ {σ : L2.St} {H2 : Hp}, Evl.Ex H' H2 → σ[2]? = some (some (.ref p)) → Evl.Ev (tCB (Evl.rLenS K) (tCons (tVar 2) tNil)) σ H2 (.int (ws.length : Int)) := fun e h => ev_lenL (Evl.ev_var h) (SqL.of ((ex.trans e) _ _ h1))
      refine Evl.q_forR1 (n := 2 * (ws.length : Int) + 1) (Evl.ea_cons (Evl.ev_op (Evl.ev_op Evl.ev_c (len (Evl.Ex.refl _) rfl) (Evl.rv_I (.inl ⟨by decide, by decide⟩))) Evl.ev_c Evl.rv_I0) Evl.ea_nil) (by omega) (fun i σ' H2 => Evl.Ex H' H2 ∧ ∃ u1 u2 u3, σ' = [some (.ref l), some (.ref a), some (.ref p), u1, u2, u3, none]) (fun H2 e2 => ⟨e2, u, none, none, rfl⟩) ?_ ?_
      · rintro i σ' H2 hi ⟨e2, u1, u2, u3, rfl⟩
        have E2 := E1.trans e2
        have hil : i ≤ 2 * ws.length := by omega
        refine Evl.q_asg Evl.ev_c fun H3 e3 => ?_
        have E3 := E2.trans e3
        have ex3 := (ex.trans e2).trans e3
        have t1 : ∀ {b : Bool}, decide ((i : Int) = 0 ∨ (i : Int) = 2 * (ws.length : Int)) = b → Evl.EvT (tTest (tOp (rIn K false) (tVar 4) (tTup (tCons (tC (.int 0)) (tCons (tOp (rI CMul fun i j => .int (i * j)) (tC (.int 2)) (tCB (Evl.rLenS K) (tCons (tVar 2) tNil))) tNil))))) [some (.ref l), some (.ref a), some (.ref p), u1, some (.int (i : Int)), some (.int 1), none] H3 b := fun {b} hb =>
          Evl.et_test (Evl.ev_is (Evl.ev_inU (Evl.ev_var rfl) (Evl.eu_tup (vs := [.int 0, .int (2 * (ws.length : Int))]) (Evl.ea_cons Evl.ev_c (Evl.ea_cons (Evl.ev_op Evl.ev_c (len (e2.trans e3) rfl) (Evl.rv_I (.inl ⟨by decide, by decide⟩))) Evl.ea_nil)) (show 2 ≤ 100000 by decide)) rfl rfl) (by rw [in_two, hb]))
        have t2 : ∀ {b : Bool} {H4 : Hp}, Evl.Ex H3 H4 → decide (i % 2 = 0 ∧ i / 2 < ws.length) = b → Evl.EvT (tTest (tOp (rIn K false) (tVar 4) (tLc (iRng1 (tCons (tCB (Evl.rLenS K) (tCons (tVar 2) tNil)) tNil)) (gName 6) tYes (tOp (rI CMul fun i j => .int (i * j)) (tC (.int 2)) (tVar 6)) [6]))) [some (.ref l), some (.ref a), some (.ref p), u1, some (.int (i : Int)), some (.int 1), none] H4 b := fun {b H4} e4 hb =>
          Evl.et_test (Evl.ev_is (Evl.ev_opL (xs := (List.range ws.length).map fun j : Nat => V.int (2 * (j : Int))) (Evl.ev_var rfl) (el_map (fun j : Nat => V.int (2 * (j : Int))) (Evl.ea_cons (len ((e2.trans e3).trans e4) rfl) Evl.ea_nil) (by omega) (fun _ => rfl) (fun j H5 e5 hj => Evl.ev_op Evl.ev_c (Evl.ev_var rfl) (Evl.rv_I (.inl ⟨by decide, by decide⟩)))) fun q H5 h5 e5 => Evl.rv_isL (SqL.of h5) rfl (by rw [List.all_map]; exact List.all_eq_true.mpr fun _ _ => rfl)) (by rw [in_evens, hb]))
        have fin : ∀ (H4 : Hp) (u : V), Evl.Ex H3 H4 → u = roomV ws i → Evl.EvT (tTest (tOp rNe (tMeth C "room" (spLroom K C) [] E0 (tVar 1) (tCons (tVar 4) tNil)) (tVar 5))) [some (.ref l), some (.ref a), some (.ref p), u1, some (.int (i : Int)), some u, none] H4 false := fun H4 u e4 hu => by
          subst hu
          exact Evl.et_test (Evl.ev_is (Evl.ev_op (ev_room (Evl.ev_var rfl) (Evl.ev_var rfl) (hA.ex (E3.trans e4)) hil) (Evl.ev_var rfl) (Evl.rv_ne (scal_room ws i))) (by simp))
        by_cases c1 : i = 0 ∨ i = 2 * ws.length
        · refine Evl.q_if (b := true) (t1 (decide_eq_true (by omega))) (fun _ H4 e4 => ?_) (fun h => nomatch h)
          refine Evl.s_asg Evl.ev_c fun H5 e5 => ?_
          refine Evl.s_when (b := false) (fin H5 .non (e4.trans e5) ?_) (fun h => nomatch h) (fun _ H6 e6 => ⟨((((e2.trans e3).trans e4).trans e5).trans e6), _, _, _, rfl⟩)
          unfold roomV
          rw [if_neg (by omega), if_pos (by omega)]
        · refine Evl.q_if (b := false) (t1 (decide_eq_false (by omega))) (fun h => nomatch h) (fun _ H4 e4 => ?_)
          by_cases c2 : i % 2 = 0
          · have hlt : i / 2 < ws.length := by omega
            have hlt2 : i / 2 - 1 < ws.length := by omega
            have d1 : (i : Int) / 2 = ((i / 2 : Nat) : Int) := by omega
            have d2 : ((i / 2 : Nat) : Int) - 1 = ((i / 2 - 1 : Nat) : Int) := by omega
            have hp4 := SqL.of (K := K) ((ex3.trans e4) _ _ h1)
            refine Evl.s_when (b := true) (t2 e4 (decide_eq_true ⟨c2, hlt⟩)) (fun _ H5 e5 => ?_) (fun h => nomatch h)
            have hp5 := SqL.of (K := K) (((ex3.trans e4).trans e5) _ _ h1)
            have half : ∀ {σ : L2.St} {H6 : Hp}, σ[4]? = some (some (.int (i : Int))) → Evl.Ev (tOp (rI CDiv fun i j => .int (i / j)) (tVar 4) (tC (.int 2))) σ H6 (.int ((i / 2 : Nat) : Int)) := fun h => Evl.ev_is (Evl.ev_op (Evl.ev_var h) Evl.ev_c (Evl.rv_I ⟨by decide, by decide⟩)) (congrArg V.int d1)
            refine Evl.s_asg (Evl.ev_op (Evl.ev_op (Evl.ev_op (Evl.ev_var rfl) (half rfl) (Evl.rv_ixL hp5 (atI_int hlt))) (Evl.ev_op (Evl.ev_var rfl) (Evl.ev_is (Evl.ev_op (half rfl) Evl.ev_c Evl.rv_I0) (congrArg V.int d2)) (Evl.rv_ixL hp5 (atI_int hlt2))) Evl.rv_I0) Evl.ev_c Evl.rv_I0) fun H6 e6 => ?_
            refine Evl.s_when (b := false) (fin H6 _ ((e4.trans e5).trans e6) ?_) (fun h => nomatch h) (fun _ H7 e7 => ⟨(((((e2.trans e3).trans e4).trans e5).trans e6).trans e7), _, _, _, rfl⟩)
            unfold roomV
            rw [if_neg (by omega), if_neg (by omega)]
            simp [hlt, hlt2]
          · refine Evl.s_when (b := false) (t2 e4 (decide_eq_false (by omega))) (fun h => nomatch h) (fun _ H5 e5 => ?_)
            refine Evl.s_when (b := false) (fin H5 (.int 1) (e4.trans e5) ?_) (fun h => nomatch h) (fun _ H6 e6 => ⟨((((e2.trans e3).trans e4).trans e5).trans e6), _, _, _, rfl⟩)
            unfold roomV
            rw [if_pos (by omega)]
      · rintro σ' H2 ⟨e2, u1, u2, u3, rfl⟩
        exact Evl.s_ret Evl.ev_c fun H3 e3 => q _ ((E1.trans e2).trans e3)
end
end LN

set_option Elab.async false
set_option maxRecDepth 100000
set_option maxHeartbeats 2000000
set_option linter.all false
set_option pp.maxSteps 200
namespace LN
open PySem PySem.Spec PyProof.Rows L2 XG XV XL
abbrev sRight : Stmt := (top 26)
def rInK (C : Addr) (sp : Sp) (E : XK) : R2 := fun x y H Q => ∃ a dx fs, y = .ref a ∧ H a = some (.ins C dx fs) ∧ sp [.ref a, x] H (fun v H' => ∃ b, v = .bl b ∧ Q (.bl b) H') E
theorem op_in_ownK {X : Cx} {CX : CXT} {k : Nat} {C g : Addr} {sp : Sp} {E : XK} (c : Own X.K C "__contains__" g) (F : FnR X.prog X.w X.K X.mg X.base CX k g sp) (hr : Room k X.A) (hx : Passes CX X E) : OpR X (compareOp .In) (rInK C sp E) := by
  intro pins s σ H x y v u Q I rx ry h
  obtain ⟨a, dx, fs, ey, h1, h2⟩ := h
  exact op_in_own c F hr hx pins s σ H x y v u Q I rx ry ⟨a, ey, .inr ⟨dx, fs, h1⟩, h2⟩
theorem q_asgG {te : TE} {g : TG} {tz : TS} {D : Ends} {σ : L2.St} {H : Hp} (h : te σ H (fun v H1 => g v σ H1 fun σ2 H2 => tz D σ2 H2)) : tSeq (tAsg te g) tz D σ H := h
theorem t_tup {ta : TA} {σ : L2.St} {H : Hp} {Q : VK} (h : ta σ H fun xs H1 => xs.length ≤ sizeLine ∧ ∀ t, H1 t = none → Q (.ref t) (upd H1 t (.tup xs))) : tTup ta σ H Q := h
section
variable {P : Program} {w : World} {K : PySem.W.Frag} {mg : Str → Option Value} {base : Heap} {C fi po go pg gg fc fr fo fl fh fe fs : Addr} {fdg fdr : FuncData}
theorem Eqt.ex {H H' : Hp} {ws : List Int} {y : V} {b : Bool} (e : Evl.Ex H H') (q : Eqt K C H ws y b) : Eqt K C H' ws y b := by
  cases q with
  | line h => exact .line (h.ex e)
  | tup h => exact .tup (Evl.ex_t e h)
  | int i => exact .int i
section
variable {X : Cx} {σ : L2.St} {H : Hp} {ta tb tc te tf : TE} {tr : TA} {E : XK}
theorem look_of (hK : X.K = K) (c : LC K C) {ws : List Int} {y : V} {b : Bool} (q : Eqt K C H ws y b) : ∃ t, LooksT X H y t ∧ PySem.W.notFirst K C t = true := by
  subst hK
  cases q with
  | line h => exact ⟨_, lt_ins (insC_of h), c.nfC⟩
  | tup h => exact ⟨_, lt_tup h, c.nfT⟩
  | int i => exact ⟨_, lt_int, c.nfI⟩
theorem rv_eqO (hK : X.K = K) (c : LC K C) {a : Addr} {ws : List Int} {y : V} {b : Bool} (hl : LineAt K C H a ws) (q : Eqt K C H ws y b) : Evl.RV (rEqO X C (spLeq K C) E) (.ref a) y H (.bl b) := fun H1 e Q k => by
  obtain ⟨t, lt, nf⟩ := look_of (X := X) hK c (q.ex e)
  exact ⟨a, t, rfl, insC_of (hl.ex e), lt, by rw [hK]; exact nf, a, ws, y, b, rfl, hl.ex e, q.ex e, fun H2 e2 => k H2 e2⟩
theorem rv_neO (hK : X.K = K) (c : LC K C) {a : Addr} {ws : List Int} {y : V} {b : Bool} (hl : LineAt K C H a ws) (q : Eqt K C H ws y b) : Evl.RV (rNeO X C (spLeq K C) E) (.ref a) y H (.bl (!b)) := fun H1 e Q k => by
  obtain ⟨t, lt, nf⟩ := look_of (X := X) hK c (q.ex e)
  exact ⟨a, t, rfl, insC_of (hl.ex e), lt, by rw [hK]; exact nf, a, ws, y, b, rfl, hl.ex e, q.ex e, fun H2 e2 => ⟨b, rfl, k H2 e2⟩⟩
/-- is a reference to a line with just these integers -/
def AtL (K : PySem.W.Frag) (C : Addr) (ws : List Int) : V → Hp → Prop := fun v H => ∃ a, v = .ref a ∧ LineAt K C H a ws
theorem stays_atl {ws : List Int} : Stays (AtL K C ws) := fun v H H' e ⟨a, h1, h2⟩ => ⟨a, h1, h2.ex e⟩
theorem IsLine.atl {ns ws : List Int} {v : V} {H : Hp} (h : IsLine K C ns v H) (A : Asc ns ws) : AtL K C ws v H := by
  obtain ⟨a, us, e, h1, h2⟩ := h
  exact ⟨a, e, h2.eq A ▸ h1⟩
theorem evp_lineV {a : Addr} {ws : List Int} {i : Nat} (h : LineAt K C H a ws) (hi : σ[i]? = some (some (.ref a))) : EvP (tVar i) σ H (AtL K C ws) := fun H1 e Q q => ⟨_, hi, q _ H1 (Evl.Ex.refl _) ⟨a, rfl, h.ex e⟩⟩
theorem evp_or {ws us vs : List Int} (ha : EvP ta σ H (AtL K C ws)) (hb : EvP tb σ H (AtL K C us)) (hz : ws.length + us.length ≤ 50) (A : Asc (ws ++ us) vs) : EvP (tOp (rBinO X C (spLor K C) E) ta tb) σ H (AtL K C vs) :=
  evp_op ha stays_atl hb fun x y H1 e ⟨a, ex, h1⟩ ⟨b, ey, h2⟩ Q q => ⟨a, b, ex, ey, insC_of h1, insC_of h2, a, b, ws, us, rfl, h1, h2, hz, fun v H2 e2 p => q v H2 e2 (p.atl A)⟩
theorem evp_neO (hK : X.K = K) (c : LC K C) {ws us : List Int} (ha : EvP ta σ H (AtL K C ws)) (hb : EvP tb σ H (AtL K C us)) (e : ws = us) : EvP (tOp (rNeO X C (spLeq K C) E) ta tb) σ H (fun v _ => v = .bl false) :=
  evp_op ha stays_atl hb fun x y H1 e1 ⟨a, ex, h1⟩ ⟨b, ey, h2⟩ Q q => by
    subst ex; subst ey
    refine rv_neO hK c h1 (.line h2) H1 (Evl.Ex.refl _) Q fun H2 e2 => q _ H2 e2 ?_
    rw [decide_eq_true e]
    rfl
def TupAt (K : PySem.W.Frag) (ws : List Int) : V → Hp → Prop := fun v H => ∃ a, v = .ref a ∧ SqT K H a (ws.map V.int)
theorem stays_tup {ws : List Int} : Stays (TupAt K ws) := fun v H H' e ⟨a, h1, h2⟩ => ⟨a, h1, Evl.ex_t e h2⟩
theorem evp_given {ws : List Int} (ha : EvP ta σ H (AtL K C ws)) : EvP (tProp C (spLgiven C) [] E ta) σ H (TupAt K ws) := fun H1 e Q q => ha H1 e _ fun v H2 e2 ⟨a, ev, dx, g, h1, h2⟩ => ⟨a, dx, _, ev, h1, a, dx, g, rfl, h1, q _ H2 e2 ⟨g, rfl, h2⟩⟩
theorem evp_tupV {p : Addr} {ws : List Int} {i : Nat} (h : SqT K H p (ws.map V.int)) (hi : σ[i]? = some (some (.ref p))) : EvP (tVar i) σ H (TupAt K ws) := evp_ref h hi
theorem evp_tupN {xs : List V} (ha : Evl.EvL te σ H xs) : EvP (tCB (fun xs H Q => ∃ p ys, xs = [.ref p] ∧ ((SqL K H p ys ∧ ∀ l, H l = none → Q (.ref l) (upd H l (.tup ys))) ∨ (SqT K H p ys ∧ Q (.ref p) H))) (tCons te tNil)) σ H (fun v H => ∃ a, v = .ref a ∧ SqT K H a xs) := fun H1 e Q q =>
  ha H1 e _ fun l H2 hl e2 h2 => ⟨l, xs, rfl, .inl ⟨SqL.of h2, fun t ht => q _ _ (e2.trans (Evl.Ex.new ht)) ⟨t, rfl, SqT.of upd_same⟩⟩⟩
theorem evp_neT {ws us : List Int} (ha : EvP ta σ H (TupAt K ws)) (hb : EvP tb σ H (TupAt K us)) : EvP (tOp (rNeD K) ta tb) σ H (fun v _ => v = .bl (!decide (ws = us))) :=
  evp_op ha stays_tup hb fun x y H1 e1 ⟨a, ex, h1⟩ ⟨b, ey, h2⟩ Q q => by
    subst ex; subst ey
    refine ⟨_, _, .tup h1 (dpa_ints ws), .tup h2 (dpa_ints us), shaped_ints ws, shaped_ints us, q _ H1 (Evl.Ex.refl _) ?_⟩
    show V.bl (!PyData.eqvAll (ws.map PyData.int) (us.map PyData.int)) = _
    rw [eqv_ints]
theorem evp_eqT {ws us : List Int} (ha : EvP ta σ H (TupAt K ws)) (hb : EvP tb σ H (TupAt K us)) : EvP (tOp (rEqD K) ta tb) σ H (fun v _ => v = .bl (decide (ws = us))) :=
  evp_op ha stays_tup hb fun x y H1 e1 ⟨a, ex, h1⟩ ⟨b, ey, h2⟩ Q q => by
    subst ex; subst ey
    exact rv_eqT h1 h2 H1 (Evl.Ex.refl _) Q fun H2 e2 => q _ H2 e2 rfl
theorem el_sortedN {ns ws : List Int} (ha : Evl.EvL te σ H (ns.map V.int)) (hz : ns.length ≤ 50) (A : Asc ns ws) : Evl.EvL (tCB (rSortedSet w) (tCons (tCB (XT.rSetI K w) (tCons te tNil)) tNil)) σ H (ws.map V.int) := fun H1 e Q q =>
  ha H1 e _ fun l H2 hl e2 h2 => ⟨l, ns, rfl, SqL.of h2, by omega, fun p n hp hn => ⟨p, _, n, rfl, upd_same, by omega, fun us p' up mem len hp' => by
    have : us = ws := asc_ext up A.up fun k => by rw [mem k, decide_eq_true_eq, A.mem k]
    subst this
    exact q p' _ (Evl.fresh_back (e2.trans (Evl.Ex.new hp)) hp') ((e2.trans (Evl.Ex.new hp)).trans (Evl.Ex.new hp')) upd_same⟩⟩
theorem el_rev {l : Addr} {xs : List V} (ha : Evl.Ev te σ H (.ref l)) (hl : SqL K H l xs) : Evl.EvL (tRevL K te) σ H xs.reverse := fun H1 e Q q => ha H1 e _ fun H2 e2 => ⟨l, xs, rfl, Evl.ex_l (e.trans e2) hl, fun p hp => q p _ (Evl.fresh_back e2 hp) (e2.trans (Evl.Ex.new hp)) upd_same⟩
theorem el_slN {xs : List V} {tl th : TO} {lo hi : Option Int} (h : Evl.EvL te σ H xs) (h1 : Evl.EvO tl σ H lo) (h2 : Evl.EvO th σ H hi) : Evl.EvL (tSl (rSlL K) te tl th) σ H (cutV xs lo hi) := fun H1 e Q q =>
  h H1 e _ fun p H2 hp e2 hx => h1 H2 (e.trans e2) _ fun H3 e3 => h2 H3 ((e.trans e2).trans e3) _ fun H4 e4 => ⟨p, xs, rfl, SqL.of (e4 _ _ (e3 _ _ hx)), fun t ht => q t _ (Evl.fresh_back ((e2.trans e3).trans e4) ht) (((e2.trans e3).trans e4).trans (Evl.Ex.new ht)) upd_same⟩
theorem cutV_sub {xs : List V} {lo hi : Option Int} {x : V} (h : x ∈ cutV xs lo hi) : x ∈ xs := by
  unfold cutV at h
  exact List.mem_of_mem_drop (List.mem_of_mem_take h)
theorem rv_catS {a b : Str} (hz : a.length + b.length ≤ 100000) : Evl.RV (fun x y H Q => ∃ i j, x = .str i ∧ y = .str j ∧ i.length + j.length ≤ sizeLine ∧ Q (.str (i ++ j)) H) (.str a) (.str b) H (.str (a ++ b)) := fun H1 e Q q => ⟨a, b, rfl, rfl, Evl.sz_of hz, q H1 (Evl.Ex.refl _)⟩
theorem ev_strI {ta : TA} {i : Int} (h : Evl.EvA ta σ H [.int i]) (hz : i.natAbs < 2 ^ 200) : Evl.Ev (tCB (fun xs H Q => ∃ i : Int, xs = [.int i] ∧ i.natAbs.log2 < 1920 ∧ Q (.str (toString i)) H) ta) σ H (.str (toString i)) := Evl.ev_cb h fun H1 e Q q => ⟨i, rfl, by
  rcases Nat.eq_zero_or_pos i.natAbs with z | z
  · rw [z]
    decide
  · have : i.natAbs.log2 < 200 := (Nat.log2_lt (by omega)).mpr hz
    omega, q H1 (Evl.Ex.refl _)⟩
theorem evpa_rep {d : PyData} {ds : List PyData} (h : EvP te σ H (fun v H => RepT K H v d)) (hr : EvPA tr σ H (fun vs H => RepTAll K H vs ds)) : EvPA (tCons te tr) σ H (fun vs H => RepTAll K H vs (d :: ds)) :=
  (evpa_cons h (fun v H H' e p => p.mono e) hr).imp fun vs H1 _ ⟨v, ws, e, hv, hw⟩ => e ▸ .cons hv hw
theorem evpa_rep0 : EvPA tNil σ H (fun vs H => RepTAll K H vs []) := evpa_nil.imp fun vs H1 _ e => e ▸ .nil
theorem repT_len : ∀ {vs : List V} {ds : List PyData}, RepTAll K H vs ds → vs.length = ds.length
  | _, _, .nil => rfl
  | _, _, .cons _ r => congrArg (· + 1) (repT_len r)
theorem evp_replst {ds : List PyData} (h : EvPA tr σ H (fun vs H => RepTAll K H vs ds)) (hz : ds.length ≤ 1000) : EvP (tLst tr) σ H (fun v H => RepT K H v (.list ds)) :=
  (evp_lst h (fun vs H1 H2 e p => p.mono e) (fun vs H1 p => by rw [repT_len p]; omega)).imp fun v H1 _ ⟨p, vs, e, h1, h2⟩ => e ▸ .lst h1 h2
theorem repT_ints : ∀ (ws : List Int) (H : Hp), RepTAll K H (ws.map V.int) (ws.map PyData.int)
  | [], _ => .nil
  | k :: ws, H => .cons (.int k) (repT_ints ws H)
theorem TupAt.rep {ws : List Int} {v : V} {H : Hp} (h : TupAt K ws v H) : RepT K H v (.tuple (ws.map PyData.int)) := by
  obtain ⟨a, e, h⟩ := h
  exact e ▸ .tup h (repT_ints ws H)
theorem evp_is {v : V} {d : PyData} (h : Evl.Ev te σ H v) (r : ∀ H, RepT K H v d) : EvP te σ H (fun v H => RepT K H v d) := fun H1 e Q q => h H1 e Q fun H2 e2 => q _ H2 e2 (r H2)
/-- a comprehension over a new tuple, of which nothing is taken -/
theorem el_lcT0 {PA : List V → Hp → Prop} {tl : TE} {t : TT} {j : Nat} {vs : List Nat} (h : EvP tl σ H (fun v H => ∃ p xs, v = .ref p ∧ H p = some (.tup xs) ∧ PA xs H)) (mA : Stays PA) (hz : ∀ xs H, PA xs H → xs.length ≤ 1000) (hw : ∀ x, wipe ((wipe σ vs).set j (some x)) vs = wipe σ vs)
    (ht : ∀ xs x H1, Evl.Ex H H1 → PA xs H1 → x ∈ xs → Evl.EvT t ((wipe σ vs).set j (some x)) H1 false) : Evl.EvL (tLc (iTup K tl) (gName j) t te vs) σ H [] := fun H0 e Q q => h H0 e _ fun v H1 e1 ⟨p, xs, ev, hp, pa⟩ => ⟨p, ev, ⟨xs, SqT.of hp⟩, fun Dl hD =>
  lc_tup (xs := xs) (Evl.Cw H1 (fun _ => false) (fun _ => .non) Dl) ⟨hD, Evl.Ex.new hD, upd_same⟩ (fun i H' _ p' => SqT.of (p'.2.1 _ _ hp)) (fun i x H' hi p' => ⟨hw x, Evl.cw_turn p' (by have := (List.getElem?_eq_some_iff.mp hi).1; have := hz xs H1 pa; omega) (ht xs x H1 (e.trans e1) pa (List.mem_of_getElem? hi)) (fun h => nomatch h)⟩)
    (fun H' p' => q Dl H' (Evl.fresh_back e1 p'.1) (e1.trans p'.2.1) (by
      have := p'.2.2
      rw [given_none] at this
      exact this))⟩
theorem rv_inK {a : Addr} {ws : List Int} {x : V} {b : Bool} (hl : LineAt K C H a ws) (kd : Kd K H x b) : Evl.RV (rInK C (spLhas K C) E) x (.ref a) H (.bl (hasV ws x)) := fun H1 e Q q => by
  obtain ⟨dx, fs, h⟩ := (hl.ex e).ins
  exact ⟨a, dx, fs, rfl, h, a, ws, x, b, rfl, hl.ex e, kd.ex e, fun H2 e2 => ⟨_, rfl, q H2 e2⟩⟩
end
theorem cmpI_eq (i j : Int) : (if decide (i > j) = true then (1 : Int) else 0) - (if decide (i < j) = true then 1 else 0) = cmpI i j := by
  unfold cmpI
  by_cases h : i < j
  · have : ¬ i > j := by omega
    simp [h, this]
  · by_cases h2 : j < i
    · simp [h, h2]
    · simp [h, h2]
theorem small_log {z : Int} (h : Small z) : z.natAbs.log2 < 140 := by
  rcases Nat.eq_zero_or_pos z.natAbs with y | y
  · rw [y]
    decide
  · exact (Nat.log2_lt (by omega)).mpr h
theorem showable_ints : ∀ {ns : List Int}, (∀ z ∈ ns, Small z) → PyData.showableAll (ns.map PyData.int) = true
  | [], _ => rfl
  | z :: ns, h => by
    show (decide _ && PyData.showableAll (ns.map PyData.int)) = true
    rw [showable_ints fun y hy => h y (List.mem_cons_of_mem _ hy), Bool.and_true]
    have := small_log (h z List.mem_cons_self)
    exact decide_eq_true (by omega)
theorem plain_ints : ∀ ns : List Int, XS.plainDs (ns.map PyData.int) = true
  | [] => rfl
  | z :: ns => by
    show (true && XS.plainDs (ns.map PyData.int)) = true
    rw [plain_ints ns]
    rfl
theorem szs_ints : ∀ {ns : List Int}, (∀ z ∈ ns, Small z) → XS.szs (ns.map PyData.int) ≤ 150 * ns.length
  | [], _ => Nat.le_refl _
  | z :: ns, h => by
    have a := szs_ints fun y hy => h y (List.mem_cons_of_mem _ hy)
    have b := small_log (h z List.mem_cons_self)
    have c : XS.szs ((z :: ns).map PyData.int) = z.natAbs.log2 + 2 + 2 + XS.szs (ns.map PyData.int) := rfl
    rw [c, List.length_cons]
    omega
end
end LN

set_option Elab.async false
set_option maxRecDepth 100000
set_option maxHeartbeats 2000000
set_option linter.all false
set_option pp.maxSteps 200
namespace LN
open PySem PySem.Spec PyProof.Rows L2 XG XV XL
section
variable {P : Program} {w : World} {K : PySem.W.Frag} {mg : Str → Option Value} {base : Heap} {C fi po go pg gg fc fr fo fl fh fe fs : Addr} {fdg fdr : FuncData}
theorem text_ok : ∀ n, n < 13 → XS.plainT (lineText n) = true ∧ (lineText n).length ≤ 30 := by decide +kernel
theorem lineText_eq (n : Nat) : lineText n = (Str.ofString "line of " ++ ((toString (n : Int) : String) : Str)) ++ Str.ofString " integers" := by
  unfold lineText
  have : Str.empty ++ Str.ofString "line of " = Str.ofString "line of " := by decide +kernel
  rw [this]
def told (ws : List Int) : PyData := .list [.tuple (ws.map PyData.int), .int (ws.length : Int), .str (lineText ws.length), .bool (!decide (ws = []))]
theorem told_ok {ws : List Int} (h : ∀ z ∈ ws, Small z) (hz : ws.length ≤ 12) : (told ws).showable = true ∧ (told ws).depth ≤ 100 ∧ (told ws).shown.length ≤ sizeLine := by
  obtain ⟨t1, t2⟩ := text_ok ws.length (by omega)
  have l2 : (ws.length : Int).natAbs.log2 < 10 := by
    rcases Nat.eq_zero_or_pos (ws.length : Int).natAbs with z | z
    · rw [z]
      decide
    · exact (Nat.log2_lt (by omega)).mpr (by omega)
  refine ⟨?_, ?_, ?_⟩
  · show (PyData.showableAll (ws.map PyData.int) && (decide _ && (true && (true && true)))) = true
    rw [showable_ints h]
    simp only [Bool.true_and, Bool.and_true]
    exact decide_eq_true (by omega)
  · show max (PyData.depthAll (ws.map PyData.int) + 1) (max 0 (max 0 (max 0 0))) + 1 ≤ 100
    rw [dep_ints]
    decide
  · have a := XS.shown_le (told ws) (by
      show (XS.plainDs (ws.map PyData.int) && (true && (XS.plainT (lineText ws.length) && (true && true)))) = true
      rw [plain_ints, t1]
      rfl)
    have b : XS.sz (told ws) = 2 + (3 + XS.szs (ws.map PyData.int) + 2 + ((ws.length : Int).natAbs.log2 + 2 + 2 + (10 * (lineText ws.length).length + 2 + 2 + (5 + 2 + 0)))) := rfl
    have c := szs_ints h
    rw [sizeLine_eq]
    omega
theorem list_ok {ns : List Int} (h : ∀ z ∈ ns, Small z) (hz : ns.length ≤ 12) : (PyData.list (ns.map PyData.int)).showable = true ∧ (PyData.list (ns.map PyData.int)).depth ≤ 100 ∧ (PyData.list (ns.map PyData.int)).shown.length ≤ sizeLine := by
  refine ⟨showable_ints h, ?_, ?_⟩
  · show PyData.depthAll (ns.map PyData.int) + 1 ≤ 100
    rw [dep_ints]
    decide
  · have a := XS.shown_le (PyData.list (ns.map PyData.int)) (plain_ints ns)
    have b : XS.sz (PyData.list (ns.map PyData.int)) = 2 + XS.szs (ns.map PyData.int) := rfl
    have c := szs_ints h
    rw [sizeLine_eq]
    omega
def spRight : Sp := fun vs H Q _ => ∃ a : Addr, vs = [.ref a] ∧ Dice H a ∧ ∀ H' : Hp, Go a H H' → Q (.bl true) H'
theorem scRight : FnScope ["dice", "given", "more", "line", "other", "kept", "some", "text", "one", "every", "two"] ["dice"] (defScope sRight) := ⟨rfl, rfl, rfl, by decide +kernel, rfl, by decide +kernel, by decide +kernel⟩
def insI (k : Int) : List Int → List Int
  | [] => [k]
  | x :: xs => if k < x then k :: x :: xs else if k = x then x :: xs else x :: insI k xs
theorem insI_mem (k : Int) : ∀ (xs : List Int) (z : Int), z ∈ insI k xs ↔ z = k ∨ z ∈ xs
  | [], z => by simp [insI]
  | x :: xs, z => by
    unfold insI
    split
    · simp
    · split
      · rename_i h
        subst h
        simp
      · rw [List.mem_cons, insI_mem k xs, List.mem_cons]
        constructor
        · rintro (h | h | h)
          · exact .inr (.inl h)
          · exact .inl h
          · exact .inr (.inr h)
        · rintro (h | h | h)
          · exact .inr (.inl h)
          · exact .inl h
          · exact .inr (.inr h)
theorem insI_up (k : Int) : ∀ {xs : List Int}, xs.Pairwise (· < ·) → (insI k xs).Pairwise (· < ·)
  | [], _ => by simp [insI]
  | x :: xs, p => by
    obtain ⟨p1, p2⟩ := List.pairwise_cons.mp p
    unfold insI
    split
    · rename_i h
      refine List.pairwise_cons.mpr ⟨fun z hz => ?_, p⟩
      rcases List.mem_cons.mp hz with e | e
      · omega
      · have := p1 z e
        omega
    · split
      · exact p
      · refine List.pairwise_cons.mpr ⟨fun z hz => ?_, insI_up k p2⟩
        rcases (insI_mem k xs z).mp hz with e | e
        · omega
        · exact p1 z e
theorem asc_of : ∀ ns : List Int, ∃ ws, Asc ns ws
  | [] => ⟨[], .nil, fun k => Iff.rfl⟩
  | k :: ns => by
    obtain ⟨ws, up, mem⟩ := asc_of ns
    refine ⟨insI k ws, insI_up k up, fun z => ?_⟩
    rw [insI_mem, mem, List.mem_cons]
section
variable {X : Cx} {σ : L2.St} {H : Hp} {ta tb tc te tf : TE} {tr : TA} {E : XK}
theorem el_cat2 {l m : Addr} {xs ys : List V} (ha : Evl.Ev ta σ H (.ref l)) (hl : H l = some (.lst xs)) (hb : Evl.Ev tb σ H (.ref m)) (hm : H m = some (.lst ys)) (hz : xs.length + ys.length ≤ 100000) : Evl.EvL (tOp rCat ta tb) σ H (xs ++ ys) := fun H1 e Q q =>
  ha H1 e _ fun H2 e2 => hb H2 (e.trans e2) _ fun H3 e3 => ⟨l, m, xs, ys, rfl, rfl, ((e.trans e2).trans e3) _ _ hl, ((e.trans e2).trans e3) _ _ hm, Evl.sz_of hz, fun p hp => q p _ (Evl.fresh_back (e2.trans e3) hp) ((e2.trans e3).trans (Evl.Ex.new hp)) upd_same⟩
theorem ev_lenTI {ws : List Int} {p : Addr} (ha : Evl.Ev te σ H (.ref p)) (h : SqT K H p (ws.map V.int)) : Evl.Ev (tCB (Evl.rLenS K) (tCons te tNil)) σ H (.int (ws.length : Int)) := by
  have z := ev_lenT (K := K) ha h
  rw [List.length_map] at z
  exact z
def AllKd (K : PySem.W.Frag) (ws : List Int) (n : Nat) : List V → Hp → Prop := fun xs H => xs.length = n ∧ ∀ x ∈ xs, ∃ b, Kd K H x b ∧ hasV ws x = false
theorem stays_kd {ws : List Int} {n : Nat} : Stays (AllKd K ws n) := fun vs H H' e ⟨h1, h2⟩ => ⟨h1, fun x hx => let ⟨b, k, v⟩ := h2 x hx; ⟨b, k.ex e, v⟩⟩
theorem evpa_kd {ws : List Int} {n : Nat} (h : EvP te σ H (fun x H => ∃ b, Kd K H x b ∧ hasV ws x = false)) (hr : EvPA tr σ H (AllKd K ws n)) : EvPA (tCons te tr) σ H (AllKd K ws (n + 1)) :=
  (evpa_cons h (fun v H H' e ⟨b, k, v⟩ => ⟨b, k.ex e, v⟩) hr).imp fun vs H1 _ ⟨v, us, e, hv, hn, hw⟩ => by
    subst e
    refine ⟨by rw [List.length_cons, hn], fun x hx => ?_⟩
    rcases List.mem_cons.mp hx with z | z
    · rw [z]
      exact hv
    · exact hw x z
theorem evpa_kd0 {ws : List Int} : EvPA tNil σ H (AllKd K ws 0) := evpa_nil.imp fun vs H1 _ e => by
  subst e
  exact ⟨rfl, fun x hx => nomatch hx⟩
theorem kd_c {ws : List Int} {x : V} {b : Bool} (h : ∀ H, Kd K H x b) (hv : hasV ws x = false) : EvP (tC x) σ H (fun x H => ∃ b, Kd K H x b ∧ hasV ws x = false) := fun H1 e Q q => q _ H1 (Evl.Ex.refl _) ⟨b, h H1, hv⟩
theorem ev_lenO {a : Addr} {ws : List Int} (ha : Evl.Ev te σ H (.ref a)) (hl : LineAt K C H a ws) (hz : ws.length ≤ 50) : Evl.Ev (tCB (fun xs H Q => ∃ a, xs = [V.ref a] ∧ StX.InsC X H a C ∧ spLlen K C [.ref a] H (fun v H' => ∃ n : Int, v = .int n ∧ 0 ≤ n ∧ n < 2 ^ 63 ∧ Q (.int n) H') E) (tCons te tNil)) σ H (.int (ws.length : Int)) :=
  Evl.ev_cb (Evl.ea_cons ha Evl.ea_nil) fun H1 e Q q => ⟨a, rfl, insC_of (hl.ex e), a, ws, rfl, hl.ex e, fun H2 e2 => ⟨_, rfl, by omega, by omega, q H2 e2⟩⟩
theorem ev_strO {a : Addr} {ws : List Int} (ha : Evl.Ev te σ H (.ref a)) (hl : LineAt K C H a ws) (hz : ws.length ≤ 50) : Evl.Ev (tCB (fun xs H Q => ∃ a, xs = [V.ref a] ∧ StX.InsC X H a C ∧ spLstr K C [.ref a] H (fun v H' => ∃ z : Str, v = .str z ∧ Q (.str z) H') E) (tCons te tNil)) σ H (.str (lineText ws.length)) :=
  Evl.ev_cb (Evl.ea_cons ha Evl.ea_nil) fun H1 e Q q => ⟨a, rfl, insC_of (hl.ex e), a, ws, rfl, hl.ex e, by omega, fun H2 e2 => ⟨_, rfl, q H2 e2⟩⟩
theorem ev_boolO {a : Addr} {ws : List Int} (ha : Evl.Ev te σ H (.ref a)) (hl : LineAt K C H a ws) (hz : ws.length ≤ 50) : Evl.Ev (tCB (fun xs H Q => ∃ a, xs = [V.ref a] ∧ StX.InsC X H a C ∧ spLlen K C [.ref a] H (fun v H' => ∃ n : Int, v = .int n ∧ 0 ≤ n ∧ n < 2 ^ 63 ∧ Q (.bl (n != 0)) H') E) (tCons te tNil)) σ H (.bl (!decide (ws = []))) :=
  Evl.ev_is (Evl.ev_cb (z := .bl ((ws.length : Int) != 0)) (Evl.ea_cons ha Evl.ea_nil) fun H1 e Q q => ⟨a, rfl, insC_of (hl.ex e), a, ws, rfl, hl.ex e, fun H2 e2 => ⟨_, rfl, by omega, by omega, q H2 e2⟩⟩) (by
    cases ws with
    | nil => rfl
    | cons z ws => rfl)
theorem q_par {i j : Nat} {ta : TA} {tz : TS} {D : Ends} {σ : L2.St} {H : Hp} (h : ta σ H fun vs H1 => ∃ v w, vs = [v, w] ∧ tz D ((σ.set i (some v)).set j (some w)) H1) : tSeq (tPar i j ta) tz D σ H := h
theorem evp_unit : EvP (tTup tNil) σ H (TupAt K []) := (evp_tup evpa_nil (fun vs H1 H2 e z => z) (fun vs H1 z => by rw [z]; decide)).imp fun v H1 _ ⟨p, vs, e, h, z⟩ => ⟨p, e, by rw [z] at h; exact SqT.of h⟩
end
theorem okRight {f f1 f2 f3 f4 f5 f6 f7 f8 f9 f10 : Addr} {fd fd1 fd2 fd3 fd4 fd5 fd6 fd7 fd8 fd9 fd10 : FuncData} (F : Fun K "_law_right" "_law_right" sRight f fd) (T : Bt mg) (L : LP P w K mg base C fi po go pg gg fc fr fo fl fh fe fs fdg fdr)
    (D_law_pull : Dn K mg "_law_pull" sPull f1 fd1 ["dice", "total"]) (D_law_pick : Dn K mg "_law_pick" sPick f2 fd2 ["dice", "items"]) (D_law_given : Dn K mg "_law_given" sGiven f3 fd3 ["dice"]) (D_law_line : Dn K mg "_law_line" sLine f4 fd4 ["given"])
    (D_law_some : Dn K mg "_law_some" sSome f5 fd5 ["given"]) (D_law_place : Dn K mg "_law_place" sPlace f6 fd6 ["given", "number"]) (D_law_places_right : Dn K mg "_law_places_right" sPlacesR f7 fd7 ["given", "line"]) (Dcompare : Dn K mg "compare" sCompare f8 fd8 ["one", "other"])
    (Dcheck_whole : Dn K mg "check_whole" sChk f9 fd9 ["value"]) (Dis_whole : Dn K mg "is_whole" sWhole f10 fd10 ["value"]) : FnG P w K mg base CX0 7 f fd ["dice"] spRight := by
  have G_law_given : FnOk P w K mg base CX0 3 f3 fd3 ["dice"] spGiven := okGiven D_law_given.F T D_law_pull D_law_pick
  have G_law_line : FnOk P w K mg base CX0 6 f4 fd4 ["given"] (spLine K C) := okLine D_law_line.F T L
  have G_law_some : FnOk P w K mg base CX0 1 f5 fd5 ["given"] (spSome K) := okSome D_law_some.F T
  have G_law_places_right : FnG P w K mg base CX0 4 f7 fd7 ["given", "line"] (spPlacesR K C) := okPlacesR D_law_places_right.F T L D_law_some D_law_place
  have Gcompare : FnOk P w K mg base CX0 3 f8 fd8 ["one", "other"] spCompare := okCompare Dcompare.F T Dcheck_whole Dis_whole
  refine okG F scRight (fun vs H Q E h => ?_) (fun cdv A outer s H vs Q E hg hr h => ?_)
  · obtain ⟨a, rfl, _⟩ := h
    rfl
  · obtain ⟨a, rfl, hd, k⟩ := h
    have hr1 : Room 1 _ := hr.mono (by decide)
    have hr2 : Room 2 _ := hr.mono (by decide)
    have hr3 : Room 3 _ := hr.mono (by decide)
    have hr4 : Room 4 _ := hr.mono (by decide)
    have hr5 : Room 5 _ := hr.mono (by decide)
    have hG := (deeper_guards A (envOfC "_law_right" (defScope sRight) s.heap.objs.size f cdv)).trans hg
    refine ⟨_, (pss_cons (ps_par rfl scRight.nd (i := 1) (j := 2) rfl rfl (by decide) rfl rfl (pa_cons (pe_call G_law_given hr3 rfl D_law_given.m D_law_given.F.kp D_law_given.b .nil pass0 (pa_cons (pv 0) pa_nil)) (pa_cons (pe_call G_law_given hr3 rfl D_law_given.m D_law_given.F.kp D_law_given.b .nil pass0 (pa_cons (pv 0) pa_nil)) pa_nil)) (by rfl))
  (pss_cons (ps_asg (pe_tup (pa_cons (pe_call G_law_line hr rfl D_law_line.m D_law_line.F.kp D_law_line.b .nil pass0 (pa_cons (pv 1) pa_nil)) (pa_cons (pe_call G_law_line hr rfl D_law_line.m D_law_line.F.kp D_law_line.b .nil pass0 (pa_cons (pv 2) pa_nil)) (pa_cons (pe_callB (call_reprT hG hr) (by rfl) T.repr (by decide +kernel) (pa_cons (pv 1) pa_nil)) pa_nil)))) (pg_tup rfl (pgs_cons (pg_name (i := 3) scRight.nd rfl (Or.inr rfl)) (pgs_cons (pg_name (i := 4) scRight.nd rfl (Or.inl rfl)) (pgs_cons (pg_name (i := 5) scRight.nd rfl (Or.inl rfl)) pgs_nil)))))
  (pss_cons (ps_set (i := 6) scRight.nd rfl (Or.inl rfl) (pe_callTy call_tuple_of (by rfl) T.tuple (by decide +kernel) (pa_cons (pe_callB (cr_sortedSet rfl) (by rfl) T.sorted (by decide +kernel) (pa_cons (pe_callTy (XT.cr_setI rfl) (by rfl) T.set (by decide +kernel) (pa_cons (pv 1) pa_nil)) pa_nil)) pa_nil)))
  (pss_cons (ps_set (i := 7) scRight.nd rfl (Or.inl rfl) (pe_op op_add_str (pe_op op_add_str pe_str (pe_callTy call_str_int (by rfl) T.str (by decide +kernel) (pa_cons (pe_callB call_len_seq (by rfl) T.len (by decide +kernel) (pa_cons (pv 6) pa_nil)) pa_nil))) pe_str))
  (pss_cons (ps_if (pt_cmpR op_ne (pe_callB (call_reprT hG hr) (by rfl) T.repr (by decide +kernel) (pa_cons (pe_lst (pa_cons (pe_prop (pv 3) L.c.cl L.pr L.Gg hr2 L.bg .nil pass0 rfl) (pa_cons (pe_callB (call_len_own L.ol L.Gl hr2 pass0) (by rfl) T.len (by decide +kernel) (pa_cons (pv 3) pa_nil)) (pa_cons (pe_callTy (call_str_own hr3.in1.in1.units0 L.os L.Gs hr3 pass0) (by rfl) T.str (by decide +kernel) (pa_cons (pv 3) pa_nil)) (pa_cons (pe_callTy (call_bool_own L.c.nb L.ol L.Gl hr4 pass0) (by rfl) T.bool (by decide +kernel) (pa_cons (pv 3) pa_nil)) pa_nil))))) pa_nil)) (pe_callB (call_reprT hG hr) (by rfl) T.repr (by decide +kernel) (pa_cons (pe_lst (pa_cons (pv 6) (pa_cons (pe_callB call_len_seq (by rfl) T.len (by decide +kernel) (pa_cons (pv 6) pa_nil)) (pa_cons (pv 7) (pa_cons (pe_cmpR (op_neD hr.units) (pv 6) (pe_tup pa_nil) (nomark _)) pa_nil))))) pa_nil)) (nomark _)) (pss_one (ps_ret pe_bl)) pss_nil)
  (pss_cons (ps_if (PW.pt (pw_or (pt_not (pt_val (pe_callG G_law_places_right hG hr4 rfl D_law_places_right.m D_law_places_right.F.kp D_law_places_right.b .nil pass0 (pa_cons (pv 1) (pa_cons (pv 3) pa_nil))))) (pw_or1 (pt_cmpR (op_neD hr.units) (pe_lc (own := [("one", 8)]) (g := gName 8) rfl scRight.nd (pi_tup (pe_tup (pa_cons pe_non (pa_cons pe_str (pa_cons pe_bl (pa_cons (pe_tup (pa_cons pe_int pa_nil)) (pa_cons (pv 3) pa_nil))))))) (blkOk_by (own := [("one", 8)]) (N := ["dice", "given", "more", "line", "other", "kept", "some", "text", "one", "every", "two"]) (sc := defScope sRight) (by decide +kernel)) (fun _ _ _ _ _ => (pg_name (i := 8) scRight.nd rfl (Or.inl rfl))) (fun _ _ _ _ _ => (pts_one (pt_cmpR (op_in_ownK L.oh L.Gh hr2 pass0) (pv 8) (pv 3) (by rfl)))) (fun _ _ _ _ _ => (pv 8))) (pe_lst pa_nil) (nomark _))))) (pss_one (ps_ret pe_bl)) pss_nil)
  (pss_cons (ps_set (i := 9) scRight.nd rfl (Or.inl rfl) (pe_callTy call_tuple_of (by rfl) T.tuple (by decide +kernel) (pa_cons (pe_callB (cr_sortedSet rfl) (by rfl) T.sorted (by decide +kernel) (pa_cons (pe_callTy (XT.cr_setI rfl) (by rfl) T.set (by decide +kernel) (pa_cons (pe_op op_cat (pv 1) (pv 2)) pa_nil)) pa_nil)) pa_nil)))
  (pss_cons (ps_if (PW.pt (pw_or (pt_cmpR (op_neD hr.units) (pe_prop (pe_op (op_bin_own (op := .BitOr) L.c.sf L.oo L.Goo hr5 pass0) (pv 3) (pv 4)) L.c.cl L.pr L.Gg hr2 L.bg .nil pass0 rfl) (pv 9) (nomark _)) (pw_or (pt_cmpR (op_ne_own hr.units0 hr2.in1.units0 L.c.ne L.oe L.Ge hr2 pass0) (pe_op (op_bin_own (op := .BitOr) L.c.sf L.oo L.Goo hr5 pass0) (pv 3) (pv 4)) (pe_op (op_bin_own (op := .BitOr) L.c.sf L.oo L.Goo hr5 pass0) (pv 4) (pv 3)) (nomark _)) (pw_or1 (pt_cmpR (op_ne_own hr.units0 hr2.in1.units0 L.c.ne L.oe L.Ge hr2 pass0) (pv 3) (ClX.pe_cmeth (pe_cls (by rfl) L.ln) L.cr L.cm L.Gof hr5 pass0 (pa_cons (pe_callTy call_tuple_of (by rfl) T.tuple (by decide +kernel) (pa_cons (pe_revL (pv 1)) pa_nil)) pa_nil)) (nomark _)))))) (pss_one (ps_ret pe_bl)) pss_nil)
  (pss_cons (ps_if (PW.pt (pw_or (pt_cmpR op_ne (pe_cmpR (op_eq_own hr.units0 L.oe L.Ge hr1 pass0) (pv 3) (pv 4) (nomark _)) (pe_cmpR (op_eqD hr.units) (pv 6) (pe_callTy call_tuple_of (by rfl) T.tuple (by decide +kernel) (pa_cons (pe_callB (cr_sortedSet rfl) (by rfl) T.sorted (by decide +kernel) (pa_cons (pe_callTy (XT.cr_setI rfl) (by rfl) T.set (by decide +kernel) (pa_cons (pv 2) pa_nil)) pa_nil)) pa_nil)) (nomark _)) (nomark _)) (pw_or (pt_cmpR (op_eq_own hr.units0 L.oe L.Ge hr1 pass0) (pv 3) (pv 6) (nomark _)) (pw_or (pt_not (pt_cmpR (op_ne_own hr.units0 hr2.in1.units0 L.c.ne L.oe L.Ge hr2 pass0) (pv 3) pe_int (nomark _))) (pw_or1 (pt_cmpR (op_ne_own hr.units0 hr2.in1.units0 L.c.ne L.oe L.Ge hr2 pass0) (pv 3) (pe_op (op_bin_own (op := .BitOr) L.c.sf L.oo L.Goo hr5 pass0) (pv 3) (pe_mk0 L.mkr L.Gi hr4 rfl L.ln pass0)) (nomark _))))))) (pss_one (ps_ret pe_bl)) pss_nil)
  (pss_cons (ps_for PassesOwn.never rfl (pi_list (pe_slice sl_list (pe_call G_law_some hr1 rfl D_law_some.m D_law_some.F.kp D_law_some.b .nil pass0 (pa_cons (pv 1) pa_nil)) po_none (po_some pe_int))) (pg_name (i := 8) scRight.nd rfl (Or.inl rfl)) (pss_one (ps_for PassesOwn.never rfl (pi_list (pe_slice sl_list (pe_call G_law_some hr1 rfl D_law_some.m D_law_some.F.kp D_law_some.b .nil pass0 (pa_cons (pv 2) pa_nil)) po_none (po_some pe_int))) (pg_name (i := 10) scRight.nd rfl (Or.inl rfl)) (pss_one (ps_if (pt_cmpR op_ne (pe_callB (call_reprT hG hr) (by rfl) T.repr (by decide +kernel) (pa_cons (pe_call Gcompare hr3 rfl Dcompare.m Dcompare.F.kp Dcompare.b .nil pass0 (pa_cons (pv 8) (pa_cons (pv 10) pa_nil))) pa_nil)) (pe_callB (call_reprT hG hr) (by rfl) T.repr (by decide +kernel) (pa_cons (pe_op op_sub (pe_callTy call_int1 (by rfl) T.int (by decide +kernel) (pa_cons (pe_cmpR op_gt (pv 8) (pv 10) (nomark _)) pa_nil)) (pe_callTy call_int1 (by rfl) T.int (by decide +kernel) (pa_cons (pe_cmpR op_lt (pv 8) (pv 10) (nomark _)) pa_nil))) pa_nil)) (nomark _)) (pss_one (ps_ret pe_bl)) pss_nil)))))
  (pss_one (ps_ret (pe_cmpR op_eq (pe_callB (call_reprT hG hr) (by rfl) T.repr (by decide +kernel) (pa_cons (pv 1) pa_nil)) (pv 5) (nomark _)))))))))))))), ?_⟩
    refine q_par ⟨_, rfl, a, rfl, hd, fun l1 ns H1 n1 h1 z1 s1 x1 => ⟨_, rfl, a, rfl, x1.d, fun l2 ms H2 n2 h2 z2 s2 x2 => ⟨_, _, rfl, ?_⟩⟩⟩
    have h1 : H2 l1 = some (.lst (ns.map V.int)) := x2.b _ _ (hd.ne n1) h1
    have XG2 := x1.trans x2
    obtain ⟨ok1, ok2, ok3⟩ := list_ok s1 (by omega)
    -- the lines, and what is kept
    refine q_asgG (t_tup ?_)
    refine (evp_call (S := IsLine K C ns) (EvPA.of (Evl.ea_cons (Evl.ev_var rfl) Evl.ea_nil)) (fun vs H1 e ra Q q => by
      subst ra
      exact ⟨l1, ns, rfl, e _ _ h1, by omega, fun v H2 e2 p => q v H2 e2 p⟩)) H2 (Evl.Ex.refl _) _ fun v1 H3 e3 p1 => ?_
    refine (evp_call (S := IsLine K C ms) (EvPA.of (Evl.ea_cons (Evl.ev_var rfl) Evl.ea_nil)) (fun vs H1 e ra Q q => by
      subst ra
      exact ⟨l2, ms, rfl, e _ _ (e3 _ _ h2), by omega, fun v H2 e2 p => q v H2 e2 p⟩)) H3 (Evl.Ex.refl _) _ fun v2 H4 e4 p2 => ?_
    have kept : ∀ {σ : L2.St} {H5 : Hp}, Evl.Ex H2 H5 → σ[1]? = some (some (.ref l1)) → Evl.Ev (tCB (rReprT K) (tCons (tVar 1) tNil)) σ H5 (.str (PyData.list (ns.map PyData.int)).shown) := fun {σ H5} e5 hσ =>
      ev_reprT (fun H1 e Q q => ⟨_, hσ, q _ H1 (Evl.Ex.refl _) (.lst ((e5.trans e) _ _ h1) (repT_ints ns H1))⟩) ok1 ok2 ok3
    refine kept (e3.trans e4) rfl H4 (Evl.Ex.refl _) _ fun H5 e5 => ⟨by show 3 ≤ sizeLine; decide, fun t ht => ⟨t, _, rfl, SqT.of upd_same, rfl, ?_⟩⟩
    refine ⟨_, _, rfl, _, _, rfl, _, _, rfl, rfl, ?_⟩
    have E0 : Evl.Ex H2 (upd H5 t (.tup [v1, v2, .str (PyData.list (ns.map PyData.int)).shown])) := ((e3.trans e4).trans e5).trans (Evl.Ex.new ht)
    have p1 := stays_line _ _ _ ((e4.trans e5).trans (Evl.Ex.new (o := .tup [v1, v2, .str (PyData.list (ns.map PyData.int)).shown]) ht)) p1
    have p2 := stays_line _ _ _ (e5.trans (Evl.Ex.new (o := .tup [v1, v2, .str (PyData.list (ns.map PyData.int)).shown]) ht)) p2
    generalize upd H5 t (.tup [v1, v2, .str (PyData.list (ns.map PyData.int)).shown]) = H6 at E0 p1 p2 ⊢
    generalize (PyData.list (ns.map PyData.int)).shown = kt at kept ⊢
    obtain ⟨al, ws, rfl, LA, asc⟩ := p1
    obtain ⟨bl, us, rfl, LB, asc2⟩ := p2
    have hws : ws.length ≤ 6 := Nat.le_trans (nodup_len asc.up fun k hk => (asc.mem k).mp hk) z1
    have hus : us.length ≤ 6 := Nat.le_trans (nodup_len asc2.up fun k hk => (asc2.mem k).mp hk) z2
    have wsmall : ∀ z ∈ ws, Small z := fun z hz => s1 z ((asc.mem z).mp hz)
    obtain ⟨k1, k2, k3⟩ := told_ok wsmall (by omega)
    have hl1 := E0 _ _ h1
    have hl2 := E0 _ _ h2
    -- some, text
    refine q_asgP (evp_tupN (el_sorted (Evl.ev_var rfl) (SqL.of hl1) (by omega) asc)) fun v H7 e7 ⟨ts, ev, hts⟩ => ?_
    subst ev
    have il := XS.int_len (ws.length : Int)
    have lg : (ws.length : Int).natAbs.log2 < 10 := by
      rcases Nat.eq_zero_or_pos (ws.length : Int).natAbs with z | z
      · rw [z]
        decide
      · exact (Nat.log2_lt (by omega)).mpr (by omega)
    have la : (Str.ofString "line of ").length = 8 := by decide
    have lb : (Str.ofString " integers").length = 9 := by decide
    refine Evl.q_asg (v := .str (lineText ws.length)) (Evl.ev_is (Evl.ev_op (Evl.ev_op Evl.ev_c (ev_strI (Evl.ea_cons (ev_lenTI (Evl.ev_var rfl) hts) Evl.ea_nil) (by omega)) (rv_catS (by omega))) Evl.ev_c (rv_catS (by rw [XS.lt_len]; omega))) (congrArg V.str (lineText_eq _).symm)) fun H8 e8 => ?_
    have E8 := e7.trans e8
    have LA8 := LA.ex E8
    have LB8 := LB.ex E8
    have hts8 := Evl.ex_t e8 hts
    -- what lines tell of themselves
    refine Evl.q_when (b := false) (Evl.et_test (Evl.ev_is (Evl.ev_op
      (ev_reprT (d := told ws) (evp_replst (evpa_rep ((evp_given (evp_lineV LA8 rfl)).imp fun v H1 _ p => p.rep) (evpa_rep (evp_is (ev_lenO (Evl.ev_var rfl) LA8 (by omega)) fun _ => .int _) (evpa_rep (evp_is (ev_strO (Evl.ev_var rfl) LA8 (by omega)) fun _ => .str _) (evpa_rep (evp_is (ev_boolO (Evl.ev_var rfl) LA8 (by omega)) fun _ => .bl _) evpa_rep0)))) (by show 4 ≤ 1000; decide)) k1 k2 k3)
      (ev_reprT (d := told ws) (evp_replst (evpa_rep ((evp_tupV hts8 rfl).imp fun v H1 _ p => p.rep) (evpa_rep (evp_is (ev_lenTI (Evl.ev_var rfl) hts8) fun _ => .int _) (evpa_rep (evp_is (Evl.ev_var rfl) fun _ => .str _) (evpa_rep ((evp_neT (evp_tupV hts8 rfl) evp_unit).imp fun v H1 _ e => e ▸ .bl _) evpa_rep0)))) (by show 4 ≤ 1000; decide)) k1 k2 k3)
      (Evl.rv_ne rfl)) (by simp))) (fun h => nomatch h) (fun _ H9 e9 => ?_)
    have E9 := E8.trans e9
    have LA9 := LA.ex E9
    -- places, and what is in
    refine Evl.q_when (b := false) (Evl.et_is (Evl.et_or (a := false) (b := false) (Evl.et_is (Evl.et_not (a := true) (Evl.et_B (Evl.ev_call (Evl.ea_cons (Evl.ev_var rfl) (Evl.ea_cons (Evl.ev_var rfl) Evl.ea_nil)) (fun H10 e10 Q q E => ⟨l1, .ref al, ns, rfl, (E9.trans e10) _ _ hl1, by omega, ⟨al, ws, rfl, LA9.ex e10, asc⟩, fun H11 e11 => q H11 e11⟩)))) rfl)
      (fun _ => Evl.et_test (Evl.ev_is (Evl.ev_opLL (xs := []) (ys := []) (el_lcT0 (PA := AllKd K ws 5) (evp_tup (evpa_kd (kd_c (fun _ => .non) rfl) (evpa_kd (kd_c (fun _ => .str _) rfl) (evpa_kd (kd_c (fun _ => .bl _) rfl)
        (evpa_kd ((evp_tup (evpa_cons (P := fun _ _ => True) (fun H1 e Q q => q _ H1 (Evl.Ex.refl _) trivial) (fun _ _ _ _ h => h) evpa_nil) (fun vs H1 H2 e ⟨v, ws, z, _, y⟩ => ⟨v, ws, z, trivial, y⟩) (fun vs H1 ⟨v, ws, z, _, y⟩ => by rw [z, y]; show 1 ≤ 100000; decide)).imp fun v H1 _ ⟨p, vs, e, h, _⟩ => ⟨false, e ▸ .tup (SqT.of h), e ▸ rfl⟩)
        (evpa_kd ((evp_lineV LA9 rfl).imp fun v H1 _ ⟨p, e, h⟩ => by
          obtain ⟨dx, fs, hi⟩ := h.ins
          exact ⟨false, e ▸ .ins hi L.c.mt, e ▸ rfl⟩) evpa_kd0))))) stays_kd (fun vs H1 ⟨z, _⟩ => by rw [z]; decide)) stays_kd (fun xs H1 ⟨z, _⟩ => by omega) (fun _ => rfl)
        (fun xs x H1 e pa hx => by
          obtain ⟨b, kd, hv⟩ := pa.2 x hx
          exact Evl.et_test (Evl.ev_is (Evl.ev_op (Evl.ev_var rfl) (Evl.ev_var rfl) (rv_inK (LA9.ex e) kd)) (congrArg V.bl hv)))) (Evl.el_lst Evl.ea_nil (by decide)) fun p q H1 h1 h2 e => rv_neL (K := K) (ws := []) (us := []) (SqL.of h1) (SqL.of h2)) rfl))) rfl) (fun h => nomatch h) (fun _ H10 e10 => ?_)
    have E10 := E9.trans e10
    -- every
    obtain ⟨vs, ascv⟩ := asc_of (ns ++ ms)
    have hvl : (ns ++ ms).length ≤ 12 := by rw [List.length_append]; omega
    refine q_asgP (evp_tupN (el_sortedN (ns := ns ++ ms) (by
      rw [List.map_append]
      exact el_cat2 (Evl.ev_var rfl) (E10 _ _ hl1) (Evl.ev_var rfl) (E10 _ _ hl2) (by rw [List.length_map, List.length_map]; omega)) (by omega) ascv)) fun v H11 e11 ⟨te, ev, hte⟩ => ?_
    subst ev
    have E11 := E10.trans e11
    have LAx := LA.ex E11
    have LBx := LB.ex E11
    have A1 : Asc (ws ++ us) vs := ⟨ascv.up, fun k => by rw [ascv.mem, List.mem_append, List.mem_append, asc.mem, asc2.mem]⟩
    have A2 : Asc (us ++ ws) vs := ⟨ascv.up, fun k => by rw [A1.mem, List.mem_append, List.mem_append]; exact Or.comm⟩
    have A3 : Asc (ws ++ []) ws := ⟨asc.up, fun k => by rw [List.append_nil]⟩
    have A4 : Asc ns.reverse ws := ⟨asc.up, fun k => by rw [asc.mem, List.mem_reverse]⟩
    refine Evl.q_when (b := false) (Evl.et_is (Evl.et_or (a := false) (b := false) (et_bl ((evp_neT (evp_given (evp_or (evp_lineV LAx rfl) (evp_lineV LBx rfl) (by omega) A1)) (evp_tupV hte rfl)).imp fun v H1 _ e => e.trans (by simp)))
      (fun _ => Evl.et_or (a := false) (b := false) (et_bl (evp_neO rfl L.c (evp_or (evp_lineV LAx rfl) (evp_lineV LBx rfl) (by omega) A1) (evp_or (evp_lineV LBx rfl) (evp_lineV LAx rfl) (by omega) A2) rfl))
        (fun _ => et_bl (evp_neO rfl L.c (evp_lineV LAx rfl) ((evp_of (ns := ns.reverse) Evl.ev_c (by
          rw [List.map_reverse]
          exact evp_tupN (el_rev (Evl.ev_var rfl) (SqL.of (E11 _ _ hl1)))) (by rw [List.length_reverse]; omega)).imp fun v H1 _ p => p.atl A4) rfl)))) rfl) (fun h => nomatch h) (fun _ H12 e12 => ?_)
    have E12 := E11.trans e12
    have LAy := LA.ex E12
    have LBy := LB.ex E12
    have hts12 := Evl.ex_t ((((e8.trans e9).trans e10).trans e11).trans e12) hts
    refine Evl.q_when (b := false) (Evl.et_is (Evl.et_or (a := false) (b := false) (Evl.et_test (Evl.ev_is (Evl.ev_op (Evl.ev_op (Evl.ev_var rfl) (Evl.ev_var rfl) (rv_eqO rfl L.c LAy (.line LBy))) (EvP.to (evp_eqT (evp_tupV hts12 rfl) (evp_tupN (el_sorted (Evl.ev_var rfl) (SqL.of (E12 _ _ hl2)) (by omega) asc2)))) (Evl.rv_ne rfl)) (by simp)))
      (fun _ => Evl.et_or (a := false) (b := false) (Evl.et_test (Evl.ev_op (Evl.ev_var rfl) (Evl.ev_var rfl) (rv_eqO rfl L.c LAy (.tup hts12))))
        (fun _ => Evl.et_or (a := false) (b := false) (Evl.et_is (Evl.et_not (a := true) (Evl.et_test (Evl.ev_op (Evl.ev_var rfl) Evl.ev_c (rv_neO rfl L.c LAy (.int 0))))) rfl)
          (fun _ => et_bl (evp_neO rfl L.c (evp_lineV LAy rfl) (evp_or (us := []) (evp_lineV LAy rfl) (evp_mk0.imp fun v H1 _ p => p.atl ⟨.nil, fun k => Iff.rfl⟩) (by rw [List.length_nil]; omega) A3) rfl))))) rfl) (fun h => nomatch h) (fun _ H13 e13 => ?_)
    have E13 := E12.trans e13
    have intz : ∀ {ns : List Int} {x : V}, x ∈ cutV ((someL ns).map V.int) none (some 9) → ∃ z, x = .int z := fun h => by
      obtain ⟨z, _, e⟩ := List.mem_map.mp (cutV_sub h)
      exact ⟨z, e.symm⟩
    -- comparisons
    refine Evl.q_forNLn (xs := cutV ((someL ns).map V.int) none (some 9)) (el_slN (Evl.el_call (Evl.ea_cons (Evl.ev_var rfl) Evl.ea_nil) (fun H1 e1 Q q E => ⟨l1, ns, rfl, (E13.trans e1) _ _ hl1, by omega, fun p H3 n3 e3 h3 => q p H3 n3 e3 h3⟩)) Evl.eo_none (Evl.eo_some Evl.ev_c))
      (fun p i σ' H' => Evl.Ex H13 H' ∧ H' p = some (.lst (cutV ((someL ns).map V.int) none (some 9))) ∧ ∃ u1 u2, σ' = [some (.ref a), some (.ref l1), some (.ref l2), some (.ref al), some (.ref bl), some (.str kt), some (.ref ts), some (.str (lineText ws.length)), u1, some (.ref te), u2]) (fun p H14 _ e14 hp => ⟨e14, hp, none, none, rfl⟩) ?_ ?_ ?_
    · rintro p i σ' H' _ ⟨_, hp, _⟩
      exact SqL.of hp
    · rintro p i x σ' H' hx ⟨ex, hp, u1, u2, rfl⟩
      obtain ⟨y, rfl⟩ := intz (List.mem_of_getElem? hx)
      refine Evl.s_forNL (xs := cutV ((someL ms).map V.int) none (some 9)) (el_slN (Evl.el_call (Evl.ea_cons (Evl.ev_var rfl) Evl.ea_nil) (fun H1 e1 Q q E => ⟨l2, ms, rfl, ((E13.trans ex).trans e1) _ _ hl2, by omega, fun p H3 n3 e3 h3 => q p H3 n3 e3 h3⟩)) Evl.eo_none (Evl.eo_some Evl.ev_c))
        (fun p2 j σ2 H2 => Evl.Ex H' H2 ∧ H2 p2 = some (.lst (cutV ((someL ms).map V.int) none (some 9))) ∧ ∃ u2, σ2 = [some (.ref a), some (.ref l1), some (.ref l2), some (.ref al), some (.ref bl), some (.str kt), some (.ref ts), some (.str (lineText ws.length)), some (.int y), some (.ref te), u2]) (fun p2 H14 _ e14 hp2 => ⟨e14, hp2, u2, rfl⟩) ?_ ?_ ?_
      · rintro p2 j σ2 H2 _ ⟨_, hp2, _⟩
        exact SqL.of hp2
      · rintro p2 j x σ2 H2 hx2 ⟨ex2, hp2, u3, rfl⟩
        obtain ⟨z, rfl⟩ := intz (List.mem_of_getElem? hx2)
        have sm : (cmpI y z).natAbs < 2 ^ 200 := by
          unfold cmpI
          split
          · decide
          · split <;> decide
        refine g_name ?_
        refine Evl.s_when (b := false) (Evl.et_test (Evl.ev_is (Evl.ev_op (ev_reprI sm (Evl.ev_call (Evl.ea_cons (Evl.ev_var rfl) (Evl.ea_cons (Evl.ev_var rfl) Evl.ea_nil)) (fun H3 e3 Q q E => ⟨y, z, rfl, q H3 (Evl.Ex.refl _)⟩)))
          (ev_reprI sm (Evl.ev_is (Evl.ev_op (Evl.ev_cb (Evl.ea_cons (Evl.ev_op (Evl.ev_var rfl) (Evl.ev_var rfl) Evl.rv_I0) Evl.ea_nil) rc_intb) (Evl.ev_cb (Evl.ea_cons (Evl.ev_op (Evl.ev_var rfl) (Evl.ev_var rfl) Evl.rv_I0) Evl.ea_nil) rc_intb) Evl.rv_I0) (congrArg V.int (cmpI_eq y z)))) (Evl.rv_ne rfl)) (by simp))) (fun h => nomatch h) (fun _ H3 e3 => ⟨ex2.trans e3, e3 _ _ hp2, _, rfl⟩)
      · rintro p2 σ2 H2 ⟨ex2, hp2, u3, rfl⟩
        exact ⟨ex.trans ex2, ex2 _ _ hp, _, _, rfl⟩
    · rintro p σ' H' ⟨ex, hp, u1, u2, rfl⟩
      exact Evl.s_ret (v := .bl true) (Evl.ev_is (Evl.ev_op (kept (E0.trans (E13.trans ex)) rfl) (Evl.ev_var rfl) (Evl.rv_eq rfl)) (by simp)) fun H14 e14 => k _ ((XG2.ex (E0.trans (E13.trans ex))).ex e14)
end
end LN

set_option Elab.async false
set_option maxRecDepth 100000
set_option maxHeartbeats 2000000
set_option linter.all false
set_option pp.maxSteps 200
namespace LN
open PySem PySem.Spec PyProof.Rows L2 XG XV XL
abbrev sLaw : Stmt := (top 27)
section
variable {P : Program} {w : World} {K : PySem.W.Frag} {mg : Str → Option Value} {base : Heap} {C fi po go pg gg fc fr fo fl fh fe fs : Addr} {fdg fdr : FuncData}
section
variable {X : Cx} {σ : L2.St} {H : Hp} {ta tb tc te tf : TE} {tr : TA} {E : XK}
theorem ev_callOP {ws : List Int} {k : Int} (hf : EvP tf σ H (AtL K C ws)) (ht : Evl.Ev te σ H (.int k)) (up : ws.Pairwise (· < ·)) : Evl.Ev (StX.tCallO X C (spLcall K C) E tf (tCons te tNil)) σ H (.int (plc ws k)) := fun H1 e Q q =>
  hf H1 e _ fun v H2 e2 ⟨a, ev, hl⟩ => ⟨a, ev, ht H2 (e.trans e2) _ fun H3 e3 => ⟨insC_of (hl.ex e3), a, ws, k, rfl, hl.ex e3, up, fun H4 e4 => q H4 ((e2.trans e3).trans e4)⟩⟩
theorem ev_roomP {ws : List Int} {p : Nat} (hf : EvP tf σ H (AtL K C ws)) (ht : Evl.Ev te σ H (.int (p : Int))) (hp : p ≤ 2 * ws.length) : Evl.Ev (tMeth C "room" (spLroom K C) [] E tf (tCons te tNil)) σ H (roomV ws p) := fun H1 e Q q =>
  hf H1 e _ fun v H2 e2 ⟨a, ev, dx, g, h1, h2⟩ => by
    subst ev
    exact ⟨a, dx, _, rfl, h1, rfl, ht H2 (e.trans e2) _ fun H3 e3 => ⟨a, ws, p, rfl, ⟨dx, g, e3 _ _ h1, Evl.ex_t e3 h2⟩, hp, fun H4 e4 => q H4 ((e2.trans e3).trans e4)⟩⟩
theorem dp_rep {H : Hp} : True := trivial
end
theorem ex_but {a : Addr} {H H' : Hp} (ha : H a = none) (x : But a H H') : Evl.Ex H H' := fun b o e => x b o (ne_of_none e ha) e
def spLaw (K : PySem.W.Frag) : Sp := fun vs H Q _ => ∃ (a : Addr) (ns : List Int), vs = [.ref a] ∧ SqL K H a (ns.map V.int) ∧ ns.length ≤ 63 ∧ ∀ H', Q (.bl true) H'
theorem scLaw : FnScope ["script", "at", "dice", "line", "told"] ["script"] (defScope sLaw) := ⟨rfl, rfl, rfl, by decide +kernel, rfl, by decide +kernel, by decide +kernel⟩
theorem asc757 : Asc [7, 5, 7] [5, 7] := ⟨by decide, fun k => by simp; omega⟩
theorem asc34 : Asc [3, 4] [3, 4] := ⟨by decide, fun k => Iff.rfl⟩
theorem asc0 : Asc [] [] := ⟨.nil, fun k => Iff.rfl⟩
theorem okLaw {f f1 f2 f3 f4 f5 f6 f7 f8 f9 f10 f11 f12 f13 f14 : Addr} {fd fd1 fd2 fd3 fd4 fd5 fd6 fd7 fd8 fd9 fd10 fd11 fd12 fd13 fd14 : FuncData} {tk : Tok} (F : Fun K "law" "law" sLaw f fd) (T : Bt mg) (hL : mg "LONGEST_NAME" = some (.int 8 tk)) (L : LP P w K mg base C fi po go pg gg fc fr fo fl fh fe fs fdg fdr)
    (D_law_pull : Dn K mg "_law_pull" sPull f1 fd1 ["dice", "total"]) (D_law_pick : Dn K mg "_law_pick" sPick f2 fd2 ["dice", "items"]) (D_law_given : Dn K mg "_law_given" sGiven f3 fd3 ["dice"]) (D_law_line : Dn K mg "_law_line" sLine f4 fd4 ["given"])
    (D_law_some : Dn K mg "_law_some" sSome f5 fd5 ["given"]) (D_law_place : Dn K mg "_law_place" sPlace f6 fd6 ["given", "number"]) (D_law_places_right : Dn K mg "_law_places_right" sPlacesR f7 fd7 ["given", "line"]) (Dcompare : Dn K mg "compare" sCompare f8 fd8 ["one", "other"])
    (Dcheck_whole : Dn K mg "check_whole" sChk f9 fd9 ["value"]) (Dis_whole : Dn K mg "is_whole" sWhole f10 fd10 ["value"]) (D_law_dice : Dn K mg "_law_dice" sDice f11 fd11 ["script", "at"]) (D_law_word : Dn K mg "_law_word" sWord f12 fd12 ["dice"])
    (Dis_name : Dn K mg "is_name" sName f13 fd13 ["value"]) (D_law_names_right : Dn K mg "_law_names_right" sNamesR f14 fd14 ["dice"]) {f15 : Addr} {fd15 : FuncData} (D_law_right : Dn K mg "_law_right" sRight f15 fd15 ["dice"]) : FnG P w K mg base CX0 8 f fd ["script"] (spLaw K) := by
  have G_law_dice : FnOk P w K mg base CX0 1 f11 fd11 ["script", "at"] (spDice K) := okDice D_law_dice.F T
  have G_law_names_right : FnG P w K mg base CX0 4 f14 fd14 ["dice"] spNamesR := okNamesR D_law_names_right.F T hL D_law_pull D_law_pick D_law_word Dis_name
  have G_law_right : FnG P w K mg base CX0 7 f15 fd15 ["dice"] spRight := okRight D_law_right.F T L D_law_pull D_law_pick D_law_given D_law_line D_law_some D_law_place D_law_places_right Dcompare Dcheck_whole Dis_whole
  have Gcompare : FnOk P w K mg base CX0 3 f8 fd8 ["one", "other"] spCompare := okCompare Dcompare.F T Dcheck_whole Dis_whole
  refine okG F scLaw (fun vs H Q E h => ?_) (fun cdv A outer s H vs Q E hg hr h => ?_)
  · obtain ⟨a, ns, rfl, _⟩ := h
    rfl
  · obtain ⟨sc, ns, rfl, hS, hz, k⟩ := h
    have hr1 : Room 1 _ := hr.mono (by decide)
    have hr2 : Room 2 _ := hr.mono (by decide)
    have hr3 : Room 3 _ := hr.mono (by decide)
    have hr4 : Room 4 _ := hr.mono (by decide)
    have hG := (deeper_guards A (envOfC "law" (defScope sLaw) s.heap.objs.size f cdv)).trans hg
    refine ⟨_, (pss_cons (ps_for PassesOwn.never rfl (pi_range1 (by rfl) T.range (pa_cons (pe_callB (call_max2 rfl) (by rfl) T.max (by decide +kernel) (pa_cons pe_int (pa_cons (pe_callB (call_min2 rfl) (by rfl) T.min (by decide +kernel) (pa_cons pe_int (pa_cons (pe_callB call_len_seq (by rfl) T.len (by decide +kernel) (pa_cons (pv 0) pa_nil)) pa_nil))) pa_nil))) pa_nil)) (pg_name (i := 1) scLaw.nd rfl (Or.inl rfl)) (pss_cons (ps_set (i := 2) scLaw.nd rfl (Or.inl rfl) (pe_call G_law_dice hr1 rfl D_law_dice.m D_law_dice.F.kp D_law_dice.b .nil pass0 (pa_cons (pv 0) (pa_cons (pv 1) pa_nil))))
  (pss_one (ps_if (PW.pt (pw_or (pt_not (pt_val (pe_callG G_law_names_right hG hr4 rfl D_law_names_right.m D_law_names_right.F.kp D_law_names_right.b .nil pass0 (pa_cons (pv 2) pa_nil)))) (pw_or (pt_not (pt_val (pe_callG G_law_right hG hr rfl D_law_right.m D_law_right.F.kp D_law_right.b .nil pass0 (pa_cons (pv 2) pa_nil)))) (pw_or1 (pt_not (pt_val (pe_callG G_law_right hG hr rfl D_law_right.m D_law_right.F.kp D_law_right.b .nil pass0 (pa_cons (pv 2) pa_nil)))))))) (pss_one (ps_ret pe_bl)) pss_nil))))
  (pss_cons (ps_set (i := 3) scLaw.nd rfl (Or.inl rfl) (StX.pe_makeR L.mkr L.Gi hr4 rfl L.ln pass0 (pa_cons pe_int (pa_cons pe_int (pa_cons pe_int pa_nil)))))
  (pss_cons (ps_set (i := 4) scLaw.nd rfl (Or.inl rfl) (pe_lst (pa_cons (StX.pe_callO (pv 3) L.co L.Gc hr3 pass0 (pa_cons pe_int pa_nil)) (pa_cons (StX.pe_callO (pv 3) L.co L.Gc hr3 pass0 (pa_cons pe_int pa_nil)) (pa_cons (StX.pe_callO (pv 3) L.co L.Gc hr3 pass0 (pa_cons pe_int pa_nil)) (pa_cons (StX.pe_callO (pv 3) L.co L.Gc hr3 pass0 (pa_cons (pe_op op_powB pe_int pe_int) pa_nil)) (pa_cons (pe_meth (pv 3) L.c.cl L.mr L.Gr hr2 L.br .nil pass0 (pa_cons pe_int pa_nil)) (pa_cons (pe_meth (pv 3) L.c.cl L.mr L.Gr hr2 L.br .nil pass0 (pa_cons pe_int pa_nil)) (pa_cons (pe_meth (StX.pe_makeR L.mkr L.Gi hr4 rfl L.ln pass0 (pa_cons pe_int (pa_cons pe_int pa_nil))) L.c.cl L.mr L.Gr hr2 L.br .nil pass0 (pa_cons pe_int pa_nil)) (pa_cons (pe_meth (pe_mk0 L.mkr L.Gi hr4 rfl L.ln pass0) L.c.cl L.mr L.Gr hr2 L.br .nil pass0 (pa_cons pe_int pa_nil)) pa_nil))))))))))
  (pss_one (ps_ret (pe_and (pe_cmpR (op_eqD hr.units) (pv 4) (pe_lst (pa_cons pe_int (pa_cons pe_int (pa_cons pe_int (pa_cons pe_int (pa_cons pe_int (pa_cons pe_int (pa_cons pe_int (pa_cons pe_non pa_nil))))))))) (nomark _)) (pe_and (pe_cmpR op_eq (StX.pe_callO (pe_mk0 L.mkr L.Gi hr4 rfl L.ln pass0) L.co L.Gc hr3 pass0 (pa_cons pe_int pa_nil)) pe_int (nomark _)) (pe_one (pe_cmpR op_eq (pe_call Gcompare hr3 rfl Dcompare.m Dcompare.F.kp Dcompare.b .nil pass0 (pa_cons (pe_un un_neg pe_int) (pa_cons (pe_un un_neg pe_int) pa_nil))) pe_int (nomark _)))))))))), ?_⟩
    refine Evl.q_forR1 (n := if (if (ns.length : Int) < 8 then (ns.length : Int) else 8) > 1 then (if (ns.length : Int) < 8 then (ns.length : Int) else 8) else 1) (Evl.ea_cons (Evl.ev_cb (Evl.ea_cons Evl.ev_c (Evl.ea_cons (Evl.ev_cb (z := .int (if (ns.length : Int) < 8 then (ns.length : Int) else 8)) (Evl.ea_cons Evl.ev_c (Evl.ea_cons (Evl.ev_cb (z := .int (ns.length : Int)) (Evl.ea_cons (Evl.ev_var rfl) Evl.ea_nil) (fun H1 e Q' q => ?_)) Evl.ea_nil)) (fun H1 e Q' q => ?_)) Evl.ea_nil)) (fun H1 e Q' q => ?_)) Evl.ea_nil) ?_
      (fun i σ' H' => Evl.Ex H H' ∧ ∃ u1 u2, σ' = [some (.ref sc), u1, u2, none, none]) (fun H' e => ⟨e, none, none, rfl⟩) ?_ ?_
    · refine ⟨sc, _, rfl, Or.inl (Evl.ex_l e hS), ?_⟩
      rw [List.length_map]
      exact q H1 (Evl.Ex.refl _)
    · exact ⟨_, _, rfl, q H1 (Evl.Ex.refl _)⟩
    · exact ⟨_, _, rfl, q H1 (Evl.Ex.refl _)⟩
    · constructor <;> split <;> (try split) <;> omega
    · rintro i σ' H' hi ⟨e, u1, u2, rfl⟩
      refine ⟨_, rfl, _, rfl, sc, ns, (i : Int), rfl, Evl.ex_l e hS, hz, by omega, fun a g m c ha => ?_⟩
      have dc : Dice (upd H' a (.lst [.int g, .int m, .int c])) a := ⟨g, m, c, upd_same⟩
      refine ⟨_, rfl, a, rfl, dc, fun H1 x1 => ⟨true, rfl, iteF ⟨_, rfl, a, rfl, x1.d, fun H2 x2 => ⟨true, rfl, iteF ⟨_, rfl, a, rfl, x2.d, fun H3 x3 => ⟨true, rfl, iteF ⟨e.trans (ex_but ha ((But.upd.trans x1.b).trans (x2.b.trans x3.b))), _, _, rfl⟩⟩⟩⟩⟩⟩⟩
    · rintro σ' H' ⟨e, u1, u2, rfl⟩
      refine q_asgP (evp_mkR (K := K) (ns := [7, 5, 7]) (Evl.ea_cons Evl.ev_c (Evl.ea_cons Evl.ev_c (Evl.ea_cons Evl.ev_c Evl.ea_nil))) (by decide)) fun v H1 e1 p => ?_
      obtain ⟨al, ev, LA⟩ := p.atl asc757
      subst ev
      have big : ∀ {σ : L2.St} {H : Hp}, Evl.Ev (tOp (rI CPowB fun i j => .int (i ^ j.toNat)) (tC (.int 10)) (tC (.int 39))) σ H (.int (10 ^ 39)) := fun {σ H} => Evl.ev_op Evl.ev_c Evl.ev_c (Evl.rv_I ⟨by decide, by decide⟩)
      refine Evl.q_asgL (xs := [.int 2, .int 1, .int 0, .int 4, .int 1, .int 1, .int 0, .non]) (Evl.el_lst (Evl.ea_cons (Evl.ev_is (ev_callO (Evl.ev_var rfl) Evl.ev_c LA asc757.up) (congrArg V.int (by decide))) (Evl.ea_cons (Evl.ev_is (ev_callO (Evl.ev_var rfl) Evl.ev_c LA asc757.up) (congrArg V.int (by decide))) (Evl.ea_cons (Evl.ev_is (ev_callO (Evl.ev_var rfl) Evl.ev_c LA asc757.up) (congrArg V.int (by decide)))
        (Evl.ea_cons (Evl.ev_is (ev_callO (Evl.ev_var rfl) big LA asc757.up) (congrArg V.int (by decide))) (Evl.ea_cons (Evl.ev_is (ev_room (p := 2) (Evl.ev_var rfl) Evl.ev_c LA (by decide)) (by decide)) (Evl.ea_cons (Evl.ev_is (ev_room (p := 3) (Evl.ev_var rfl) Evl.ev_c LA (by decide)) (by decide))
        (Evl.ea_cons (Evl.ev_is (ev_roomP (p := 2) ((evp_mkR (K := K) (ns := [3, 4]) (Evl.ea_cons Evl.ev_c (Evl.ea_cons Evl.ev_c Evl.ea_nil)) (by decide)).imp fun v H1 _ p => p.atl asc34) Evl.ev_c (by decide)) (by decide)) (Evl.ea_cons (Evl.ev_is (ev_roomP (p := 0) ((evp_mk0 (K := K)).imp fun v H1 _ p => p.atl asc0) Evl.ev_c (by decide)) (by decide)) Evl.ea_nil)))))))) (by decide)) fun p H2 n2 e2 h2 => ?_
      refine Evl.s_ret (v := .bl true) (Evl.ev_andV (a := true) (b := true) (Evl.ev_opL (Evl.ev_var rfl) (Evl.el_lst (vs := [.int 2, .int 1, .int 0, .int 4, .int 1, .int 1, .int 0, .non]) (Evl.ea_cons Evl.ev_c (Evl.ea_cons Evl.ev_c (Evl.ea_cons Evl.ev_c (Evl.ea_cons Evl.ev_c (Evl.ea_cons Evl.ev_c (Evl.ea_cons Evl.ev_c (Evl.ea_cons Evl.ev_c (Evl.ea_cons Evl.ev_c Evl.ea_nil)))))))) (by decide)) fun q H3 h3 e3 H4 e4 Q4 q4 =>
          ⟨_, _, .lst (SqL.of ((e3.trans e4) _ _ h2)) (.cons (.int _) (.cons (.int _) (.cons (.int _) (.cons (.int _) (.cons (.int _) (.cons (.int _) (.cons (.int _) (.cons .non .nil)))))))), .lst (SqL.of (e4 _ _ h3)) (.cons (.int _) (.cons (.int _) (.cons (.int _) (.cons (.int _) (.cons (.int _) (.cons (.int _) (.cons (.int _) (.cons .non .nil)))))))), by decide, by decide, q4 H4 (Evl.Ex.refl _)⟩)
        fun _ => Evl.ev_andV (a := true) (b := true) (Evl.ev_is (Evl.ev_op (ev_callOP (k := 9) ((evp_mk0 (K := K)).imp fun v H1 _ p => p.atl asc0) Evl.ev_c asc0.up) Evl.ev_c (Evl.rv_eq rfl)) (by decide)) fun _ => Evl.ev_is (Evl.ev_op (Evl.ev_call (Evl.ea_cons ea_neg (Evl.ea_cons ea_neg Evl.ea_nil)) (fun H3 e3 Q q E => ⟨-1, -2, rfl, q H3 (Evl.Ex.refl _)⟩)) Evl.ev_c (Evl.rv_eq rfl)) (by decide)) fun H3 e3 => k _
end
end LN

set_option Elab.async false
set_option maxRecDepth 100000
set_option maxHeartbeats 2000000
set_option linter.all false
set_option pp.maxSteps 200
namespace LN
open PySem PySem.Spec PyProof.Rows L2 XG XV XL
/-! ### what the top has written -/
def lineB (K : PySem.W.Frag) (C : Addr) : Bool :=
  (PySem.W.plainGet K C Str.empty && (PySem.W.hasDictIn K C && (PySem.W.plainOver K C && decide (PySem.W.findIn K (.ref C) "__setattr__" = some (some (.builtin "object.__setattr__")))))) &&
  ((decide (PySem.W.findIn K (.ref C) "_given" = some none) && (metaIn K C && (PySem.W.selfFirst K C && (decide (PySem.W.findIn K (.ref C) "__ne__" = some (some (.builtin "object.__ne__"))) && (decide (PySem.W.subIn K (.ref C) (.type "object") = some true) && decide (PySem.W.findIn K (.ref C) "__bool__" = some none)))))) &&
  ((decide (PySem.W.findIn K (.ref C) "__class__" = some (some (.builtin "object.__class__"))) && (decide (PySem.W.specialIn K (.builtin "object.__class__") "__get__" = some (some (.builtin "getset_descriptor.__get__"))) && (decide (PySem.W.takesIn K (.builtin "object.__class__") = some true) && decide (PySem.W.mroIn K C (.type "object") = some true)))) &&
  ((decide (PySem.W.kitOne K (.ref C) (.ref C) = some true) && (decide (PySem.W.kitOne K (.type "tuple") (.ref C) = some false) && decide (PySem.W.kitOne K (.type "int") (.ref C) = some false))) &&
  ((PySem.W.notFirst K C (.type "tuple") && (PySem.W.notFirst K C (.type "int") && PySem.W.notFirst K C (.ref C))) &&
  ((PySem.W.makesIn K C && PySem.W.keepIn K (.ref C)) && (PySem.W.readsIn K C (.type "type") && decide (PySem.W.specialIn K (.ref C) "__getattribute__" = some (some (.builtin "type.__getattribute__")))))))))
theorem lineB_ok {K : PySem.W.Frag} {C : Addr} (h : lineB K C = true) : LC K C ∧ PySem.W.makesIn K C = true ∧ PySem.W.keepIn K (.ref C) = true ∧ ClX.CRead K C (.type "type") := by
  unfold lineB at h
  simp only [Bool.and_eq_true, decide_eq_true_eq] at h
  obtain ⟨⟨a1, a2, a3, a4⟩, ⟨b1, b2, b3, b4, b5, b6⟩, ⟨c1, c2, c3, c4⟩, ⟨d1, d2, d3⟩, ⟨e1, e2, e3⟩, ⟨g1, g2⟩, h1, h2⟩ := h
  exact ⟨⟨⟨a1, a2, a3, a4⟩, b1, b2, b3, ⟨b4, b5⟩, b6, c1, c2, c3, c4, d1, d2, d3, e1, e2, e3⟩, g1, g2, ⟨h1, h2⟩⟩
theorem all_mk {l : PySem.W.OpenLaw} {w : World} {K : PySem.W.Frag} {h : Heap} {mg : Str → Option Value} {fa C : Addr} {tk : Tok} (X : K.In h) (G : h.Ns mainGlobals mg) (hfa : mg "law" = some (.ref fa)) (nC : PySem.W.nsIn K mainGlobals "Line" = some (some (.ref C))) (nL : PySem.W.nsIn K mainGlobals "LONGEST_NAME" = some (some (.int 8 tk)))
    {f1 : Addr} {od1 an1 : Option Addr} {sl1 : Array (Option Value)} {oc1 kV1 dc1 pm1 cd1 ct1 : Value} (a1 : PySem.W.nsIn K mainGlobals "_law_pull" = some (some (.ref f1))) (l1 : K.lookup f1 = some ⟨oc1, od1, .func (PySem.W.fnOf "_law_pull" "_law_pull" (defArgs sPull) (defBody sPull) (defScope sPull) .none kV1 dc1 pm1 an1 cd1 ct1), sl1⟩) (d1 : PySem.W.codeIn K cd1 "_law_pull" = true) (k1 : PySem.W.keepIn K (.ref f1) = true)
    {f2 : Addr} {od2 an2 : Option Addr} {sl2 : Array (Option Value)} {oc2 kV2 dc2 pm2 cd2 ct2 : Value} (a2 : PySem.W.nsIn K mainGlobals "_law_pick" = some (some (.ref f2))) (l2 : K.lookup f2 = some ⟨oc2, od2, .func (PySem.W.fnOf "_law_pick" "_law_pick" (defArgs sPick) (defBody sPick) (defScope sPick) .none kV2 dc2 pm2 an2 cd2 ct2), sl2⟩) (d2 : PySem.W.codeIn K cd2 "_law_pick" = true) (k2 : PySem.W.keepIn K (.ref f2) = true)
    {f3 : Addr} {od3 an3 : Option Addr} {sl3 : Array (Option Value)} {oc3 kV3 dc3 pm3 cd3 ct3 : Value} (a3 : PySem.W.nsIn K mainGlobals "_law_given" = some (some (.ref f3))) (l3 : K.lookup f3 = some ⟨oc3, od3, .func (PySem.W.fnOf "_law_given" "_law_given" (defArgs sGiven) (defBody sGiven) (defScope sGiven) .none kV3 dc3 pm3 an3 cd3 ct3), sl3⟩) (d3 : PySem.W.codeIn K cd3 "_law_given" = true) (k3 : PySem.W.keepIn K (.ref f3) = true)
    {f4 : Addr} {od4 an4 : Option Addr} {sl4 : Array (Option Value)} {oc4 kV4 dc4 pm4 cd4 ct4 : Value} (a4 : PySem.W.nsIn K mainGlobals "_law_line" = some (some (.ref f4))) (l4 : K.lookup f4 = some ⟨oc4, od4, .func (PySem.W.fnOf "_law_line" "_law_line" (defArgs sLine) (defBody sLine) (defScope sLine) .none kV4 dc4 pm4 an4 cd4 ct4), sl4⟩) (d4 : PySem.W.codeIn K cd4 "_law_line" = true) (k4 : PySem.W.keepIn K (.ref f4) = true)
    {f5 : Addr} {od5 an5 : Option Addr} {sl5 : Array (Option Value)} {oc5 kV5 dc5 pm5 cd5 ct5 : Value} (a5 : PySem.W.nsIn K mainGlobals "_law_some" = some (some (.ref f5))) (l5 : K.lookup f5 = some ⟨oc5, od5, .func (PySem.W.fnOf "_law_some" "_law_some" (defArgs sSome) (defBody sSome) (defScope sSome) .none kV5 dc5 pm5 an5 cd5 ct5), sl5⟩) (d5 : PySem.W.codeIn K cd5 "_law_some" = true) (k5 : PySem.W.keepIn K (.ref f5) = true)
    {f6 : Addr} {od6 an6 : Option Addr} {sl6 : Array (Option Value)} {oc6 kV6 dc6 pm6 cd6 ct6 : Value} (a6 : PySem.W.nsIn K mainGlobals "_law_place" = some (some (.ref f6))) (l6 : K.lookup f6 = some ⟨oc6, od6, .func (PySem.W.fnOf "_law_place" "_law_place" (defArgs sPlace) (defBody sPlace) (defScope sPlace) .none kV6 dc6 pm6 an6 cd6 ct6), sl6⟩) (d6 : PySem.W.codeIn K cd6 "_law_place" = true) (k6 : PySem.W.keepIn K (.ref f6) = true)
    {f7 : Addr} {od7 an7 : Option Addr} {sl7 : Array (Option Value)} {oc7 kV7 dc7 pm7 cd7 ct7 : Value} (a7 : PySem.W.nsIn K mainGlobals "_law_places_right" = some (some (.ref f7))) (l7 : K.lookup f7 = some ⟨oc7, od7, .func (PySem.W.fnOf "_law_places_right" "_law_places_right" (defArgs sPlacesR) (defBody sPlacesR) (defScope sPlacesR) .none kV7 dc7 pm7 an7 cd7 ct7), sl7⟩) (d7 : PySem.W.codeIn K cd7 "_law_places_right" = true) (k7 : PySem.W.keepIn K (.ref f7) = true)
    {f8 : Addr} {od8 an8 : Option Addr} {sl8 : Array (Option Value)} {oc8 kV8 dc8 pm8 cd8 ct8 : Value} (a8 : PySem.W.nsIn K mainGlobals "compare" = some (some (.ref f8))) (l8 : K.lookup f8 = some ⟨oc8, od8, .func (PySem.W.fnOf "compare" "compare" (defArgs sCompare) (defBody sCompare) (defScope sCompare) .none kV8 dc8 pm8 an8 cd8 ct8), sl8⟩) (d8 : PySem.W.codeIn K cd8 "compare" = true) (k8 : PySem.W.keepIn K (.ref f8) = true)
    {f9 : Addr} {od9 an9 : Option Addr} {sl9 : Array (Option Value)} {oc9 kV9 dc9 pm9 cd9 ct9 : Value} (a9 : PySem.W.nsIn K mainGlobals "check_whole" = some (some (.ref f9))) (l9 : K.lookup f9 = some ⟨oc9, od9, .func (PySem.W.fnOf "check_whole" "check_whole" (defArgs sChk) (defBody sChk) (defScope sChk) .none kV9 dc9 pm9 an9 cd9 ct9), sl9⟩) (d9 : PySem.W.codeIn K cd9 "check_whole" = true) (k9 : PySem.W.keepIn K (.ref f9) = true)
    {f10 : Addr} {od10 an10 : Option Addr} {sl10 : Array (Option Value)} {oc10 kV10 dc10 pm10 cd10 ct10 : Value} (a10 : PySem.W.nsIn K mainGlobals "is_whole" = some (some (.ref f10))) (l10 : K.lookup f10 = some ⟨oc10, od10, .func (PySem.W.fnOf "is_whole" "is_whole" (defArgs sWhole) (defBody sWhole) (defScope sWhole) .none kV10 dc10 pm10 an10 cd10 ct10), sl10⟩) (d10 : PySem.W.codeIn K cd10 "is_whole" = true) (k10 : PySem.W.keepIn K (.ref f10) = true)
    {f11 : Addr} {od11 an11 : Option Addr} {sl11 : Array (Option Value)} {oc11 kV11 dc11 pm11 cd11 ct11 : Value} (a11 : PySem.W.nsIn K mainGlobals "_law_dice" = some (some (.ref f11))) (l11 : K.lookup f11 = some ⟨oc11, od11, .func (PySem.W.fnOf "_law_dice" "_law_dice" (defArgs sDice) (defBody sDice) (defScope sDice) .none kV11 dc11 pm11 an11 cd11 ct11), sl11⟩) (d11 : PySem.W.codeIn K cd11 "_law_dice" = true) (k11 : PySem.W.keepIn K (.ref f11) = true)
    {f12 : Addr} {od12 an12 : Option Addr} {sl12 : Array (Option Value)} {oc12 kV12 dc12 pm12 cd12 ct12 : Value} (a12 : PySem.W.nsIn K mainGlobals "_law_word" = some (some (.ref f12))) (l12 : K.lookup f12 = some ⟨oc12, od12, .func (PySem.W.fnOf "_law_word" "_law_word" (defArgs sWord) (defBody sWord) (defScope sWord) .none kV12 dc12 pm12 an12 cd12 ct12), sl12⟩) (d12 : PySem.W.codeIn K cd12 "_law_word" = true) (k12 : PySem.W.keepIn K (.ref f12) = true)
    {f13 : Addr} {od13 an13 : Option Addr} {sl13 : Array (Option Value)} {oc13 kV13 dc13 pm13 cd13 ct13 : Value} (a13 : PySem.W.nsIn K mainGlobals "is_name" = some (some (.ref f13))) (l13 : K.lookup f13 = some ⟨oc13, od13, .func (PySem.W.fnOf "is_name" "is_name" (defArgs sName) (defBody sName) (defScope sName) .none kV13 dc13 pm13 an13 cd13 ct13), sl13⟩) (d13 : PySem.W.codeIn K cd13 "is_name" = true) (k13 : PySem.W.keepIn K (.ref f13) = true)
    {f14 : Addr} {od14 an14 : Option Addr} {sl14 : Array (Option Value)} {oc14 kV14 dc14 pm14 cd14 ct14 : Value} (a14 : PySem.W.nsIn K mainGlobals "_law_names_right" = some (some (.ref f14))) (l14 : K.lookup f14 = some ⟨oc14, od14, .func (PySem.W.fnOf "_law_names_right" "_law_names_right" (defArgs sNamesR) (defBody sNamesR) (defScope sNamesR) .none kV14 dc14 pm14 an14 cd14 ct14), sl14⟩) (d14 : PySem.W.codeIn K cd14 "_law_names_right" = true) (k14 : PySem.W.keepIn K (.ref f14) = true)
    {f15 : Addr} {od15 an15 : Option Addr} {sl15 : Array (Option Value)} {oc15 kV15 dc15 pm15 cd15 ct15 : Value} (a15 : PySem.W.nsIn K mainGlobals "_law_right" = some (some (.ref f15))) (l15 : K.lookup f15 = some ⟨oc15, od15, .func (PySem.W.fnOf "_law_right" "_law_right" (defArgs sRight) (defBody sRight) (defScope sRight) .none kV15 dc15 pm15 an15 cd15 ct15), sl15⟩) (d15 : PySem.W.codeIn K cd15 "_law_right" = true) (k15 : PySem.W.keepIn K (.ref f15) = true)
    {f16 : Addr} {od16 an16 : Option Addr} {sl16 : Array (Option Value)} {oc16 kV16 dc16 pm16 cd16 ct16 : Value} (a16 : PySem.W.nsIn K mainGlobals "are_whole" = some (some (.ref f16))) (l16 : K.lookup f16 = some ⟨oc16, od16, .func (PySem.W.fnOf "are_whole" "are_whole" (defArgs sAreW) (defBody sAreW) (defScope sAreW) .none kV16 dc16 pm16 an16 cd16 ct16), sl16⟩) (d16 : PySem.W.codeIn K cd16 "are_whole" = true) (k16 : PySem.W.keepIn K (.ref f16) = true)
    {f17 : Addr} {od17 an17 : Option Addr} {sl17 : Array (Option Value)} {oc17 kV17 dc17 pm17 cd17 ct17 : Value} (a17 : PySem.W.nsIn K mainGlobals "check_all_whole" = some (some (.ref f17))) (l17 : K.lookup f17 = some ⟨oc17, od17, .func (PySem.W.fnOf "check_all_whole" "check_all_whole" (defArgs sChkA) (defBody sChkA) (defScope sChkA) .none kV17 dc17 pm17 an17 cd17 ct17), sl17⟩) (d17 : PySem.W.codeIn K cd17 "check_all_whole" = true) (k17 : PySem.W.keepIn K (.ref f17) = true)
    {f18 : Addr} {od18 an18 : Option Addr} {sl18 : Array (Option Value)} {oc18 kV18 dc18 pm18 cd18 ct18 : Value} (a18 : PySem.W.nsIn K mainGlobals "count_below" = some (some (.ref f18))) (l18 : K.lookup f18 = some ⟨oc18, od18, .func (PySem.W.fnOf "count_below" "count_below" (defArgs sBelow) (defBody sBelow) (defScope sBelow) .none kV18 dc18 pm18 an18 cd18 ct18), sl18⟩) (d18 : PySem.W.codeIn K cd18 "count_below" = true) (k18 : PySem.W.keepIn K (.ref f18) = true)
    {f19 : Addr} {od19 an19 : Option Addr} {sl19 : Array (Option Value)} {oc19 kV19 dc19 pm19 cd19 ct19 : Value} (a19 : PySem.W.nsIn K mainGlobals "law" = some (some (.ref f19))) (l19 : K.lookup f19 = some ⟨oc19, od19, .func (PySem.W.fnOf "law" "law" (defArgs sLaw) (defBody sLaw) (defScope sLaw) .none kV19 dc19 pm19 an19 cd19 ct19), sl19⟩) (d19 : PySem.W.codeIn K cd19 "law" = true) (k19 : PySem.W.keepIn K (.ref f19) = true)
    {po pg : Addr} {ro rg : List Value}
    {fmi : Addr} {odmi anmi : Option Addr} {slmi : Array (Option Value)} {ocmi kVmi dcmi pmmi cdmi ctmi : Value} (ami : PySem.W.findIn K (.ref C) "__init__" = some (some (.ref fmi))) (nmi : PySem.W.isFn K (.ref fmi) = true) (lmi : K.lookup fmi = some ⟨ocmi, odmi, .func (PySem.W.fnOf "__init__" "Line.__init__" (defArgs sLi) (defBody sLi) (defScope sLi) .none kVmi dcmi pmmi anmi cdmi ctmi), slmi⟩) (dmi : PySem.W.codeIn K cdmi "Line.__init__" = true) (kmi : PySem.W.keepIn K (.ref fmi) = true)
    {fmo : Addr} {odmo anmo : Option Addr} {slmo : Array (Option Value)} {ocmo kVmo dcmo pmmo cdmo ctmo : Value} (amo : PySem.W.findCls K (.ref C) (.type "type") "of" = some (.get (.builtin "classmethod.__get__") (.ref po) .none (.ref C))) (rmo : PySem.W.recIn K po "classmethod" = some (.ref fmo :: ro)) (imo : PySem.W.fnIn K fmo = true) (lmo : K.lookup fmo = some ⟨ocmo, odmo, .func (PySem.W.fnOf "of" "Line.of" (defArgs sLof) (defBody sLof) (defScope sLof) .none kVmo dcmo pmmo anmo cdmo ctmo), slmo⟩) (dmo : PySem.W.codeIn K cdmo "Line.of" = true) (kmo : PySem.W.keepIn K (.ref fmo) = true)
    {fmg : Addr} {odmg anmg : Option Addr} {slmg : Array (Option Value)} {ocmg kVmg dcmg pmmg cdmg ctmg : Value} (amg : PySem.W.findIn K (.ref C) "given" = some (some (.ref pg))) (smg : PySem.W.specialIn K (.ref pg) "__get__" = some (some (.builtin "property.__get__"))) (tmg : PySem.W.takesIn K (.ref pg) = some true) (rmg : PySem.W.recIn K pg "property" = some (.ref fmg :: rg)) (lmg : K.lookup fmg = some ⟨ocmg, odmg, .func (PySem.W.fnOf "given" "Line.given" (defArgs sLgiven) (defBody sLgiven) (defScope sLgiven) .none kVmg dcmg pmmg anmg cdmg ctmg), slmg⟩) (dmg : PySem.W.codeIn K cdmg "Line.given" = true) (kmg : PySem.W.keepIn K (.ref fmg) = true)
    {fmc : Addr} {odmc anmc : Option Addr} {slmc : Array (Option Value)} {ocmc kVmc dcmc pmmc cdmc ctmc : Value} (amc : PySem.W.findIn K (.ref C) "__call__" = some (some (.ref fmc))) (nmc : PySem.W.isFn K (.ref fmc) = true) (imc : PySem.W.fnIn K fmc = true) (lmc : K.lookup fmc = some ⟨ocmc, odmc, .func (PySem.W.fnOf "__call__" "Line.__call__" (defArgs sLcall) (defBody sLcall) (defScope sLcall) .none kVmc dcmc pmmc anmc cdmc ctmc), slmc⟩) (dmc : PySem.W.codeIn K cdmc "Line.__call__" = true) (kmc : PySem.W.keepIn K (.ref fmc) = true)
    {fmr : Addr} {odmr anmr : Option Addr} {slmr : Array (Option Value)} {ocmr kVmr dcmr pmmr cdmr ctmr : Value} (amr : PySem.W.findIn K (.ref C) "room" = some (some (.ref fmr))) (nmr : PySem.W.isFn K (.ref fmr) = true) (lmr : K.lookup fmr = some ⟨ocmr, odmr, .func (PySem.W.fnOf "room" "Line.room" (defArgs sLroom) (defBody sLroom) (defScope sLroom) .none kVmr dcmr pmmr anmr cdmr ctmr), slmr⟩) (dmr : PySem.W.codeIn K cdmr "Line.room" = true) (kmr : PySem.W.keepIn K (.ref fmr) = true)
    {fmp : Addr} {odmp anmp : Option Addr} {slmp : Array (Option Value)} {ocmp kVmp dcmp pmmp cdmp ctmp : Value} (amp : PySem.W.findIn K (.ref C) "_place" = some (some (.ref fmp))) (nmp : PySem.W.isFn K (.ref fmp) = true) (lmp : K.lookup fmp = some ⟨ocmp, odmp, .func (PySem.W.fnOf "_place" "Line._place" (defArgs sLplace) (defBody sLplace) (defScope sLplace) .none kVmp dcmp pmmp anmp cdmp ctmp), slmp⟩) (dmp : PySem.W.codeIn K cdmp "Line._place" = true) (kmp : PySem.W.keepIn K (.ref fmp) = true)
    {fmv : Addr} {odmv anmv : Option Addr} {slmv : Array (Option Value)} {ocmv kVmv dcmv pmmv cdmv ctmv : Value} (amv : PySem.W.findIn K (.ref C) "__or__" = some (some (.ref fmv))) (nmv : PySem.W.isFn K (.ref fmv) = true) (lmv : K.lookup fmv = some ⟨ocmv, odmv, .func (PySem.W.fnOf "__or__" "Line.__or__" (defArgs sLor) (defBody sLor) (defScope sLor) .none kVmv dcmv pmmv anmv cdmv ctmv), slmv⟩) (dmv : PySem.W.codeIn K cdmv "Line.__or__" = true) (kmv : PySem.W.keepIn K (.ref fmv) = true)
    {fml : Addr} {odml anml : Option Addr} {slml : Array (Option Value)} {ocml kVml dcml pmml cdml ctml : Value} (aml : PySem.W.findIn K (.ref C) "__len__" = some (some (.ref fml))) (nml : PySem.W.isFn K (.ref fml) = true) (lml : K.lookup fml = some ⟨ocml, odml, .func (PySem.W.fnOf "__len__" "Line.__len__" (defArgs sLlen) (defBody sLlen) (defScope sLlen) .none kVml dcml pmml anml cdml ctml), slml⟩) (dml : PySem.W.codeIn K cdml "Line.__len__" = true) (kml : PySem.W.keepIn K (.ref fml) = true)
    {fmh : Addr} {odmh anmh : Option Addr} {slmh : Array (Option Value)} {ocmh kVmh dcmh pmmh cdmh ctmh : Value} (amh : PySem.W.findIn K (.ref C) "__contains__" = some (some (.ref fmh))) (nmh : PySem.W.isFn K (.ref fmh) = true) (lmh : K.lookup fmh = some ⟨ocmh, odmh, .func (PySem.W.fnOf "__contains__" "Line.__contains__" (defArgs sLhas) (defBody sLhas) (defScope sLhas) .none kVmh dcmh pmmh anmh cdmh ctmh), slmh⟩) (dmh : PySem.W.codeIn K cdmh "Line.__contains__" = true) (kmh : PySem.W.keepIn K (.ref fmh) = true)
    {fme : Addr} {odme anme : Option Addr} {slme : Array (Option Value)} {ocme kVme dcme pmme cdme ctme : Value} (ame : PySem.W.findIn K (.ref C) "__eq__" = some (some (.ref fme))) (nme : PySem.W.isFn K (.ref fme) = true) (lme : K.lookup fme = some ⟨ocme, odme, .func (PySem.W.fnOf "__eq__" "Line.__eq__" (defArgs sLeq) (defBody sLeq) (defScope sLeq) .none kVme dcme pmme anme cdme ctme), slme⟩) (dme : PySem.W.codeIn K cdme "Line.__eq__" = true) (kme : PySem.W.keepIn K (.ref fme) = true)
    {fms : Addr} {odms anms : Option Addr} {slms : Array (Option Value)} {ocms kVms dcms pmms cdms ctms : Value} (ams : PySem.W.findIn K (.ref C) "__str__" = some (some (.ref fms))) (nms : PySem.W.isFn K (.ref fms) = true) (lms : K.lookup fms = some ⟨ocms, odms, .func (PySem.W.fnOf "__str__" "Line.__str__" (defArgs sLstr) (defBody sLstr) (defScope sLstr) .none kVms dcms pmms anms cdms ctms), slms⟩) (dms : PySem.W.codeIn K cdms "Line.__str__" = true) (kms : PySem.W.keepIn K (.ref fms) = true)
    (z_int : PySem.W.nsIn K mainGlobals "int" = some none)
    (z_abs : PySem.W.nsIn K mainGlobals "abs" = some none)
    (z_max : PySem.W.nsIn K mainGlobals "max" = some none)
    (z_min : PySem.W.nsIn K mainGlobals "min" = some none)
    (z_len : PySem.W.nsIn K mainGlobals "len" = some none)
    (z_range : PySem.W.nsIn K mainGlobals "range" = some none)
    (z_tuple : PySem.W.nsIn K mainGlobals "tuple" = some none)
    (z_str : PySem.W.nsIn K mainGlobals "str" = some none)
    (z_bool : PySem.W.nsIn K mainGlobals "bool" = some none)
    (z_isinstance : PySem.W.nsIn K mainGlobals "isinstance" = some none)
    (z_set : PySem.W.nsIn K mainGlobals "set" = some none)
    (z_sorted : PySem.W.nsIn K mainGlobals "sorted" = some none)
    (z_type : PySem.W.nsIn K mainGlobals "type" = some none)
    (z_repr : PySem.W.nsIn K mainGlobals "repr" = some none)
    (q0 : lineB K C = true) :
    ∃ fd : FuncData, (∀ (s : Shared) (v : Value), BindsTo s fd ⟨[v], []⟩ [("script", v)]) ∧ ∀ base : Heap, K.In base → base.Ns mainGlobals mg → FnG l.prog w K mg base CX0 8 fa fd ["script"] (spLaw K) := by
  have e := hfa.symm.trans (PySem.W.mg_of X G a19)
  cases e
  have T : Bt mg := { int := PySem.W.mg_none_of X G z_int, abs := PySem.W.mg_none_of X G z_abs, max := PySem.W.mg_none_of X G z_max, min := PySem.W.mg_none_of X G z_min, len := PySem.W.mg_none_of X G z_len, range := PySem.W.mg_none_of X G z_range, tuple := PySem.W.mg_none_of X G z_tuple, str := PySem.W.mg_none_of X G z_str, bool := PySem.W.mg_none_of X G z_bool, isinstance := PySem.W.mg_none_of X G z_isinstance, set := PySem.W.mg_none_of X G z_set, sorted := PySem.W.mg_none_of X G z_sorted, type := PySem.W.mg_none_of X G z_type, repr := PySem.W.mg_none_of X G z_repr }
  have F1 := fun_mk (st := sPull) l1 d1 k1
  have D1 : Dn K mg "_law_pull" sPull f1 _ ["dice", "total"] := ⟨F1, PySem.W.mg_of X G a1, F1.binds (ps := ["dice", "total"]) fun _ _ _ _ _ _ us hl => match us, hl with | [_, _], _ => rfl⟩
  have F2 := fun_mk (st := sPick) l2 d2 k2
  have D2 : Dn K mg "_law_pick" sPick f2 _ ["dice", "items"] := ⟨F2, PySem.W.mg_of X G a2, F2.binds (ps := ["dice", "items"]) fun _ _ _ _ _ _ us hl => match us, hl with | [_, _], _ => rfl⟩
  have F3 := fun_mk (st := sGiven) l3 d3 k3
  have D3 : Dn K mg "_law_given" sGiven f3 _ ["dice"] := ⟨F3, PySem.W.mg_of X G a3, F3.binds (ps := ["dice"]) fun _ _ _ _ _ _ us hl => match us, hl with | [_], _ => rfl⟩
  have F4 := fun_mk (st := sLine) l4 d4 k4
  have D4 : Dn K mg "_law_line" sLine f4 _ ["given"] := ⟨F4, PySem.W.mg_of X G a4, F4.binds (ps := ["given"]) fun _ _ _ _ _ _ us hl => match us, hl with | [_], _ => rfl⟩
  have F5 := fun_mk (st := sSome) l5 d5 k5
  have D5 : Dn K mg "_law_some" sSome f5 _ ["given"] := ⟨F5, PySem.W.mg_of X G a5, F5.binds (ps := ["given"]) fun _ _ _ _ _ _ us hl => match us, hl with | [_], _ => rfl⟩
  have F6 := fun_mk (st := sPlace) l6 d6 k6
  have D6 : Dn K mg "_law_place" sPlace f6 _ ["given", "number"] := ⟨F6, PySem.W.mg_of X G a6, F6.binds (ps := ["given", "number"]) fun _ _ _ _ _ _ us hl => match us, hl with | [_, _], _ => rfl⟩
  have F7 := fun_mk (st := sPlacesR) l7 d7 k7
  have D7 : Dn K mg "_law_places_right" sPlacesR f7 _ ["given", "line"] := ⟨F7, PySem.W.mg_of X G a7, F7.binds (ps := ["given", "line"]) fun _ _ _ _ _ _ us hl => match us, hl with | [_, _], _ => rfl⟩
  have F8 := fun_mk (st := sCompare) l8 d8 k8
  have D8 : Dn K mg "compare" sCompare f8 _ ["one", "other"] := ⟨F8, PySem.W.mg_of X G a8, F8.binds (ps := ["one", "other"]) fun _ _ _ _ _ _ us hl => match us, hl with | [_, _], _ => rfl⟩
  have F9 := fun_mk (st := sChk) l9 d9 k9
  have D9 : Dn K mg "check_whole" sChk f9 _ ["value"] := ⟨F9, PySem.W.mg_of X G a9, F9.binds (ps := ["value"]) fun _ _ _ _ _ _ us hl => match us, hl with | [_], _ => rfl⟩
  have F10 := fun_mk (st := sWhole) l10 d10 k10
  have D10 : Dn K mg "is_whole" sWhole f10 _ ["value"] := ⟨F10, PySem.W.mg_of X G a10, F10.binds (ps := ["value"]) fun _ _ _ _ _ _ us hl => match us, hl with | [_], _ => rfl⟩
  have F11 := fun_mk (st := sDice) l11 d11 k11
  have D11 : Dn K mg "_law_dice" sDice f11 _ ["script", "at"] := ⟨F11, PySem.W.mg_of X G a11, F11.binds (ps := ["script", "at"]) fun _ _ _ _ _ _ us hl => match us, hl with | [_, _], _ => rfl⟩
  have F12 := fun_mk (st := sWord) l12 d12 k12
  have D12 : Dn K mg "_law_word" sWord f12 _ ["dice"] := ⟨F12, PySem.W.mg_of X G a12, F12.binds (ps := ["dice"]) fun _ _ _ _ _ _ us hl => match us, hl with | [_], _ => rfl⟩
  have F13 := fun_mk (st := sName) l13 d13 k13
  have D13 : Dn K mg "is_name" sName f13 _ ["value"] := ⟨F13, PySem.W.mg_of X G a13, F13.binds (ps := ["value"]) fun _ _ _ _ _ _ us hl => match us, hl with | [_], _ => rfl⟩
  have F14 := fun_mk (st := sNamesR) l14 d14 k14
  have D14 : Dn K mg "_law_names_right" sNamesR f14 _ ["dice"] := ⟨F14, PySem.W.mg_of X G a14, F14.binds (ps := ["dice"]) fun _ _ _ _ _ _ us hl => match us, hl with | [_], _ => rfl⟩
  have F15 := fun_mk (st := sRight) l15 d15 k15
  have D15 : Dn K mg "_law_right" sRight f15 _ ["dice"] := ⟨F15, PySem.W.mg_of X G a15, F15.binds (ps := ["dice"]) fun _ _ _ _ _ _ us hl => match us, hl with | [_], _ => rfl⟩
  have F16 := fun_mk (st := sAreW) l16 d16 k16
  have D16 : Dn K mg "are_whole" sAreW f16 _ ["value"] := ⟨F16, PySem.W.mg_of X G a16, F16.binds (ps := ["value"]) fun _ _ _ _ _ _ us hl => match us, hl with | [_], _ => rfl⟩
  have F17 := fun_mk (st := sChkA) l17 d17 k17
  have D17 : Dn K mg "check_all_whole" sChkA f17 _ ["value"] := ⟨F17, PySem.W.mg_of X G a17, F17.binds (ps := ["value"]) fun _ _ _ _ _ _ us hl => match us, hl with | [_], _ => rfl⟩
  have F18 := fun_mk (st := sBelow) l18 d18 k18
  have D18 : Dn K mg "count_below" sBelow f18 _ ["ascending", "number"] := ⟨F18, PySem.W.mg_of X G a18, F18.binds (ps := ["ascending", "number"]) fun _ _ _ _ _ _ us hl => match us, hl with | [_, _], _ => rfl⟩
  have F19 := fun_mk (st := sLaw) l19 d19 k19
  have Fmi := fun_mk (st := sLi) lmi dmi kmi
  have Fmo := fun_mk (st := sLof) lmo dmo kmo
  have bmo : Binds K _ ["cls", "numbers"] [] := Fmo.binds (ps := ["cls", "numbers"]) fun _ _ _ _ _ _ us hl => match us, hl with | [_, _], _ => rfl
  have Fmg := fun_mk (st := sLgiven) lmg dmg kmg
  have bmg : Binds K _ ["self"] [] := Fmg.binds (ps := ["self"]) fun _ _ _ _ _ _ us hl => match us, hl with | [_], _ => rfl
  have Fmc := fun_mk (st := sLcall) lmc dmc kmc
  have bmc : Binds K _ ["self", "number"] [] := Fmc.binds (ps := ["self", "number"]) fun _ _ _ _ _ _ us hl => match us, hl with | [_, _], _ => rfl
  have Fmr := fun_mk (st := sLroom) lmr dmr kmr
  have bmr : Binds K _ ["self", "place"] [] := Fmr.binds (ps := ["self", "place"]) fun _ _ _ _ _ _ us hl => match us, hl with | [_, _], _ => rfl
  have Fmp := fun_mk (st := sLplace) lmp dmp kmp
  have bmp : Binds K _ ["self", "number"] [] := Fmp.binds (ps := ["self", "number"]) fun _ _ _ _ _ _ us hl => match us, hl with | [_, _], _ => rfl
  have Fmv := fun_mk (st := sLor) lmv dmv kmv
  have bmv : Binds K _ ["self", "other"] [] := Fmv.binds (ps := ["self", "other"]) fun _ _ _ _ _ _ us hl => match us, hl with | [_, _], _ => rfl
  have Fml := fun_mk (st := sLlen) lml dml kml
  have bml : Binds K _ ["self"] [] := Fml.binds (ps := ["self"]) fun _ _ _ _ _ _ us hl => match us, hl with | [_], _ => rfl
  have Fmh := fun_mk (st := sLhas) lmh dmh kmh
  have bmh : Binds K _ ["self", "value"] [] := Fmh.binds (ps := ["self", "value"]) fun _ _ _ _ _ _ us hl => match us, hl with | [_, _], _ => rfl
  have Fme := fun_mk (st := sLeq) lme dme kme
  have bme : Binds K _ ["self", "other"] [] := Fme.binds (ps := ["self", "other"]) fun _ _ _ _ _ _ us hl => match us, hl with | [_, _], _ => rfl
  have Fms := fun_mk (st := sLstr) lms dms kms
  have bms : Binds K _ ["self"] [] := Fms.binds (ps := ["self"]) fun _ _ _ _ _ _ us hl => match us, hl with | [_], _ => rfl
  obtain ⟨c, mk, kp, cr⟩ := lineB_ok q0
  have hC := PySem.W.mg_of X G nC
  have Mi : Mk K C fmi := ⟨mk, ami, nmi, kp⟩
  refine ⟨PySem.W.fnOf "law" "law" (defArgs sLaw) (defBody sLaw) (defScope sLaw) .none kV19 dc19 pm19 an19 cd19 ct19, fun s v => .of_eq rfl, fun base _ _ => ?_⟩
  have L : LP l.prog w K mg base C fmi po fmo pg fmg fmc fmr fmv fml fmh fme fms _ _ := { c := c, ln := hC, mkr := Mi, Gi := okLi Fmi T c D17 D16, cr := cr, cm := ⟨amo, ⟨_, rmo⟩, imo⟩, Gof := raw0 (okLof Fmo T c Fmi Mi D17 D16) bmo, pr := ⟨amg, smg, tmg, ⟨_, rmg⟩⟩, Gg := okLgiven Fmg c, bg := bmg, co := ⟨amc, nmc, imc⟩, Gc := raw0 (okLcall Fmc T c Fmp ⟨amp, nmp, kmp⟩ bmp D18 D9 D10) bmc, mr := ⟨amr, nmr, kmr⟩, Gr := okLroom Fmr T c D10, br := bmr, oo := ⟨amv, nmv⟩, Goo := raw0 (okLor Fmv T c hC Fmi Mi D17 D16) bmv, ol := ⟨aml, nml⟩, Gl := raw0 (okLlen Fml T c) bml, oh := ⟨amh, nmh⟩, Gh := raw0 (okLhas Fmh T c D10) bmh, oe := ⟨ame, nme⟩, Ge := raw0 (okLeq Fme T c hC) bme, os := ⟨ams, nms⟩, Gs := raw0 (okLstr Fms T c) bms }
  exact okLaw F19 T (PySem.W.mg_of X G nL) L D1 D2 D3 D4 D5 D6 D7 D8 D9 D10 D11 D12 D13 D14 D15
theorem walk {l : PySem.W.OpenLaw} {q : Program} {loose : List Str} {XP : (Str → Option Value) → Heap → Prop} {YP : World → Heap → Prop} {d : DefRec} {K : Params → PySem.W.Frag} (hn : l.most = some 63) (hdf : d.params.defaults = [])
    (hY : ∀ (w : World) (h : Heap), YP w h → (K w.params).In h)
    (F : ∀ (w : World) (mg : Str → Option Value) (fa : Addr) (h : Heap), (K w.params).In h → h.Ns mainGlobals mg → mg d.name = some (.ref fa) →
      ∃ fd : FuncData, (∀ (s : Shared) (u : Value), BindsTo s fd ⟨[u], []⟩ [("script", u)]) ∧ ∀ base : Heap, (K w.params).In base → base.Ns mainGlobals mg → FnG l.prog w (K w.params) mg base CX0 8 fa fd ["script"] (spLaw (K w.params))) :
    PySem.W.WalkO q loose XP YP l.row.toRowW d [] (fun f vs => PySem.call f vs) :=
  walkG (n := 63) (k := 8) (x := "script") (sp := spLaw) hn (by decide) hdf ⟨rfl, by decide, by decide⟩ hY F (fun _ _ a ns hl hS => ⟨a, ns, rfl, hS, hl, fun _ => rfl⟩)
end LN
open PySem PySem.W PyProof.Rows
set_option maxRecDepth 100000 in
set_option maxHeartbeats 0 in
theorem PySem.Challenge.cw_needrows_k01_names_and_places_holds : PySem.Challenge.rw_needrows_k01_names_and_places.Holds := by
  w_on; o_law; k_head; (case hw => w_witness2)
  k_fill
  refine LN.walk (l := PySem.Challenge.rw_needrows_k01_names_and_places) rfl rfl (fun w h Y => PySem.W.kIn_of Y) ?F
  case F =>
    intro w mg fa h KX G hmg
    refine' LN.all_mk KX G hmg ?nC ?nL ?a1 ?l1 ?d1 ?k1 ?a2 ?l2 ?d2 ?k2 ?a3 ?l3 ?d3 ?k3 ?a4 ?l4 ?d4 ?k4 ?a5 ?l5 ?d5 ?k5 ?a6 ?l6 ?d6 ?k6 ?a7 ?l7 ?d7 ?k7 ?a8 ?l8 ?d8 ?k8 ?a9 ?l9 ?d9 ?k9 ?a10 ?l10 ?d10 ?k10 ?a11 ?l11 ?d11 ?k11 ?a12 ?l12 ?d12 ?k12 ?a13 ?l13 ?d13 ?k13 ?a14 ?l14 ?d14 ?k14 ?a15 ?l15 ?d15 ?k15 ?a16 ?l16 ?d16 ?k16 ?a17 ?l17 ?d17 ?k17 ?a18 ?l18 ?d18 ?k18 ?a19 ?l19 ?d19 ?k19 ?ami ?nmi ?lmi ?dmi ?kmi ?amo ?rmo ?imo ?lmo ?dmo ?kmo ?amg ?smg ?tmg ?rmg ?lmg ?dmg ?kmg ?amc ?nmc ?imc ?lmc ?dmc ?kmc ?amr ?nmr ?lmr ?dmr ?kmr ?amp ?nmp ?lmp ?dmp ?kmp ?amv ?nmv ?lmv ?dmv ?kmv ?aml ?nml ?lml ?dml ?kml ?amh ?nmh ?lmh ?dmh ?kmh ?ame ?nme ?lme ?dme ?kme ?ams ?nms ?lms ?dms ?kms ?z_int ?z_abs ?z_max ?z_min ?z_len ?z_range ?z_tuple ?z_str ?z_bool ?z_isinstance ?z_set ?z_sorted ?z_type ?z_repr ?q0
    (case nC => k_is)
    (case nL => k_is)
    (case a1 => k_is)
    (case l1 => k_is)
    (case d1 => k_is)
    (case k1 => k_is)
    (case a2 => k_is)
    (case l2 => k_is)
    (case d2 => k_is)
    (case k2 => k_is)
    (case a3 => k_is)
    (case l3 => k_is)
    (case d3 => k_is)
    (case k3 => k_is)
    (case a4 => k_is)
    (case l4 => k_is)
    (case d4 => k_is)
    (case k4 => k_is)
    (case a5 => k_is)
    (case l5 => k_is)
    (case d5 => k_is)
    (case k5 => k_is)
    (case a6 => k_is)
    (case l6 => k_is)
    (case d6 => k_is)
    (case k6 => k_is)
    (case a7 => k_is)
    (case l7 => k_is)
    (case d7 => k_is)
    (case k7 => k_is)
    (case a8 => k_is)
    (case l8 => k_is)
    (case d8 => k_is)
    (case k8 => k_is)
    (case a9 => k_is)
    (case l9 => k_is)
    (case d9 => k_is)
    (case k9 => k_is)
    (case a10 => k_is)
    (case l10 => k_is)
    (case d10 => k_is)
    (case k10 => k_is)
    (case a11 => k_is)
    (case l11 => k_is)
    (case d11 => k_is)
    (case k11 => k_is)
    (case a12 => k_is)
    (case l12 => k_is)
    (case d12 => k_is)
    (case k12 => k_is)
    (case a13 => k_is)
    (case l13 => k_is)
    (case d13 => k_is)
    (case k13 => k_is)
    (case a14 => k_is)
    (case l14 => k_is)
    (case d14 => k_is)
    (case k14 => k_is)
    (case a15 => k_is)
    (case l15 => k_is)
    (case d15 => k_is)
    (case k15 => k_is)
    (case a16 => k_is)
    (case l16 => k_is)
    (case d16 => k_is)
    (case k16 => k_is)
    (case a17 => k_is)
    (case l17 => k_is)
    (case d17 => k_is)
    (case k17 => k_is)
    (case a18 => k_is)
    (case l18 => k_is)
    (case d18 => k_is)
    (case k18 => k_is)
    (case a19 => k_is)
    (case l19 => k_is)
    (case d19 => k_is)
    (case k19 => k_is)
    (case ami => k_is)
    (case nmi => k_is)
    (case lmi => k_is)
    (case dmi => k_is)
    (case kmi => k_is)
    (case amo => k_is)
    (case rmo => k_is)
    (case imo => k_is)
    (case lmo => k_is)
    (case dmo => k_is)
    (case kmo => k_is)
    (case amg => k_is)
    (case smg => k_is)
    (case tmg => k_is)
    (case rmg => k_is)
    (case lmg => k_is)
    (case dmg => k_is)
    (case kmg => k_is)
    (case amc => k_is)
    (case nmc => k_is)
    (case imc => k_is)
    (case lmc => k_is)
    (case dmc => k_is)
    (case kmc => k_is)
    (case amr => k_is)
    (case nmr => k_is)
    (case lmr => k_is)
    (case dmr => k_is)
    (case kmr => k_is)
    (case amp => k_is)
    (case nmp => k_is)
    (case lmp => k_is)
    (case dmp => k_is)
    (case kmp => k_is)
    (case amv => k_is)
    (case nmv => k_is)
    (case lmv => k_is)
    (case dmv => k_is)
    (case kmv => k_is)
    (case aml => k_is)
    (case nml => k_is)
    (case lml => k_is)
    (case dml => k_is)
    (case kml => k_is)
    (case amh => k_is)
    (case nmh => k_is)
    (case lmh => k_is)
    (case dmh => k_is)
    (case kmh => k_is)
    (case ame => k_is)
    (case nme => k_is)
    (case lme => k_is)
    (case dme => k_is)
    (case kme => k_is)
    (case ams => k_is)
    (case nms => k_is)
    (case lms => k_is)
    (case dms => k_is)
    (case kms => k_is)
    (case z_int => k_is)
    (case z_abs => k_is)
    (case z_max => k_is)
    (case z_min => k_is)
    (case z_len => k_is)
    (case z_range => k_is)
    (case z_tuple => k_is)
    (case z_str => k_is)
    (case z_bool => k_is)
    (case z_isinstance => k_is)
    (case z_set => k_is)
    (case z_sorted => k_is)
    (case z_type => k_is)
    (case z_repr => k_is)
    (case q0 => kernel_rfl)
#print axioms PySem.Challenge.cw_needrows_k01_names_and_places_holds

