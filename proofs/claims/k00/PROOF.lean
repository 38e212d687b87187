import PyProof.Rows.All
import Wide.All
import OpenK.AllK
import Wide.FinOn
import HandS.ForMost
import HandS.Evl
import HandS.Wide
import PyProof.ReprRoads
import PyProof.Rows.RuleB_pow
import HandS.Exc
import KE.KExcInit
import PyProof.ExcBaseAll.LookupError
import PyProof.ExcBaseAll.IndexError
import PyProof.ExcBaseAll.OverflowError
import PyProof.StrLawsRepr
import HandS.ExcInit
import HandS.ExcValue
import HandS.ExcIs
import HandS.IsInst
import PyProof.StrBlock2
import PySem.Challenge.RW_needrows_k00_errors
set_option Elab.async false
set_option maxRecDepth 100000
set_option maxHeartbeats 2000000
set_option linter.all false
/-! Calls where no repr runs around (guards), repr of whole data, powers of great numbers. -/
namespace XG
open PySem PySem.Spec PyProof.Rows L2

/-- what a def promises where no guard stands around its call -/
structure FnG (P : Program) (w : World) (K : PySem.W.Frag) (mg : Str → Option Value) (base : Heap) (CX : CXT) (k : Nat) (f : Addr) (fd : FuncData) (ps : List Str) (sp : Sp) : Prop where
  len : ∀ vs H Q E, sp vs H Q E → vs.length = ps.length
  run : ∀ (A : Around) (outer : List Env) (s : Shared) (H : Hp) (args : Args) (us : List Value) (vs : List V) (Q : VK) (E : XK), A.guards = some [] → Room k A → Env0 P w K mg base A outer s H →
    BindsTo s fd args (ps.zip us) → Vals vs us → sp vs H Q E → codeAny (model P w) A (.call (.ref f) args) (CR CX outer P w H s Q E) s
theorem FnG.of {P : Program} {w : World} {K : PySem.W.Frag} {mg : Str → Option Value} {base : Heap} {CX : CXT} {k : Nat} {f : Addr} {fd : FuncData} {ps : List Str} {sp : Sp} (F : FnOk P w K mg base CX k f fd ps sp) : FnG P w K mg base CX k f fd ps sp :=
  ⟨F.len, fun A outer s H args us vs Q E _ hr e0 hb r h => F.run A outer s H args us vs Q E hr e0 hb r h⟩
theorem deeper_guards (A : Around) (env : Env) : (A.deeper env).guards = A.guards := by
  cases A; rfl

section
variable {P : Program} {w : World} {K : PySem.W.Frag} {mg : Str → Option Value} {base : Heap}
theorem okG {x qual : Str} {st : Stmt} {f : Addr} {fd : FuncData} {N ps : List Str} {k : Nat} {sp : Sp} (F : Fun K x qual st f fd) (S : FnScope N ps (defScope st)) (len : ∀ vs H Q E, sp vs H Q E → vs.length = ps.length)
    (hb : ∀ (cdv : Value) (A : Around) (outer : List Env) (s : Shared) (H : Hp) (vs : List V) (Q : VK) (E : XK), A.guards = some [] → Room k (A.deeper (envOfC qual (defScope st) s.heap.objs.size f cdv)) → sp vs H Q E →
      ∃ t, PSs (cxOf CX0 P w K mg base N qual (defScope st) f cdv A outer s H E).nox (defBody st) t ∧ t { nx := fun _ H' => Q .non H', rt := Q } (start N vs) H) : FnG P w K mg base CX0 (k + 1) f fd ps sp := by
  obtain ⟨oc, od, kV, doc, pm, an, cdv, ct, osl, rfl, lk, hcd⟩ := F.ex
  refine ⟨len, fun A outer s H args us vs Q E hg hr e0 hbd r hsp => ?_⟩
  have KX : K.In s.heap := e0.mod.kin.keeps fun b o e => (e0.bs b o e).1
  have lim : s.heap.NoLimit := e0.mod.nolimit.keeps fun b o e => (e0.bs b o e).1
  have hkd : ∀ y ∈ ps.zip us, (defScope st).names.lookup y.1 = some .local ∨ ((defScope st).names.lookup y.1 = some .cell ∧ ((cellsFrom (s.heap.objs.size + 1) (defScope st).names []).lookup y.1).isSome = true) := by
    rintro ⟨n, v⟩ hy
    cases S.par n (List.of_mem_zip hy).1 with
    | inl q => exact Or.inl q
    | inr q => exact Or.inr ⟨q, PySem.W.cellsFrom_some _ _ _ (Or.inl q)⟩
  refine codeAny_call_function hr.depth (KX _ _ lk) rfl S.co S.gen rfl (PySem.W.codeRec_of KX hcd) (hbd _ _ _ _ ?_)
  refine wpAny_newFunctionEnv_cells S.kind hkd fun env he s1 x => ?_
  subst he
  refine ⟨lim.keeps x.toInCall.keep, codeAny_func ?_⟩
  obtain ⟨t, ht, hq⟩ := hb cdv A outer s H vs Q E hg (hr.deeper _) hsp
  have I := inv_start (CX := CX0) (E := E) (w := w) (qual := qual) (cd := cdv) S hr.hd e0 (len _ _ _ _ hsp) r x
  refine wpAny_mono (ht.nox.run [] s1 (start N vs) H _ I hq) (fun fl s' hs => ?_) fun _ _ z => z
  cases fl with
  | ret u =>
    obtain ⟨v, σ', H', J, rv, q⟩ := hs
    exact ⟨v, H', J.os, J.bare, J.base, J.hok, rv, q⟩
  | next =>
    obtain ⟨σ', H', J, q⟩ := hs
    exact ⟨V.non, H', J.os, J.bare, J.base, J.hok, rfl, q⟩
  | brk => exact (hs.choose_spec.choose_spec.2 : False).elim
  | cont => exact (hs.choose_spec.choose_spec.2 : False).elim
end

section
variable {X : Cx} {CX : CXT} {k : Nat} {f : Addr} {fd : FuncData} {ps : List Str} {sp : Sp} {dvs : List V} {ds : List Value} {E : XK} {x : Str} {p pos : Pos} {e : Expr} {es : List Expr} {ta : TE} {t : TA}
theorem run_fnG {pins : List (Addr × Obj)} {σ : L2.St} {H : Hp} {s : Shared} {Q : VK} {us : List Value} {vs : List V} (F : FnG X.prog X.w X.K X.mg X.base CX k f fd ps sp) (hG : X.A.guards = some []) (hr : Room k X.A) (hb : Binds X.K fd ps ds) (hd : Vals dvs ds) (hx : Passes CX X E)
    (I : Inv X pins σ H s) (r : Vals vs us) (h : sp (vs ++ dvs) H Q E) : wpAny (model X.prog X.w) X.A (call (.ref f) us) (EP X pins σ Q) X.xe s := by
  have r2 := r.append hd
  have hl : (us ++ ds).length = ps.length := r2.length ▸ F.len _ _ _ _ h
  refine wpAny_call (codeAny_mono (F.run X.A X.stack s H ⟨us, []⟩ (us ++ ds) (vs ++ dvs) Q E hG hr I.env0 (hb s us I.kIn hl) r2 h) fun r s' hq => ?_)
  cases r with
  | error e => exact hx pins σ H s e s' I hq
  | ok fl =>
    cases fl with
    | ret u => exact I.after hq
    | next => exact (hq : False).elim
    | brk => exact (hq : False).elim
    | cont => exact (hq : False).elim
theorem pe_callG (F : FnG X.prog X.w X.K X.mg X.base CX k f fd ps sp) (hG : X.A.guards = some []) (hr : Room k X.A) (hg : Gl X x) (hm : X.mg x = some (.ref f)) (hk : PySem.W.keepIn X.K (.ref f) = true) (hb : Binds X.K fd ps ds) (hd : Vals dvs ds) (hx : Passes CX X E)
    (ha : PA X (e :: es) t) (hdb : (x == ("__debug__" : Str)) = false := by decide) (he : starEach (e :: es) X.env = (false, eval e X.env) :: starEach es X.env := by rfl) (hpl : (backTo pos (starEach es X.env)).any (·.1) = false := by rfl) :
    PE X (.Call (.Name x p) (e :: es) [] pos) (tCall sp dvs E t) := by
  constructor
  intro pins s σ H Q I h
  refine wpAny_Call_Name_kw (ld_glob I hg hm ?_ hdb)
  exact PySem.W.callWith_K (h₀ := X.base) I.ok.mod.kin hk (thn (ha.run pos pins s σ H _ I h) fun us s1 ⟨vs, H1, I1, r, q⟩ => ⟨I1.kIn, run_fnG F hG hr hb hd hx I1 r q⟩) he hpl
end

/-! ### a list's display, whose place is not the modules' -/
def tLstS (t : TA) : TE := fun σ H Q => t σ H fun xs H1 => xs.length ≤ sizeLine ∧ ∀ p, H1 p = none → p ≠ sysModules → Q (.ref p) (upd H1 p (.lst xs))
theorem pe_lstS {X : Cx} {es : List Expr} {t : TA} {pos : Pos} (h : PA X es t) : PE X (.List es pos) (tLstS t) := by
  refine ⟨fun pins s σ H Q I hq => ?_⟩
  refine wpAny_List_spliced (thn (h.run pos pins s σ H _ I hq) fun us s1 ⟨xs, H1, I1, r, z, q⟩ => ⟨by rw [← r.length]; exact z, ?_⟩)
  have hf : H1 s1.heap.objs.size = none := I1.hok.fresh (Nat.le_refl _)
  refine ⟨.ref s1.heap.objs.size, upd H1 s1.heap.objs.size (.lst xs), I1.laid (t' := s1.toks) (fun b u e => Heap.get?_push_of_some _ e) (Nat.le_refl _) ?_, rfl, q _ hf (Nat.ne_of_gt I1.big)⟩
  exact ⟨z, us, 0, r, Heap.get?_push_size _ rfl⟩

/-! ### powers of great numbers -/
def CPowB (i j : Int) : Prop := 0 ≤ j ∧ (Builtin.Int.intBits i : Int) * j ≤ 2 ^ 27
theorem op_powB {X : Cx} : OpR X (binaryOp .Pow) (rI CPowB fun i j => .int (i ^ j.toNat)) := opI fun _ _ _ _ _ _ _ hc q => pow_int hc.1 hc.2 q

/-! ### what a value is, all the way down -/
mutual
inductive Rep (K : PySem.W.Frag) (H : Hp) : V → PyData → Prop
  | non : Rep K H .non .none
  | bl (b : Bool) : Rep K H (.bl b) (.bool b)
  | int (i : Int) : Rep K H (.int i) (.int i)
  | str (x : Str) : Rep K H (.str x) (.str x)
  | lst {a : Addr} {xs : List V} {ds : List PyData} : SqL K H a xs → RepAll K H xs ds → a ≠ sysModules → Rep K H (.ref a) (.list ds)
  | tup {a : Addr} {xs : List V} {ds : List PyData} : SqT K H a xs → RepAll K H xs ds → Rep K H (.ref a) (.tuple ds)
  | dic {a : Addr} {kvs : List (Key × V)} {ds : List (PyData × PyData)} : H a = some (.dK kvs) → RepAll K H (kvs.map fun p => kV p.1) (ds.map (·.1)) → RepAll K H (kvs.map (·.2)) (ds.map (·.2)) → Rep K H (.ref a) (.dict ds)
inductive RepAll (K : PySem.W.Frag) (H : Hp) : List V → List PyData → Prop
  | nil : RepAll K H [] []
  | cons {v : V} {vs : List V} {d : PyData} {ds : List PyData} : Rep K H v d → RepAll K H vs ds → RepAll K H (v :: vs) (d :: ds)
end
section
variable {K : PySem.W.Frag} {H H' : Hp}
mutual
theorem Rep.mono (e : Evl.Ex H H') : ∀ {d : PyData} {v : V}, Rep K H v d → Rep K H' v d
  | _, _, .non => .non
  | _, _, .bl b => .bl b
  | _, _, .int i => .int i
  | _, _, .str x => .str x
  | _, _, .lst h r z => .lst (Evl.ex_l e h) (RepAll.mono e r) z
  | _, _, .tup h r => .tup (Evl.ex_t e h) (RepAll.mono e r)
  | _, _, .dic h r q => .dic (e _ _ h) (RepAll.mono e r) (RepAll.mono e q)
theorem RepAll.mono (e : Evl.Ex H H') : ∀ {ds : List PyData} {vs : List V}, RepAll K H vs ds → RepAll K H' vs ds
  | _, _, .nil => .nil
  | _, _, .cons a b => .cons (Rep.mono e a) (RepAll.mono e b)
end
end


section
variable {X : Cx} {pins : List (Addr × Obj)} {σ : L2.St} {H : Hp} {s : Shared}
theorem kV_rel {k : Key} {v : Value} (h : keyIs k v = true) : RelV (kV k) v := by
  rcases keyIs_shape h with ⟨i, t, rfl, rfl⟩ | ⟨x, t, rfl, rfl⟩
  · exact ⟨t, rfl⟩
  · exact ⟨t, rfl⟩
theorem pairs_vals : ∀ {kvs : List (Key × V)} {vs : List (Key × Value)} {es : List DictEntry}, KV kvs vs → Pairs (mixKind X.prog X.w) es vs → Vals (kvs.map fun p => kV p.1) (es.map (·.key)) ∧ Vals (kvs.map (·.2)) (es.map (·.val))
  | _, _, _, .nil, .nil => ⟨.nil, .nil⟩
  | _, _, _, .cons ⟨e, r⟩ t, .cons h1 h2 h3 => by
    obtain ⟨q1, q2⟩ := pairs_vals t h3
    refine ⟨.cons ?_ q1, .cons ?_ q2⟩
    · show RelV (kV _) _
      rw [e]
      exact kV_rel h1
    · show RelV _ (DictEntry.val _)
      rw [h2]
      exact r
mutual
/-- what is told of a value is read off the heap -/
theorem Rep.reads (I : Inv X pins σ H s) : ∀ {d : PyData} {v : V} {u : Value}, Rep X.K H v d → RelV v u → ∃ as, Reads s.heap u d as ∧ ∀ b ∈ as, b ≠ sysModules
  | _, _, _, .non, r => by
    cases r
    exact ⟨_, Reads.none, fun b z => nomatch z⟩
  | _, _, _, .bl b, r => by
    cases r
    exact ⟨_, Reads.bool b, fun b z => nomatch z⟩
  | _, _, _, .int i, r => by
    obtain ⟨t, rfl⟩ := r
    exact ⟨_, Reads.int i t, fun b z => nomatch z⟩
  | _, _, _, .str x, r => by
    obtain ⟨t, rfl⟩ := r
    exact ⟨_, Reads.str x t, fun b z => nomatch z⟩
  | _, _, _, .lst hs ha hn, r => by
    cases r
    obtain ⟨its, rv, ⟨o, n, ho, hc, _, hd⟩, _⟩ := I.list hs
    obtain ⟨as, hr, hk⟩ := RepAll.reads I ha rv
    refine ⟨_, Reads.list ho hc hd hr, fun b z => ?_⟩
    rcases List.mem_cons.mp z with e | z
    · rw [e]
      exact hn
    · exact hk b z
  | _, _, _, .tup hs ha, r => by
    cases r
    obtain ⟨its, rv, ⟨o, ho, hc, n, hd⟩, _⟩ := I.tuple hs
    obtain ⟨as, hr, hk⟩ := RepAll.reads I ha rv
    exact ⟨_, Reads.tuple ho hc hd hr, hk⟩
  | _, _, _, .dic hs ha hb, r => by
    cases r
    obtain ⟨_, hne, vs, kv, o, es, ep, ho, hx, hd, _, hp, _⟩ := I.hok _ _ hs
    obtain ⟨r1, r2⟩ := pairs_vals kv hp
    obtain ⟨as, q1, k1⟩ := RepAll.reads I ha r1
    obtain ⟨bs, q2, k2⟩ := RepAll.reads I hb r2
    refine ⟨_, Reads.dict ho hx.1 hd q1 q2, fun b z => ?_⟩
    rcases List.mem_append.mp z with z | z
    · rcases List.mem_cons.mp z with e | z
      · rw [e]
        exact beq_eq_false_iff_ne.mp hne
      · exact k1 b z
    · exact k2 b z
theorem RepAll.reads (I : Inv X pins σ H s) : ∀ {ds : List PyData} {vs : List V} {us : List Value}, RepAll X.K H vs ds → Vals vs us → ∃ as, ReadsAll s.heap us ds as ∧ ∀ b ∈ as, b ≠ sysModules
  | _, _, _, .nil, r => by
    cases r
    exact ⟨_, ReadsAll.nil, fun b z => nomatch z⟩
  | _, _, _, .cons h1 h2, r => by
    cases r with
    | cons r1 r2 =>
      obtain ⟨as, q1, k1⟩ := Rep.reads I h1 r1
      obtain ⟨bs, q2, k2⟩ := RepAll.reads I h2 r2
      refine ⟨_, ReadsAll.cons q1 q2, fun b z => ?_⟩
      rcases List.mem_append.mp z with z | z
      · exact k1 b z
      · exact k2 b z
end
end

section
variable {X : Cx}
/-- repr(x), x data of any depth -/
def rRepr (K : PySem.W.Frag) : List V → Hp → VK → Prop := fun xs H Q => ∃ x d, xs = [x] ∧ Rep K H x d ∧ d.showable = true ∧ d.depth ≤ 100 ∧ d.shown.length ≤ sizeLine ∧ Q (.str d.shown) H
theorem call_reprG {k : Nat} (hG : X.A.guards = some []) (hr : Room k X.A) : CallR X (.builtin "repr") (rRepr X.K) := by
  intro pins s σ H xs us Q I r h
  obtain ⟨x, d, rfl, hd, hs, hdp, hz, q⟩ := h
  cases r with
  | @cons _ u _ ur rx rr =>
    cases rr
    have hun : X.A.units + (d.depth + 1) < cLine := by
      have := hr.un
      omega
    cases hd with
    | non =>
      cases rx
      exact PySem.P.repr_of_none ⟨.str _, H, I.tok _, ⟨_, rfl⟩, q⟩
    | bl b =>
      cases rx
      exact PySem.P.repr_of_bool ⟨.str _, H, I.tok _, ⟨_, rfl⟩, q⟩
    | int i =>
      obtain ⟨t, rfl⟩ := rx
      exact PySem.P.repr_of_int (by simpa [PyData.showable] using hs) ⟨.str _, H, I.tok _, ⟨_, rfl⟩, q⟩
    | str y =>
      obtain ⟨t, rfl⟩ := rx
      exact PySem.P.repr_of_str ⟨.str _, H, I.tok _, ⟨_, rfl⟩, q⟩ hz
    | lst h1 h2 h3 =>
      cases rx
      obtain ⟨as, hrd, hk⟩ := Rep.reads I (Rep.lst h1 h2 h3) rfl
      exact repr_of_reads' hrd hs (fun _ z => hk _ z rfl) hG hun (fun _ _ e => e) (fun h' t tk k => ⟨.str _, H, I.kept k, ⟨_, rfl⟩, q⟩) hz
    | tup h1 h2 =>
      cases rx
      obtain ⟨as, hrd, hk⟩ := Rep.reads I (Rep.tup h1 h2) rfl
      exact repr_of_reads' hrd hs (fun _ z => hk _ z rfl) hG hun (fun _ _ e => e) (fun h' t tk k => ⟨.str _, H, I.kept k, ⟨_, rfl⟩, q⟩) hz
    | dic h1 h2 h3 =>
      cases rx
      obtain ⟨as, hrd, hk⟩ := Rep.reads I (Rep.dic h1 h2 h3) rfl
      exact repr_of_reads' hrd hs (fun _ z => hk _ z rfl) hG hun (fun _ _ e => e) (fun h' t tk k => ⟨.str _, H, I.kept k, ⟨_, rfl⟩, q⟩) hz
end


/-! ### the law's own call, from a caller around whom no guard stands -/
section
variable {P : Program} {w : World} {K : PySem.W.Frag} {mg mb : Str → Option Value} {CX : CXT} {k : Nat} {fa a : Addr} {fd : FuncData} {x : Str} {sp : Sp} {s₁ : Shared}
/-- what an abstract heap may track ahead of the call: the script alone, and only where it is none of the text's own objects -/
structure Lone (K : PySem.W.Frag) (h : Heap) (a : Addr) (H : Hp) : Prop where
  one : ∀ b u, H b = some u → b = a ∧ K.lookup a = none ∧ ∃ o xs, u = .frz o (.lst xs) ∧ h.get? a = some o
  isl : ∃ vs : Array Value, h.get? a = some { cls := .type "list", data := .seq vs }
theorem Lone.free {h : Heap} {H : Hp} (L : Lone K h a H) {b : Addr} {o : Obj} (hk : K.lookup b = some o) : H b = none := by
  cases q : H b with
  | none => rfl
  | some u =>
    obtain ⟨rfl, e, _⟩ := L.one b u q
    rw [e] at hk
    cases hk
theorem Lone.dict {h : Heap} {H : Hp} (L : Lone K h a H) {b : Addr} {o : Obj} {es : Array DictEntry} {ep : Nat} (e : h.get? b = some o) (d : o.data = .dict es ep) : H b = none := by
  cases q : H b with
  | none => rfl
  | some u =>
    obtain ⟨rfl, _⟩ := L.one b u q
    obtain ⟨vs, z⟩ := L.isl
    rw [z] at e
    cases e
    cases d
theorem Lone.ns {h : Heap} {H : Hp} (L : Lone K h a H) {b : Addr} {m : Str → Option Value} : h.Ns b m → (hidT h H).Ns b m := by
  rintro ⟨o, es, ep, e, d, r⟩
  exact ⟨o, es, ep, hidT_get e (L.dict e d), d, r⟩
theorem callLone {H : Hp} (KX : K.In s₁.heap) (hns : s₁.heap.Ns mainGlobals mg) (hb : s₁.heap.Ns builtinsNs mb) (hbb : ∀ x : Str, x ≠ "__name__" → mb x = bootBuiltins x) (hlim : s₁.heap.NoLimit) (hg : s₁.gens = #[])
    (hr : Room k callerA) (F : ∀ base : Heap, K.In base → base.Ns mainGlobals mg → FnG P w K mg base CX k fa fd [x] sp) (hbind : ∀ (s : Shared) (u : Value), BindsTo s fd ⟨[u], []⟩ [(x, u)])
    (L : Lone K s₁.heap a H) (hok : HOk P w H s₁.heap) (hsp : sp [.ref a] H (fun v _ => v = .bl true) fun _ _ _ => False) (hCX : ∀ e s', CX [] H s₁ (fun _ _ _ => False) e s' → False) :
    codeAny (model P w) callerA (.call (.ref fa) ⟨[.ref a], []⟩) (fun r s' => r = .ok (.ret (.bool true)) ∧ OldK s₁.heap s'.heap ∧ s'.os = s₁.os ∧ AllBare s'.gens) s₁ := by
  have none0 : ∀ {b : Addr}, b ∉ frs ([] : List Env) := fun z => nomatch z
  have kb : K.In (hidT s₁.heap H) := fun b o e => hidT_get (KX b o e) (L.free e)
  obtain ⟨mc, l1, l2⟩ := hlim
  have e0 : Env0 P w K mg (hidT s₁.heap H) callerA [] s₁ H :=
    { frames := rfl, mod := ⟨kb, L.ns hns, ⟨mb, L.ns hb, hbb⟩, mc, L.ns l1, l2⟩, bs := fun _ _ e => of_hidT e, bsz := Nat.le_of_eq (hidT_size _ _), funs := trivial, frf := fun b z => absurd z none0, hok := hok, bare := .of_eq hg }
  have run := (F _ kb (L.ns hns)).run callerA [] s₁ H ⟨[.ref a], []⟩ [.ref a] [.ref a] _ _ rfl hr e0 (hbind s₁ (.ref a)) (.cons rfl .nil) hsp
  refine codeAny_mono run fun r s' h => ?_
  match r, h with
  | .error e, h => exact (hCX e s' h).elim
  | .ok (.ret u), h =>
    obtain ⟨v, H', os, bare, un, hok', rv, rfl⟩ := h
    cases (show u = Value.bool true from rv)
    refine ⟨rfl, OldK.of_keep fun b o e => ?_, os, bare⟩
    cases q : H b with
    | none => exact un.keep b o e q none0 (fun z => nomatch z)
    | some u =>
      obtain ⟨rfl, _, ob, xs, rfl, z⟩ := L.one b u q
      rw [e] at z
      cases z
      exact (hok' b _ (un.frzs b o _ q)).1
theorem law_callG {vs : List Value} {ns : List Int} (KX : K.In s₁.heap) (hns : s₁.heap.Ns mainGlobals mg) (hb : s₁.heap.Ns builtinsNs mb) (hbb : ∀ x : Str, x ≠ "__name__" → mb x = bootBuiltins x) (hlim : s₁.heap.NoLimit) (hg : s₁.gens = #[])
    (ha : s₁.heap.get? a = some { cls := .type "list", data := .seq vs.toArray }) (hi : IntsAre vs ns) (hl : ns.length ≤ sizeLine) (hr : Room k callerA)
    (F : ∀ base : Heap, K.In base → base.Ns mainGlobals mg → FnG P w K mg base CX k fa fd [x] sp) (hbind : ∀ (s : Shared) (u : Value), BindsTo s fd ⟨[u], []⟩ [(x, u)])
    (hsp : ∀ H : Hp, Only H → SqL K H a (ns.map V.int) → sp [.ref a] H (fun v _ => v = .bl true) fun _ _ _ => False) (hCX : ∀ H e s', CX [] H s₁ (fun _ _ _ => False) e s' → False) :
    codeAny (model P w) callerA (.call (.ref fa) ⟨[.ref a], []⟩) (fun r s' => r = .ok (.ret (.bool true)) ∧ OldK s₁.heap s'.heap ∧ s'.os = s₁.os ∧ AllBare s'.gens) s₁ := by
  have rv := vals_ints hi
  cases hk : K.lookup a with
  | some o =>
    have e := KX a o hk
    rw [ha] at e
    cases e
    refine callLone (H := fun _ => none) KX hns hb hbb hlim hg hr F hbind ⟨(fun _ _ z => nomatch z), _, ha⟩ (fun _ _ z => nomatch z) (hsp _ (fun _ => Or.inl rfl) (Or.inr ⟨_, vs.toArray, _, hk, rfl, rfl, rfl, ?_, by simpa using rv⟩)) (hCX _)
    rw [List.size_toArray, hi.length]
    exact hl
  | none =>
    let o : Obj := { cls := .type "list", data := .seq vs.toArray }
    have up : ∀ {b : Addr} {u : HO}, upd (fun _ => none) a (.frz o (.lst (ns.map V.int))) b = some u → b = a ∧ u = .frz o (.lst (ns.map V.int)) := fun {b u} z => by
      by_cases hb : b = a
      · rw [hb, upd_same] at z
        exact ⟨hb, (Option.some.inj z).symm⟩
      · rw [upd_ne hb] at z
        cases z
    refine callLone (H := upd (fun _ => none) a (.frz o (.lst (ns.map V.int)))) KX hns hb hbb hlim hg hr F hbind ⟨fun b u z => ⟨(up z).1, hk, o, _, (up z).2, ha⟩, _, ha⟩ (fun b u z => ?_) (hsp _ (fun b => ?_) (Or.inl (Or.inr ⟨o, upd_same⟩))) (hCX _)
    · obtain ⟨rfl, rfl⟩ := up z
      exact ⟨ha, by rw [List.length_map]; exact hl, vs, _, rv, ha⟩
    · by_cases hb : b = a
      · rw [hb]
        exact Or.inr ⟨o, _, upd_same⟩
      · exact Or.inl (upd_ne hb)
end
/-- what k_head leaves, from the law's promise where no guard stands -/
theorem walkG {l : PySem.W.OpenLaw} {n k : Nat} {q : Program} {loose : List Str} {XP : (Str → Option Value) → Heap → Prop} {YP : World → Heap → Prop} {d : DefRec} {K : Params → PySem.W.Frag} {sp : PySem.W.Frag → Sp} {x : Str}
    (hn : l.most = some n) (hz : n ≤ sizeLine) (hdf : d.params.defaults = []) (hr : Room k callerA) (hY : ∀ (w : World) (h : Heap), YP w h → (K w.params).In h)
    (F : ∀ (w : World) (mg : Str → Option Value) (fa : Addr) (h : Heap), (K w.params).In h → h.Ns mainGlobals mg → mg d.name = some (.ref fa) →
      ∃ fd : FuncData, (∀ (s : Shared) (u : Value), BindsTo s fd ⟨[u], []⟩ [(x, u)]) ∧
        ∀ base : Heap, (K w.params).In base → base.Ns mainGlobals mg → FnG l.prog w (K w.params) mg base CX0 k fa fd [x] (sp (K w.params)))
    (hsp : ∀ (K : PySem.W.Frag) (H : Hp) (a : Addr) (ns : List Int), ns.length ≤ n → SqL K H a (ns.map V.int) → sp K [.ref a] H (fun v _ => v = .bl true) fun _ _ _ => False) :
    PySem.W.WalkO q loose XP YP l.row.toRowW d [] (fun f vs => PySem.call f vs) := by
  refine Att.attach_call hn hdf fun w s₀ s₁ mg mb fa o pm cd doc a vs ns G Y ho hd hcd hmg hobj hints hlen hg => ?_
  have KX := hY w _ Y
  obtain ⟨fd, hb, hF⟩ := F w mg fa _ KX G.T.g hmg
  exact law_callG KX G.T.g G.T.b G.T.builtins G.T.nolimit hg hobj hints (Nat.le_trans hlen hz) hr hF hb (fun H _ hS => hsp _ H a ns hlen hS) fun _ _ _ z => z

end XG

set_option Elab.async false
set_option maxRecDepth 100000
set_option maxHeartbeats 2000000
set_option linter.all false
/-! Own exception classes over a built-in class that makes its instances by a base's __new__ (KeyError: LookupError's). -/
namespace PySem
namespace XK
open HandSPX Builtin Builtin.ObjectAttr

/-- what the making asks of a class's mro behind itself -/
structure Like (B : String) (bm : List Value) : Prop where
  base : bm.contains (.type B) = true
  attr : bm.contains (.type "AttributeError") = false
  name : bm.contains (.type "NameError") = false

section
variable {M : Model} {A : Around} {E : Value → Shared → Prop} {h : Heap} {g : Array GenState} {d : Drawn} {t : Nat} {os : OsState}
variable {nm q : Str} {C N : Addr} {bs bm bmB : List Value} {hdct : Bool} {sn : List Str} {sub : List Value} {ab : Bool} {col : Option Bool} {dd : Option Addr} {k0 k1 k2 k3 k5 : Option Value} {B newId initId : String}
theorem xcheck_new (F : ExcBaseFacts B newId initId bmB) (hT : Like B bm) {rest : List Value} {Q : Unit → Shared → Prop}
    (hC : h.get? C = some (excClassObj nm q C N bs bm hdct sn sub ab col dd k0 k1 k2 k3 k5 newId)) (hq : Q () ⟨h, g, d, t, os⟩) : wpAny M A (checkBuiltinCall newId ⟨.ref C :: rest, []⟩) Q E ⟨h, g, d, t, os⟩ := by
  have hcont : (Value.ref C :: bm).contains (.type B) = true := by rw [List.contains_cons, hT.base, Bool.or_true]
  have hstar := F.noStar
  simp only [checkBuiltinCall, F.newKind, F.newSplit, F.newRow]
  repeat (first | refine wpAny_loadPart_at hC ?_ | (refine wpAny_isSubtype_exc hC ?_; rw [hcont]) | refine wpAny_staticBase_exc hC ?_ | refine wpAny_madeBy_exc hC ?_ | simp only [bne_self_eq_false, Bool.false_eq_true, if_false] | wp_step)
  exact hq
end
section
variable {prog : Program} {w : World} {A : Around} {E : Value → Shared → Prop} {R : Result → Shared → Prop} {h : Heap} {g : Array GenState} {d : Drawn} {t : Nat} {os : OsState}
variable {nm q : Str} {C N : Addr} {bs bm bmB : List Value} {hdct : Bool} {sn : List Str} {sub : List Value} {ab : Bool} {col : Option Bool} {dd : Option Addr} {k0 k1 k2 k3 k5 : Option Value} {B newId initId : String}
theorem xnew (F : ExcBaseFacts B newId initId bmB) (hT : Like B bm) {rest : List Value}
    (hC : h.get? C = some (excClassObj nm q C N bs bm hdct sn sub ab col dd k0 k1 k2 k3 k5 newId))
    (hq : R (.ok (.ret (.ref (h.objs.size + 1)))) ⟨(h.push { cls := .type "tuple", data := .seq rest.toArray }).push
      { cls := .ref C, data := .fields #[.ref h.objs.size, .none, .none, .none, .bool false, .none] }, g, d, t, os⟩) (hrest : rest.length ≤ sizeLine) :
    codeAny (model prog w) A (.builtin newId ⟨.ref C :: rest, []⟩) R ⟨h, g, d, t, os⟩ := by
  have hends := F.ends
  have hcB : (Value.ref C :: bm).contains (.type B) = true := by rw [List.contains_cons, hT.base, Bool.or_true]
  have hcA : (Value.ref C :: bm).contains (.type "AttributeError") = false := by rw [List.contains_cons, hT.attr]; rfl
  have hcN : (Value.ref C :: bm).contains (.type "NameError") = false := by rw [List.contains_cons, hT.name]; rfl
  refine codeAny_builtinAt F.entry ?_
  unfold Builtin.«BaseException.__new__»
  refine PySem.wpAt_bind ?_
  show wpAt _ _ _ (stack >>= _) _ _ _
  refine PySem.wpAt_bind (wpAt_stack fun p below => wpAt_of_wpAny ?_)
  wp_walk
  refine wpAt_of_wpAny ?_
  rw [F.owner]
  repeat (first | with_reducible refine wpAny_madeHere_exc F.canon hC ?_ | with_reducible refine wpAny_loadPart_at hC ?_ | (with_reducible refine wpAny_isSubtype_exc hC ?_; first | rw [hcB] | rw [hcA] | rw [hcN]) | wp_step)
  show R _ _
  rw [Heap.size_push]
  exact hq

theorem xtype_call (F : ExcBaseFacts B newId initId bmB) (hT : Like B bm) {rest : List Value} {fI : Addr} {Q : Fin → Shared → Prop}
    (hC : h.get? C = some (excClassObj nm q C N bs bm hdct sn sub ab col dd k0 k1 k2 k3 k5 newId))
    (hi : W.Looks (model prog w) h (typeLookup (.ref C) "__init__") (some (.ref fI))) (hb : ∀ self, W.Looks (model prog w) h (bindSpecial (.ref fI) self) (.ref fI, [self])) (hrest : rest.length ≤ sizeLine)
    (hq : codeAny (model prog w) A (.call (.ref fI) ⟨.ref (h.objs.size + 1) :: rest, []⟩)
      (fun r s' => match r with | .ok (.ret v) => v = .none ∧ Q (.done (.ret (.ref (h.objs.size + 1)))) s' | .ok _ => False | .error e => E e s')
      ⟨(h.push (W.kdv_tup rest)).push (excO C h.objs.size), g, d, t, os⟩) :
    wpAny (model prog w) A (Builtin.«type.__call__» ⟨.ref C :: rest, []⟩) Q E ⟨h, g, d, t, os⟩ := by
  repeat (first | with_reducible refine wpAny_loadPart_at hC ?_ | with_reducible refine wpAny_madeBy_exc hC ?_ | wp_step)
  refine codeAny_call_builtin_code (Code.quiet_builtin _ F.quiet) (xcheck_new F hT hC ?_)
  refine xnew F hT hC ?_ hrest
  show wpAny _ _ _ _ _ _
  have k : ∀ b o, h.get? b = some o → ((h.push (W.kdv_tup rest)).push (excO C h.objs.size)).get? b = some o := fun b o e => Heap.get?_push_of_some _ (Heap.get?_push_of_some _ e)
  have hC₁ := k _ _ hC
  have hget : ((h.push (W.kdv_tup rest)).push (excO C h.objs.size)).get? (h.objs.size + 1) = some (excO C h.objs.size) := by heap_get
  have hcC : (Value.ref C :: bm).contains (.ref C) = true := by simp
  have i1 := hi.keeps k
  have b1 := (hb (.ref (h.objs.size + 1))).keeps k
  unfold isInstance
  repeat (first | with_reducible refine wpAny_loadPart_at hget ?_ | (with_reducible refine wpAny_isSubtype_exc hC₁ ?_; rw [hcC]) | wp_step)
  show wpAny _ _ (typeLookup (.ref C) _) _ _ _
  refine i1.at ?_
  refine wpAny_holding (wpAny_bind (b1.at ?_))
  refine wpAny_bind (wpAny_call (codeAny_mono hq fun r s' z => ?_))
  rcases r with e | (v | _ | _ | _) <;> first | exact z | exact z.elim | skip
  obtain ⟨rfl, z⟩ := z
  first
    | exact wpAny_pure (wpAny_pure z)
    | (wp_walk; exact z)

theorem xcall (F : ExcBaseFacts B newId initId bmB) (hT : Like B bm) {rest : List Value} {fI : Addr}
    (hC : h.get? C = some (excClassObj nm q C N bs bm hdct sn sub ab col dd k0 k1 k2 k3 k5 newId))
    (hi : W.Looks (model prog w) h (typeLookup (.ref C) "__init__") (some (.ref fI))) (hb : ∀ self, W.Looks (model prog w) h (bindSpecial (.ref fI) self) (.ref fI, [self])) (hrest : rest.length ≤ sizeLine)
    (hq : codeAny (model prog w) (A.under (.builtin "type.__call__" ⟨.ref C :: rest, []⟩)) (.call (.ref fI) ⟨.ref (h.objs.size + 1) :: rest, []⟩) (W.InitBack (h.objs.size + 1) R)
      ⟨(h.push (W.kdv_tup rest)).push (excO C h.objs.size), g, d, t, os⟩) :
    codeAny (model prog w) A (.call (.ref C) ⟨rest, []⟩) R ⟨h, g, d, t, os⟩ := by
  have f1 := tc_lookup
  have f2 := tc_bind (.ref C)
  have hTy : (⟨h, g, d, t, os⟩ : Shared).TypeIs (.ref C) "type" := ⟨_, hC, rfl⟩
  refine codeAny_of_tree ?_
  show wpAny _ _ (callAny (.ref C) _) _ _ _
  repeat (any_goals (first | assumption | with_reducible refine wpAny_loadPart_at hC ?_ | wp_step))
  refine ⟨rfl, ?_⟩
  refine codeAny_call_builtin_at (Code.quiet_builtin _ (by decide +kernel)) entry_typeCall (wpAny_check_type_call_sub hC (xtype_call F hT hC hi hb hrest ?_))
  refine codeAny_mono hq fun r s' z => ?_
  rcases r with e | (v | _ | _ | _) <;> exact z

end

theorem Like.of {B : String} {bm bmB : List Value} (hT : ∀ X : String, bm.contains (.type X) = bmB.contains (.type X)) (h : Like B bmB) : Like B bm := ⟨(hT _).trans h.base, (hT _).trans h.attr, (hT _).trans h.name⟩
abbrev mroIx : List Value := [.type "IndexError", .type "LookupError", .type "Exception", .type "BaseException", .type "object"]
abbrev mroKy : List Value := [.type "KeyError", .type "LookupError", .type "Exception", .type "BaseException", .type "object"]
abbrev mroOv : List Value := [.type "OverflowError", .type "ArithmeticError", .type "Exception", .type "BaseException", .type "object"]
abbrev mroLk : List Value := [.type "LookupError", .type "Exception", .type "BaseException", .type "object"]
theorem likeIx : Like "IndexError" mroIx := ⟨by decide +kernel, by decide +kernel, by decide +kernel⟩
theorem likeKy : Like "LookupError" mroKy := ⟨by decide +kernel, by decide +kernel, by decide +kernel⟩
theorem likeOv : Like "OverflowError" mroOv := ⟨by decide +kernel, by decide +kernel, by decide +kernel⟩
theorem likeLk : Like "LookupError" mroLk := ⟨by decide +kernel, by decide +kernel, by decide +kernel⟩
open PySem.F in
theorem store_KeyError : StoreFacts "KeyError" [.type "KeyError", .type "LookupError", .type "Exception", .type "BaseException", .type "object"] "object.__setattr__" "object" where
  mro := by kernel_rfl
  slot := .of (owner := "object") (n := "__setattr__") (by rw [typeLookup_type, builtinLookup_eq_fast]; kernel_rfl) (by decide +kernel) (by decide +kernel) (by decide +kernel)
    (by first | exact .inl (by decide +kernel) | exact .inr (by decide +kernel)) (by rw [isSubtype_type]; kernel_rfl)
  entry := entry_object_sa
  kind := by decide +kernel
  split := by decide +kernel
  hasOwner := by decide +kernel
  args := fun a b c => by unfold argsOk; kernel_rfl
  passes := fun self => by kernel_rfl
end XK
end PySem

set_option Elab.async false
set_option maxRecDepth 100000
set_option maxHeartbeats 2000000
set_option linter.all false
/-! How long a value's repr can be. -/
namespace XS
open PySem PySem.Spec PyProof.Rows L2 XG

theorem lt_len (a b : Str) : (a ++ b).length = a.length + b.length := strLen_append a b
theorem listText_le (ts : List Str) : (listText ts).length ≤ 2 + piled ts := by
  unfold listText
  rw [strLen_append]
  cases ts with
  | nil => decide
  | cons t ts =>
    have h : (textFrom 0 "[" (t :: ts)).length = 1 + t.length + piled ts := by
      show (textFrom 1 _ ts).length = _
      rw [textFrom_length_pos ts 1 _ (by decide), strLen_append, strLen_append]
      rfl
    rw [h, piled_cons]
    show _ + 1 ≤ _
    omega
theorem join_le (ts : List Str) : (Str.join ", " ts).length ≤ piled ts := by
  cases ts with
  | nil => decide
  | cons t ts =>
    have := join_length_add (t :: ts) (by simp)
    omega
theorem tupleText_le (ts : List Str) : (tupleText ts).length ≤ 3 + piled ts := by
  unfold tupleText
  rw [strLen_append, strLen_append]
  have h := join_le ts
  have h2 : (Str.ofString (if ts.length == 1 then ",)" else ")")).length ≤ 2 := by
    split <;> decide
  show 1 + _ + _ ≤ _
  have h3 : ((if ts.length == 1 then ",)" else ")" : String) : Str).length ≤ 2 := h2
  omega
theorem dictText_le (ts : List Str) : (dictText ts).length ≤ 2 + piled ts := by
  unfold dictText
  rw [strLen_append, strLen_append]
  have h := join_le ts
  show 1 + _ + 1 ≤ _
  omega

/-- a text of signs that there are -/
def plainT (x : Str) : Bool := x.cps.toList.all fun c => decide (c < 1114112)
theorem plain_repr {x : Str} (h : plainT x = true) : (reprText x).length ≤ 10 * x.length + 2 := by
  refine PySem.StrLaws.reprText_len x fun c hc => ?_
  have := of_decide_eq_true (List.all_eq_true.mp h c hc)
  omega
mutual
def sz : PyData → Nat
  | .none => 4
  | .bool _ => 5
  | .int i => i.natAbs.log2 + 2
  | .str x => 10 * x.length + 2
  | .list xs => 2 + szs xs
  | .tuple xs => 3 + szs xs
  | .dict kvs => 2 + szk kvs
def szs : List PyData → Nat
  | [] => 0
  | x :: xs => sz x + 2 + szs xs
def szk : List (PyData × PyData) → Nat
  | [] => 0
  | (a, b) :: r => sz a + sz b + 4 + szk r
end
mutual
def plainD : PyData → Bool
  | .str x => plainT x
  | .list xs | .tuple xs => plainDs xs
  | .dict kvs => plainDk kvs
  | .none | .bool _ | .int _ => true
def plainDs : List PyData → Bool
  | [] => true
  | x :: xs => plainD x && plainDs xs
def plainDk : List (PyData × PyData) → Bool
  | [] => true
  | (a, b) :: r => plainD a && plainD b && plainDk r
end
theorem int_len (i : Int) : ((toString i : String) : Str).length ≤ i.natAbs.log2 + 2 := by
  rw [PySem.ofString_length]
  exact int_text_length_le (k := i.natAbs.log2 + 1) (by omega) (by omega)
mutual
theorem shown_le : ∀ d : PyData, plainD d = true → d.shown.length ≤ sz d
  | .none, _ => by decide
  | .bool b, _ => by cases b <;> decide
  | .int i, _ => int_len i
  | .str x, h => plain_repr h
  | .list xs, h => by
    have a := listText_le (PyData.shownAll xs)
    have b := shownAll_le xs h
    show (listText (PyData.shownAll xs)).length ≤ 2 + szs xs
    omega
  | .tuple xs, h => by
    have a := tupleText_le (PyData.shownAll xs)
    have b := shownAll_le xs h
    show (tupleText (PyData.shownAll xs)).length ≤ 3 + szs xs
    omega
  | .dict kvs, h => by
    have a := dictText_le (PyData.shownKv kvs)
    have b := shownKv_le kvs h
    show (dictText (PyData.shownKv kvs)).length ≤ 2 + szk kvs
    omega
theorem shownAll_le : ∀ xs : List PyData, plainDs xs = true → piled (PyData.shownAll xs) ≤ szs xs
  | [], _ => Nat.le_refl _
  | x :: xs, h => by
    obtain ⟨h1, h2⟩ := Bool.and_eq_true_iff.mp h
    have a := shown_le x h1
    have b := shownAll_le xs h2
    show piled (x.shown :: PyData.shownAll xs) ≤ sz x + 2 + szs xs
    rw [piled_cons]
    omega
theorem shownKv_le : ∀ xs : List (PyData × PyData), plainDk xs = true → piled (PyData.shownKv xs) ≤ szk xs
  | [], _ => Nat.le_refl _
  | (x, y) :: xs, h => by
    obtain ⟨h1, h2⟩ := Bool.and_eq_true_iff.mp h
    obtain ⟨h0, h1⟩ := Bool.and_eq_true_iff.mp h1
    have a := shown_le x h0
    have a' := shown_le y h1
    have b := shownKv_le xs h2
    show piled ((x.shown ++ ": " ++ y.shown) :: PyData.shownKv xs) ≤ sz x + sz y + 4 + szk xs
    rw [piled_cons, strLen_append, strLen_append]
    have : (": " : Str).length = 2 := by decide
    omega
end
end XS

set_option Elab.async false
set_option maxRecDepth 100000
set_option maxHeartbeats 2000000
set_option linter.all false
/-! Exceptions of own classes held as values: made, their field read, asked by isinstance. -/
namespace XE
open PySem PySem.Spec PyProof.Rows L2 XG

section
open PySem.W PySem.HandSPX PySem.Calls Builtin Builtin.ObjectAttr
variable {prog : Program} {w : World} {A : Around} {E : Value → Shared → Prop} {R : Result → Shared → Prop} {hp : Heap} {g : Array GenState} {d : Drawn} {t : Nat} {os : OsState}
/-- the first field of an exception of any own class over a built-in one -/
theorem xsa_new {K : W.Frag} {B : String} {bmB : List Value} {name : Str} {tk : Tok} {v : Value} {x C : Addr} {fv : Array Value} (SF : StoreFacts B bmB "object.__setattr__" "object") (X : K.In hp) (hx : hp.get? x = some { cls := .ref C, data := .fields fv })
    (hov : excOver K C bmB = true) (htk : takerIn K C name = some none) (hhd : hasDictIn K C = true)
    (hq : ∀ h' tk' dx, (∀ b o, b ≠ x → hp.get? b = some o → h'.get? b = some o) → hp.objs.size ≤ dx → dx ≠ x → h'.get? x = some { cls := .ref C, dict := some dx, data := .fields fv } →
      h'.Ns1 dx (fun y => if y = name then some v else none) → R (.ok (.ret .none)) ⟨h', g, d, tk', os⟩) :
    codeAny (model prog w) A (.call (.builtin "object.__setattr__") ⟨[.ref x, .str name tk, v], []⟩) R ⟨hp, g, d, t, os⟩ := by
  have I : W.InstAt hp x { cls := .ref C, data := .fields fv } C none := ⟨hx, rfl, rfl, trivial⟩
  refine osa_openX SF X I hov htk fun b => ?_
  obtain ⟨cd, hc, hd'⟩ := any_some hhd
  have hcls : W.Looks (model prog w) hp (classData C) cd := W.looks_clsIn X hc
  have hxs : x ≠ hp.objs.size := Nat.ne_of_lt (Heap.lt_size hx)
  obtain ⟨nm, bs, mro, ns, qn, hdd, sn, sb, ab, col, del⟩ := cd
  dsimp only at hd'
  subst hd'
  unfold storeInOwnDict ownDictForStores
  repeat (first | with_reducible refine store_in_new ?_ ?_ | with_reducible refine wpAny_loadPart_at hx ?_ | with_reducible refine hcls.at ?_ | wp_step)
  · exact ⟨_, #[], _, (Heap.get?_update_ne _ _ _ _ hxs.symm).trans (Heap.get?_push_at rfl rfl), rfl, fun e he => absurd he (by simp), fun _ => rfl⟩
  · intro h' tk' hn' hs
    have hx₁ : (hp.push { cls := .type "dict", data := .dict #[] }).get? x = some { cls := .ref C, data := .fields fv } := Heap.get?_push_of_some _ hx
    refine hq h' tk' hp.objs.size (fun b o hb ho => ?_) (Nat.le_refl _) hxs.symm ?_ hn'
    · exact (hs.2 b (Nat.ne_of_lt (Heap.lt_size ho))).trans ((Heap.get?_update_ne _ _ _ _ hb).trans (Heap.get?_push_of_some _ ho))
    · exact (hs.2 x hxs).trans (Heap.get?_update_self _ hx₁ rfl)
end

/-- what the written part says of an own exception class over the built-in B, whose __init__ stores the one field f -/
structure XcC (K : PySem.W.Frag) (C : Addr) (B : String) (bmB : List Value) (newId : String) (f : Str) : Prop where
  it : PySem.W.excInitIn K C bmB newId = true
  ov : PySem.W.excOver K C bmB = true
  hd : PySem.W.hasDictIn K C = true
  tk : PySem.W.takerIn K C f = some none
  sa : PySem.W.findIn K (.ref C) "__setattr__" = some (some (.builtin "object.__setattr__"))
  kC : PySem.W.keepIn K (.ref C) = true

section
variable {X : Cx} {pins : List (Addr × Obj)} {σ : L2.St} {H : Hp} {s : Shared} {a C dx : Addr} {f : Str} {y : V} {u : Value} {Q : Unit → Shared → Prop} {E : Value → Shared → Prop} {A : Around} {B newId : String} {bmB : List Value}
theorem xst_new (SF : StoreFacts B bmB "object.__setattr__" "object") (T : XcC X.K C B bmB newId f) (I : Inv X pins σ H s) (e : H a = some (exo a C none)) (ry : RelV y u)
    (h : ∀ dx s', H dx = none → dx ≠ a → Inv X pins σ (upd (upd H dx (exd dx [(f, y)])) a (exo a C (some dx))) s' → Q () s') : wpAny (model X.prog X.w) A (setAttr (.ref a) f u) Q E s := by
  obtain ⟨t1, ho⟩ := exo_at I.hok e
  obtain ⟨hp, g, d, t, os⟩ := s
  refine PySem.W.set_plain I.kIn (ox := { cls := .ref C, dict := none, data := .fields #[.ref t1, .none, .none, .none, .bool false, .none] }) (od := none) ⟨ho, rfl, rfl, trivial⟩ T.sa ?_
  refine xsa_new SF I.kIn ho T.ov T.tk T.hd (fun h' tk' dx k dn dne hx hn => ?_)
  have hnd : H dx = none := I.hok.fresh dn
  have ad : ∀ {b : Addr} {o : Obj}, hp.get? b = some o → b ≠ dx := fun q => Nat.ne_of_lt (Nat.lt_of_lt_of_le (Heap.lt_size q) dn)
  have na : ∀ {b : Addr}, H b = none → b ≠ a := fun {b} n z => by
    rw [z, e] at n
    cases n
  have un : Un X.fs [] H (upd (upd H dx (exd dx [(f, y)])) a (exo a C (some dx))) hp h' := by
    constructor
    · intro b o q n _ _
      exact k b o (na n) q
    · intro b o q n _ _
      exact ⟨o.slots, k b o (na n) q⟩
    · intro b o q n _
      rw [upd_ne (na n), upd_ne (ad q)]
      exact n
    · intro b o q _
      by_cases hb : b = a
      · exact ⟨_, by rw [hb]; exact hx⟩
      · exact ⟨o, k b o hb q⟩
    · intro b xs q
      rw [upd_ne (at_ne e q exo_tup), upd_ne (ne_of_none q hnd)]
      exact q
    · intro b o v q
      rw [upd_ne (at_ne e q exo_frz), upd_ne (ne_of_none q hnd)]
      exact q
    · intro b ps q
      exact ⟨#[], by rw [upd_ne (at_ne e q exo_tbl), upd_ne (ne_of_none q hnd), q]; simp⟩
  refine h dx _ hnd dne (I.un (t' := tk') un fun b o q => ?_)
  by_cases hb : b = a
  · subst hb
    rw [upd_same] at q
    cases q
    exact exo_ok hx
  · rw [upd_ne hb] at q
    by_cases hd : b = dx
    · subst hd
      rw [upd_same] at q
      cases q
      exact exd_ok hn (relO_put (fs := []) ry fun g => True.intro)
    · rw [upd_ne hd] at q
      refine (I.hok b o q).stay (fun c v hc z => k c v ?_ z) (fun c hc => ?_) (fun c xs hc => ?_)
      · rcases hc with hc | hc
        · rw [hc]
          exact hb
        · exact at_ne e hc exo_own
      · rw [upd_ne (at_ne e hc exo_own), upd_ne (ne_of_none hc hnd)]
        exact hc
      · rw [upd_ne (at_ne e hc exo_tup), upd_ne (ne_of_none hc hnd)]
        exact hc
end

section
variable {X : Cx} {o e : Expr} {es : List Expr} {to te : TE} {ta : TA} {f : Str} {p p' pos : Pos} {B newId initId : String} {bmB : List Value} {C : Addr}
/-- self.f = e within the __init__ of such a class -/
def tXst (C : Addr) (f : Str) (to te : TE) : TS := fun D σ H => te σ H fun y H1 => to σ H1 fun x H2 => ∃ a : Addr, x = .ref a ∧ H2 a = some (exo a C none) ∧ ∀ dx, H2 dx = none → dx ≠ a → D.nx σ (upd (upd H2 dx (exd dx [(f, y)])) a (exo a C (some dx)))
theorem ps_xst (SF : StoreFacts B bmB "object.__setattr__" "object") (T : XcC X.K C B bmB newId f) (ho : PE X o to) (he : PE X e te) (hs : swapsWith e (some (.Attribute o f p')) pos.line X.env = pure false := by rfl) : PS X (.Assign [.Attribute o f p'] e pos) (tXst C f to te) := by
  constructor
  intro pins s σ H D I h
  refine plainObj_wpAny_Assign_Attribute (thn (he.run pins s σ H _ I h) fun v s1 ⟨y, H1, I1, r1, q1⟩ => thn (ho.run pins s1 σ H1 _ I1 q1) fun u s2 ⟨x, H2, I2, r2, a, ex, ea, q⟩ => ?_) hs
  subst ex
  obtain rfl : u = Value.ref a := r2
  exact xst_new SF T I2 ea r1 fun dx s' n ne J => ⟨σ, _, J, q dx n ne⟩
/-- C(e, ..), a new exception of such a class -/
def tXmk (C : Addr) (sp : Sp) (ta : TA) : TE := fun σ H Q => ta σ H fun vs H1 => vs.length ≤ 1000 ∧ ∀ a, H1 a = none → sp (.ref a :: vs) (upd H1 a (exo a C none)) (fun v H2 => v = .non ∧ Q (.ref a) H2) (fun _ _ _ => False)
theorem pe_xmk {CX : CXT} {x : Str} {fI : Addr} {k : Nat} {fd : FuncData} {ps : List Str} {sp : Sp} {B0 : String} {bm0 : List Value} (FB : ExcBaseFacts B0 newId initId bm0) (hL : PySem.XK.Like B0 bmB) (T : XcC X.K C B bmB newId f) (iC : PySem.W.findIn X.K (.ref C) "__init__" = some (some (.ref fI))) (tI : PySem.W.typeIn X.K (.ref fI) = some (.type "function"))
    (F1 : FnOk X.prog X.w X.K X.mg X.base CX k fI fd ps sp) (hr : Room (k + 1) X.A) (hb : Binds X.K fd ps []) (hx : Passes CX X (fun _ _ _ => False)) (hg : Gl X x) (hm : X.mg x = some (.ref C)) (ha : PA X (e :: es) ta)
    (hdb : (x == ("__debug__" : Str)) = false := by decide) (he : starEach (e :: es) X.env = (false, eval e X.env) :: starEach es X.env := by rfl) (hpl : (backTo pos (starEach es X.env)).any (·.1) = false := by rfl) :
    PE X (.Call (.Name x p) (e :: es) [] pos) (tXmk C sp ta) := by
  constructor
  intro pins s σ H Q I h
  refine wpAny_Call_Name_kw (ld_glob I hg hm ?_ hdb)
  refine PySem.W.callWith_K (h₀ := X.base) I.ok.mod.kin T.kC (thn (ha.run pos pins s σ H _ I h) fun us s1 ⟨vs, H1, I1, r1, hz, q1⟩ => ⟨I1.kIn, ?_⟩) he hpl
  show wpAny _ _ (call (.ref C) us) _ _ _
  obtain ⟨nm, N, qn, bs, bm, hdct, sn, sub, ab, col, dd, k0, k1, k2, k3, k5, hC, hT⟩ := PySem.W.excInit_of I1.kIn T.it
  obtain ⟨hp, g, dr, tk, os⟩ := s1
  have hn : H1 (hp.objs.size + 1) = none := I1.hok.fresh (Nat.le_succ _)
  have hq := q1 (hp.objs.size + 1) hn
  have kk : ∀ b o, hp.get? b = some o → ((hp.push (PySem.W.kdv_tup us)).push (PySem.HandSPX.excO C hp.objs.size)).get? b = some o := fun b o e => Heap.get?_push_of_some _ (Heap.get?_push_of_some _ e)
  have hget : ((hp.push (PySem.W.kdv_tup us)).push (PySem.HandSPX.excO C hp.objs.size)).get? (hp.objs.size + 1) = some (PySem.HandSPX.excO C hp.objs.size) := by heap_get
  have I2 := I1.laid (t' := tk) (a := hp.objs.size + 1) (o := exo (hp.objs.size + 1) C none) (h' := (hp.push (PySem.W.kdv_tup us)).push (PySem.HandSPX.excO C hp.objs.size)) kk (Nat.le_succ _) (exo_ok hget)
  have r2 : Vals (V.ref (hp.objs.size + 1) :: vs) (Value.ref (hp.objs.size + 1) :: us) := .cons rfl r1
  have hl : (Value.ref (hp.objs.size + 1) :: us ++ []).length = ps.length := by
    rw [List.append_nil, ← r2.length]
    exact F1.len _ _ _ _ hq
  have hus : us.length ≤ sizeLine := by
    rw [← Paired.length r1, sizeLine_eq]
    omega
  have hbn := hb _ (Value.ref (hp.objs.size + 1) :: us) I2.kIn hl
  rw [List.append_nil] at hbn
  refine wpAny_call (PySem.XK.xcall FB (hL.of hT) hC (PySem.W.looks_findIn I1.kIn iC) (fun self => PySem.W.bind_fn I1.kIn self tI) hus
    (codeAny_mono (F1.run _ X.stack _ _ ⟨Value.ref (hp.objs.size + 1) :: us, []⟩ (Value.ref (hp.objs.size + 1) :: us) _ _ (fun _ _ _ => False) (hr.make C us []) (I2.env0.make C us []) hbn r2 hq) fun r s' hq' => ?_))
  match r, hq' with
  | .error er, hq' => exact hx pins σ _ _ er s' I2 hq'
  | .ok (.ret u), hq' =>
    obtain ⟨v, H2, os2, bare2, un2, hok2, rv, ev, q2⟩ := hq'
    subst ev
    exact ⟨rv, .ref (hp.objs.size + 1), H2, I2.call' (ch := []) os2 un2 hok2 bare2 (fun b z => nomatch z), rfl, q2⟩
end

/-! ### its class is asked -/
section
open PySem.W PySem.Calls
variable {prog : Program} {w : World} {A : Around} {E : Value → Shared → Prop} {s : Shared} {K : Frag} {x D : Addr} {ox : Obj} {od : Option Obj}
theorem findObj_cls {C : Addr} {name : Str} {a g : Value} (hc : (clsIn K C).isSome = true) (ha : findIn K (.ref C) name = some (some a)) (hg : specialIn K a "__get__" = some (some g)) (ht : takesIn K a = some true) : findObj K C od name = some (.bind g a) := by
  obtain ⟨cd, hc⟩ := Option.isSome_iff_exists.mp hc
  unfold findObj
  rw [hc, Option.bind_some, ha, Option.bind_some]
  simp [hg, ht]
theorem xcls {Q : Option Value → Shared → Prop} (T : ExcC K D) (X : K.In s.heap) (I : InstAt s.heap x ox D od) (h : Q (some (.ref D)) { s with toks := s.toks + 1 }) : wpAny (model prog w) A (getAttr? (.ref x) "__class__") Q E s := by
  have hf : findObj K D od "__class__" = some (.bind (.builtin "getset_descriptor.__get__") (.builtin "object.__class__")) := findObj_cls (by obtain ⟨cd, hc, _⟩ := any_some T.hd; rw [hc]; rfl) T.ha T.hn T.ht
  obtain ⟨hp, g, d, t, os⟩ := s
  have L0 := I.type (M := model prog w)
  have L1 := looks_findIn (M := model prog w) X T.hg
  have L2 := looks_findIn (M := model prog w) X T.hk
  have L3 := looks_find (M := model prog w) X I hf
  have sub : Looks (model prog w) hp (isInstance (.ref x) (.type "BaseException")) true := L0.andThen (looks_subIn X T.hs)
  have n2 : (Value.builtin "BaseException.__getattribute__" == Value.builtin "object.__getattribute__") = false := by decide +kernel
  have n1 : (onTheHeap (Value.ref D) && Value.builtin "BaseException.__getattribute__" == Value.builtin "object.__getattribute__") = false := by rw [n2]; rfl
  unfold getAttr? getAttrBy? getAttrBy
  refine wpAny_bind (wpAny_mkText (wpAny_bind (wpAny_attempt (wpAny_holding (wpAny_bind (L0.at (wpAny_bind (L1.at ?_))))))))
  show wpAny _ _ (if (onTheHeap (Value.ref D) && Value.builtin "BaseException.__getattribute__" == Value.builtin "object.__getattribute__") = true then _ else _) _ _ _
  rw [n1, if_neg Bool.false_ne_true]
  unfold getAttrByItsOwn hookBefore
  refine wpAny_bind ?_
  rw [if_pos (show onTheHeap (Value.ref D) = true from rfl)]
  refine L2.at ?_
  refine wpAny_bind (wpAny_attempt (wpAny_holding ?_))
  unfold callGetattribute
  rw [show (false && onTheHeap (Value.builtin "BaseException.__getattribute__")) = false from rfl, if_neg Bool.false_ne_true]
  unfold boundAndCalled
  rw [PySem.F.excAttr_ValueError.ga.bind (.ref x)]
  refine wpAny_bind (wpAny_pure ?_)
  show wpAny _ _ (call (.builtin "BaseException.__getattribute__") [.ref x, .str "__class__" t]) _ _ _
  refine wpAny_call (codeAny_call_builtin PySem.F.excAttr_ValueError.ga.plain PySem.F.entry_bexc_ga ?_)
  refine @check_slot (model prog w) _ _ ⟨hp, g, d, t + 1, os⟩ "BaseException.__getattribute__" "BaseException" "__getattribute__" (.ref x) [.str "__class__" t] [] _ (by decide +kernel) (by decide +kernel) sub (PySem.F.args_bexc_ga (.ref x) (.str "__class__" t)) ?_
  unfold Builtin.«object.__getattribute__»
  refine wpAny_bind (wpAny_of_eq (a := ((Value.ref x : Value), [Value.str "__class__" t])) (by first | rfl | (simp only [slotArgs]; rfl)) ?_)
  refine wpAny_bind (wpAny_pure (wpAny_bind (L0.at (wpAny_bind (L3.at ?_)))))
  show wpAny _ _ (holding [Value.builtin "object.__class__"] (call (.builtin "getset_descriptor.__get__") [.builtin "object.__class__", .ref x, .ref D]) >>= ret) _ _ _
  refine wpAny_bind (wpAny_holding (wpAny_call (class_get (s := ⟨hp, g, d, t + 1, os⟩) (ox := ox) (od := od) X I T.hm ?_)))
  refine wpAny_pure ?_
  show wpAny _ _ (handedOut (.ref D)) _ _ _
  rw [handedOut_of (v := .ref D) rfl]
  first
    | exact wpAny_pure (wpAny_pure h)
    | exact wpAny_pure h
    | exact wpAny_pure (wpAny_bind (wpAny_pure (wpAny_pure h)))
theorem kitx_x (T : ExcC K D) : KitX K (.ref x) (.ref D) (fun h => ∃ ox od, InstAt h x ox D od) where
  ty := fun _ _ _ ⟨_, _, I⟩ => I.type
  it := fun _ _ X _ => by
    obtain ⟨cd, hc, _⟩ := any_some T.hd
    unfold clsIn at hc
    split at hc
    · rename_i c' d' cd' sl' ho
      intro A' Q' E' s' k q
      unfold isType loadHead
      exact wpAny_bind (wpAny_loadPart (k _ _ (X _ _ ho)) (wpAny_pure q))
    · cases hc
  ne := fun h tp dd its n sl X htp => by
    obtain ⟨cd, hc, _⟩ := any_some T.hd
    refine Bool.eq_false_iff.mpr fun q => ?_
    have e : D = tp := Value.ref.inj (beq_iff_eq.mp q)
    subst e
    unfold clsIn at hc
    split at hc
    · rename_i c' d' cd' sl' ho
      have z := (X _ _ ho).symm.trans htp
      cases z
    · cases hc
  ca := fun X ⟨_, _, I⟩ k => xcls T X I k
end

/-- at a: an exception of the class at D, with or without fields -/
def ExcAt (H : Hp) (a D : Addr) : Prop := H a = some (ExO (.ref D) a) ∨ ∃ (dx : Addr) (fs : List (Str × V)), H a = some (exo a D (some dx)) ∧ H dx = some (exd dx fs)
theorem ExcAt.mono {H H' : Hp} {a D : Addr} (e : Evl.Ex H H') (h : ExcAt H a D) : ExcAt H' a D := by
  rcases h with h | ⟨dx, fs, h1, h2⟩
  · exact .inl (e _ _ h)
  · exact .inr ⟨dx, fs, e _ _ h1, e _ _ h2⟩
section
variable {X : Cx} {pins : List (Addr × Obj)} {σ : L2.St} {H : Hp} {s : Shared}
theorem ExcAt.inst {a D : Addr} (I : Inv X pins σ H s) (h : ExcAt H a D) : ∃ ox od, PySem.W.InstAt s.heap a ox D od := by
  rcases h with h | ⟨dx, fs, h1, h2⟩
  · obtain ⟨⟨oe, vs, e, ⟨z1, z2⟩, d, _⟩, _, _⟩ := I.hok a _ h
    refine ⟨oe, none, e, z1, ?_, ?_⟩
    · unfold PySem.W.notCls
      rw [d] <;> rfl
    · rw [z2]
      trivial
  · obtain ⟨t0, e⟩ := exo_at I.hok h1
    obtain ⟨mA, ⟨o, es, ep, e2, _⟩, _⟩ := exd_at I.hok h2
    exact ⟨_, some o, e, rfl, rfl, e2⟩
/-- isinstance(e, c), e such an exception -/
def rIsX (K : PySem.W.Frag) : List V → Hp → VK → Prop := fun xs H Q => ∃ (a D : Addr) (c : V) (cv : Value) (b : Bool), xs = [.ref a, c] ∧ ExcAt H a D ∧ ExcC K D ∧ ClsV c cv ∧ PySem.W.kitOne K (.ref D) cv = some b ∧ Q (.bl b) H
theorem call_isX : CallR X (.builtin "isinstance") (rIsX X.K) := by
  intro pins s σ H xs us Q I r h
  obtain ⟨a, D, c, cv, b, rfl, hx, T, hc, e, q⟩ := h
  obtain ⟨u1, u2, rfl, r1, r2⟩ := vals2 r
  have e2 := hc.eq r2
  subst e2
  cases (show u1 = Value.ref a from r1)
  exact PySem.W.kia_one (kitx_x T) I.kIn (hx.inst I) e (fun z => nomatch z) fun tk => ⟨.bl b, H, I.tok tk, rfl, q⟩
/-- e.f, e an exception with fields -/
def tXget (K : PySem.W.Frag) (f : Str) (te : TE) : TE := fun σ H Q => te σ H fun x H1 => ∃ (a D dx : Addr) (fs : List (Str × V)) (v : V), x = .ref a ∧ H1 a = some (exo a D (some dx)) ∧ H1 dx = some (exd dx fs) ∧ fs.lookup f = some v ∧ ExcC K D ∧ PySem.W.findIn K (.ref D) f = some none ∧ Q v H1
theorem pe_xget {e : Expr} {te : TE} {pos : Pos} {n : Str} (he : PE X e te) (hb : attributeBase e n X.env (eval e X.env) = eval e X.env := by rfl) : PE X (.Attribute e n pos) (tXget X.K n te) := by
  constructor
  intro pins s σ H Q I h
  refine attr_of hb (thn (he.run pins s σ H _ I h) fun u s1 hh => ?_)
  obtain ⟨x, H1, I1, rx, a, D, dx, fs, v, ex, e1, e2, l, T, hno, q⟩ := hh
  subst ex
  obtain rfl : u = Value.ref a := rx
  obtain ⟨t0, g1⟩ := exo_at I1.hok e1
  obtain ⟨mA, hns, hr⟩ := exd_at I1.hok e2
  obtain ⟨od, ho, hl⟩ := lookIn_ns hns
  obtain ⟨u, hu, ru⟩ := RelO.some_of (v := v) (o := mA n) (by rw [← l]; exact hr n)
  have J : PySem.W.InstAt s1.heap a _ D (some od) := ⟨g1, rfl, rfl, ho⟩
  exact HandSPX.exc_get I1.kIn J T.hg T.hk T.hs (PySem.W.findObj_own T.hd hno rfl (by rw [hl, hu])) (handed_of ru) ⟨v, H1, I1.tok _, ru, q⟩
end
end XE

set_option Elab.async false
set_option maxRecDepth 100000
set_option maxHeartbeats 2000000
set_option linter.all false
/-! What a reading evaluates to, told by what is true of the value in the heap behind. -/
namespace XV
open PySem PySem.Spec PyProof.Rows L2 XG Evl

def EvP (te : TE) (σ : L2.St) (H : Hp) (P : V → Hp → Prop) : Prop := ∀ H1, Ex H H1 → ∀ Q : VK, (∀ v H2, Ex H1 H2 → P v H2 → Q v H2) → te σ H1 Q
def EvPA (ta : TA) (σ : L2.St) (H : Hp) (P : List V → Hp → Prop) : Prop := ∀ H1, Ex H H1 → ∀ Q : List V → Hp → Prop, (∀ vs H2, Ex H1 H2 → P vs H2 → Q vs H2) → ta σ H1 Q
def EvTP (tt : TT) (σ : L2.St) (H : Hp) (P : Bool → Prop) : Prop := ∀ H1, Ex H H1 → ∀ Q : Bool → Hp → Prop, (∀ b H2, Ex H1 H2 → P b → Q b H2) → tt σ H1 Q
/-- a word of a value that stays when the heap grows -/
def Stays {α : Type} (P : α → Hp → Prop) : Prop := ∀ v H H', Ex H H' → P v H → P v H'

section
variable {σ : L2.St} {H H' : Hp} {te ta tb : TE} {tr : TA} {v x y : V} {P R S : V → Hp → Prop} {PA RA : List V → Hp → Prop} {t u : TT}
theorem EvP.mono (e : Ex H H') (h : EvP te σ H P) : EvP te σ H' P := fun H1 a Q q => h H1 (e.trans a) Q q
theorem EvPA.mono (e : Ex H H') (h : EvPA tr σ H PA) : EvPA tr σ H' PA := fun H1 a Q q => h H1 (e.trans a) Q q
theorem EvP.of (h : Ev te σ H v) : EvP te σ H (fun x _ => x = v) := fun H1 e Q q => h H1 e Q fun H2 e2 => q v H2 e2 rfl
theorem EvP.to (h : EvP te σ H fun x _ => x = v) : Ev te σ H v := fun H1 e Q q => h H1 e Q fun x H2 e2 z => by rw [z]; exact q H2 e2
theorem EvP.imp (h : EvP te σ H P) (i : ∀ v H1, Ex H H1 → P v H1 → R v H1) : EvP te σ H R := fun H1 e Q q => h H1 e Q fun v H2 e2 p => q v H2 e2 (i v H2 (e.trans e2) p)
theorem EvPA.imp (h : EvPA tr σ H PA) (i : ∀ v H1, Ex H H1 → PA v H1 → RA v H1) : EvPA tr σ H RA := fun H1 e Q q => h H1 e Q fun v H2 e2 p => q v H2 e2 (i v H2 (e.trans e2) p)
theorem EvPA.of {vs : List V} (h : EvA tr σ H vs) : EvPA tr σ H (fun x _ => x = vs) := fun H1 e Q q => h H1 e Q fun H2 e2 => q vs H2 e2 rfl
theorem stays_eq {α : Type} {v : α} : Stays (fun x _ => x = v) := fun _ _ _ _ h => h
theorem evpa_nil : EvPA tNil σ H (fun vs _ => vs = []) := fun H1 _ _ q => q [] H1 (Ex.refl _) rfl
theorem evpa_cons (ha : EvP te σ H P) (mP : Stays P) (hr : EvPA tr σ H RA) : EvPA (tCons te tr) σ H (fun vs H => ∃ v ws, vs = v :: ws ∧ P v H ∧ RA ws H) := fun H1 e Q q =>
  ha H1 e _ fun v H2 e2 p => hr H2 (e.trans e2) _ fun ws H3 e3 r => q (v :: ws) H3 (e2.trans e3) ⟨v, ws, rfl, mP _ _ _ e3 p, r⟩
theorem evpa_one (ha : EvP te σ H P) : EvPA (tCons te tNil) σ H (fun vs H => ∃ v, vs = [v] ∧ P v H) := fun H1 e Q q =>
  ha H1 e _ fun v H2 e2 p => q [v] H2 e2 ⟨v, rfl, p⟩
theorem evp_lst (ha : EvPA tr σ H PA) (mA : Stays PA) (hz : ∀ vs H1, PA vs H1 → vs.length ≤ 100000) : EvP (tLst tr) σ H (fun v H => ∃ p vs, v = .ref p ∧ H p = some (.lst vs) ∧ PA vs H) := fun H1 e Q q =>
  ha H1 e _ fun vs H2 e2 p => ⟨sz_of (hz vs H2 p), fun l hl => q _ _ (e2.trans (Ex.new hl)) ⟨l, vs, rfl, upd_same, mA _ _ _ (Ex.new hl) p⟩⟩
theorem evp_lstS (ha : EvPA tr σ H PA) (mA : Stays PA) (hz : ∀ vs H1, PA vs H1 → vs.length ≤ 100000) : EvP (tLstS tr) σ H (fun v H => ∃ p vs, v = .ref p ∧ p ≠ sysModules ∧ H p = some (.lst vs) ∧ PA vs H) := fun H1 e Q q =>
  ha H1 e _ fun vs H2 e2 p => ⟨sz_of (hz vs H2 p), fun l hl hs => q _ _ (e2.trans (Ex.new hl)) ⟨l, vs, rfl, hs, upd_same, mA _ _ _ (Ex.new hl) p⟩⟩
theorem evp_tup (ha : EvPA tr σ H PA) (mA : Stays PA) (hz : ∀ vs H1, PA vs H1 → vs.length ≤ 100000) : EvP (tTup tr) σ H (fun v H => ∃ p vs, v = .ref p ∧ H p = some (.tup vs) ∧ PA vs H) := fun H1 e Q q =>
  ha H1 e _ fun vs H2 e2 p => ⟨sz_of (hz vs H2 p), fun l hl => q _ _ (e2.trans (Ex.new hl)) ⟨l, vs, rfl, upd_same, mA _ _ _ (Ex.new hl) p⟩⟩
theorem evp_op {r : R2} (ha : EvP ta σ H P) (mP : Stays P) (hb : EvP tb σ H R) (hr : ∀ x y H1, Ex H H1 → P x H1 → R y H1 → ∀ Q : VK, (∀ v H2, Ex H1 H2 → S v H2 → Q v H2) → r x y H1 Q) : EvP (tOp r ta tb) σ H S := fun H1 e Q q =>
  ha H1 e _ fun x H2 e2 p => hb H2 (e.trans e2) _ fun y H3 e3 p2 => hr x y H3 ((e.trans e2).trans e3) (mP _ _ _ e3 p) p2 Q fun v H4 e4 s => q v H4 ((e2.trans e3).trans e4) s
theorem evp_cb {r : List V → Hp → VK → Prop} (ha : EvPA tr σ H RA) (hr : ∀ vs H1, Ex H H1 → RA vs H1 → ∀ Q : VK, (∀ v H2, Ex H1 H2 → S v H2 → Q v H2) → r vs H1 Q) : EvP (tCB r tr) σ H S := fun H1 e Q q =>
  ha H1 e _ fun vs H2 e2 p => hr vs H2 (e.trans e2) p Q fun v H3 e3 s => q v H3 (e2.trans e3) s
theorem evp_call {sp : Sp} {dvs : List V} {E : XK} (ha : EvPA tr σ H RA) (hs : ∀ vs H1, Ex H H1 → RA vs H1 → ∀ Q : VK, (∀ v H2, Ex H1 H2 → S v H2 → Q v H2) → sp (vs ++ dvs) H1 Q E) : EvP (tCall sp dvs E tr) σ H S := fun H1 e Q q =>
  ha H1 e _ fun vs H2 e2 p => hs vs H2 (e.trans e2) p Q fun v H3 e3 s => q v H3 (e2.trans e3) s
theorem et_bl {b : Bool} (h : EvP te σ H fun v _ => v = .bl b) : EvT (tTest te) σ H b := et_test h.to
theorem et_yes : EvT tYes σ H true := fun H1 _ _ q => q H1 (Ex.refl _)
/-! statements -/
variable {D : Ends} {tz tu : TS}
theorem s_asgP {i : Nat} (h : EvP te σ H P) (k : ∀ v H1, Ex H H1 → P v H1 → D.nx (σ.set i (some v)) H1) : tAsg te (gName i) D σ H := h H (Ex.refl H) _ k
theorem q_asgP {i : Nat} (h : EvP te σ H P) (k : ∀ v H1, Ex H H1 → P v H1 → tz D (σ.set i (some v)) H1) : tSeq (tAsg te (gName i)) tz D σ H := s_asgP (D := { D with nx := tz D }) h k
theorem s_retP (h : EvP te σ H P) (k : ∀ v H1, Ex H H1 → P v H1 → D.rt v H1) : tRet te D σ H := h H (Ex.refl H) _ k
/-! xs + ys of two lists -/
theorem evp_cat (ha : EvP ta σ H fun v H => ∃ p vs, v = .ref p ∧ H p = some (.lst vs) ∧ PA vs H) (mA : Stays PA) (hb : EvP tb σ H fun v H => ∃ p vs, v = .ref p ∧ H p = some (.lst vs) ∧ RA vs H) (mR : Stays RA)
    (hz : ∀ xs ys H1, PA xs H1 → RA ys H1 → xs.length + ys.length ≤ 100000) :
    EvP (tOp rCat ta tb) σ H (fun v H => ∃ p vs, v = .ref p ∧ H p = some (.lst vs) ∧ ∃ xs ys, vs = xs ++ ys ∧ PA xs H ∧ RA ys H) := by
  refine evp_op ha (fun v H H' e h => ?_) hb (fun x y H1 e hx hy Q q => ?_)
  · obtain ⟨p, vs, rfl, h1, h2⟩ := h
    exact ⟨p, vs, rfl, e _ _ h1, mA _ _ _ e h2⟩
  · obtain ⟨p, xs, rfl, h1, h2⟩ := hx
    obtain ⟨p', ys, rfl, h3, h4⟩ := hy
    exact ⟨p, p', xs, ys, rfl, rfl, h1, h3, sz_of (hz _ _ _ h2 h4), fun o ho => q _ _ (Ex.new ho) ⟨o, _, rfl, upd_same, xs, ys, rfl, mA _ _ _ (Ex.new ho) h2, mR _ _ _ (Ex.new ho) h4⟩⟩
end

/-! ### lists of truth values, compared -/
section
variable {K : PySem.W.Frag} {σ : L2.St} {H : Hp} {ta tb : TE}
theorem dp_bools : ∀ bs : List Bool, DpAll K H (bs.map V.bl) (bs.map PyData.bool)
  | [] => .nil
  | b :: bs => .cons (.bl b) (dp_bools bs)
theorem lay_bools : ∀ bs : List Bool, PyData.canLayAll0 (bs.map PyData.bool) = true
  | [] => rfl
  | b :: bs => by
    show (true && PyData.canLayAll0 (bs.map PyData.bool)) = true
    rw [lay_bools bs]
    rfl
theorem dep_bools : ∀ bs : List Bool, PyData.depthAll (bs.map PyData.bool) = 0
  | [] => rfl
  | b :: bs => by
    show max 0 (PyData.depthAll (bs.map PyData.bool)) = 0
    rw [dep_bools bs]
    rfl
theorem shaped_bools (bs : List Bool) : SeqAt.shaped (.list (bs.map PyData.bool)) = true := by
  unfold SeqAt.shaped
  rw [Bool.and_eq_true]
  refine ⟨lay_bools bs, decide_eq_true ?_⟩
  show PyData.depthAll _ + 1 ≤ 64
  rw [dep_bools]
  decide
/-- a list of these truth values -/
def IsBools (bs : List Bool) : V → Hp → Prop := fun v H => ∃ p, v = .ref p ∧ H p = some (.lst (bs.map V.bl))
theorem stays_bools {bs : List Bool} : Stays (IsBools bs) := fun v H H' e ⟨p, h1, h2⟩ => ⟨p, h1, e _ _ h2⟩
theorem evp_neB {bs : List Bool} (ha : EvP ta σ H (IsBools bs)) (hb : EvP tb σ H (IsBools bs)) : EvP (tOp (rNeD K) ta tb) σ H (fun v _ => v = .bl false) := by
  refine evp_op ha stays_bools hb (fun x y H1 e hx hy Q q => ?_)
  obtain ⟨p, rfl, h1⟩ := hx
  obtain ⟨p', rfl, h2⟩ := hy
  refine ⟨.list (bs.map PyData.bool), .list (bs.map PyData.bool), .lst (SqL.of h1) (dp_bools bs), .lst (SqL.of h2) (dp_bools bs), shaped_bools bs, shaped_bools bs, ?_⟩
  rw [SeqAt.eqv_refl (.list (bs.map PyData.bool)) (lay_bools bs)]
  exact q _ _ (Ex.refl _) rfl
theorem evp_eqB {bs : List Bool} (ha : EvP ta σ H (IsBools bs)) (hb : EvP tb σ H (IsBools bs)) : EvP (tOp (rEqD K) ta tb) σ H (fun v _ => v = .bl true) := by
  refine evp_op ha stays_bools hb (fun x y H1 e hx hy Q q => ?_)
  obtain ⟨p, rfl, h1⟩ := hx
  obtain ⟨p', rfl, h2⟩ := hy
  refine ⟨.list (bs.map PyData.bool), .list (bs.map PyData.bool), .lst (SqL.of h1) (dp_bools bs), .lst (SqL.of h2) (dp_bools bs), shaped_bools bs, shaped_bools bs, ?_⟩
  rw [SeqAt.eqv_refl (.list (bs.map PyData.bool)) (lay_bools bs)]
  exact q _ _ (Ex.refl _) rfl
/-- [e for x in range(n)], e a truth value -/
theorem evp_lcB {ta : TA} {te : TE} {j : Nat} {vs : List Nat} {n : Nat} (f : Nat → Bool) (hn : n ≤ 40000) (h : EvA ta σ H [.int n]) (hw : ∀ x, wipe ((wipe σ vs).set j (some x)) vs = wipe σ vs)
    (he : ∀ (i : Nat) H1, Ex H H1 → i < n → Ev te ((wipe σ vs).set j (some (.int (i : Int)))) H1 (.bl (f i))) : EvP (tLc (iRng1 ta) (gName j) tYes te vs) σ H (IsBools ((List.range n).map f)) := by
  have k := el_lcR1 (t := tYes) (n := (n : Int)) (fun _ => true) (fun i => V.bl (f i)) h ⟨by omega, by omega⟩ hw (fun i H1 _ _ => et_yes) (fun i H1 e hi _ => he i H1 e (by omega))
  refine fun H1 e Q q => k H1 e Q fun p H2 _ e2 hp => q _ _ e2 ⟨p, rfl, ?_⟩
  rw [hp]
  unfold given
  rw [List.filter_eq_self.mpr (fun _ _ => rfl), List.map_map]
  rfl
end

/-! ### rules within a comprehension's block, whose written part is told -/
section
variable {X : Cx} {K : PySem.W.Frag}
theorem ix_listK (h : X.K = K := by rfl) : IxR X (rIxL K) := h ▸ ix_list
theorem ix_tupK (h : X.K = K := by rfl) : IxR X (rIxT K) := h ▸ ix_tup
theorem op_in_seqK (h : X.K = K := by rfl) : OpR X (compareOp .In) (rIn K false) := h ▸ op_in_seq
theorem op_notIn_seqK (h : X.K = K := by rfl) : OpR X (compareOp .NotIn) (rIn K true) := h ▸ op_notIn_seq
theorem op_eqDK (hu : X.A.units + 64 < cLine) (h : X.K = K := by rfl) : OpR X (compareOp .Eq) (rEqD K) := h ▸ op_eqD hu
theorem op_neDK (hu : X.A.units + 64 < cLine) (h : X.K = K := by rfl) : OpR X (compareOp .NotEq) (rNeD K) := h ▸ op_neD hu
end
end XV

set_option Elab.async false
set_option maxRecDepth 100000
set_option maxHeartbeats 2000000
set_option linter.all false
set_option pp.maxSteps 200
namespace K00
open PySem PySem.Spec PyProof.Rows L2 XG XE XS XV
def top (i : Nat) : Stmt := PySem.Challenge.pw_needrows_k00_errors.main.body.getD i (.Pass ⟨0, 0, 0, 0⟩)
abbrev sDice : Stmt := (top 19)
abbrev sPull : Stmt := (top 20)
abbrev sPick : Stmt := (top 21)
abbrev sValue : Stmt := (top 22)
abbrev sClasses : Stmt := (top 23)
abbrev sBases : Stmt := (top 24)
abbrev sMsg : Stmt := (top 25)
abbrev sVal : Stmt := (top 26)
abbrev sLaw : Stmt := (top 27)
abbrev sI12 : Stmt := (inClass (top 14) 0)
abbrev sI13 : Stmt := (inClass (top 15) 0)
abbrev sI14 : Stmt := (inClass (top 16) 0)
abbrev sI15 : Stmt := (inClass (top 17) 0)
/-- the built-in names that the text uses -/
structure Bt (mg : Str → Option Value) : Prop where
  int : mg "int" = none
  abs : mg "abs" = none
  max : mg "max" = none
  min : mg "min" = none
  len : mg "len" = none
  range : mg "range" = none
  repr : mg "repr" = none
  isinstance : mg "isinstance" = none
  ValueError : mg "ValueError" = none
  IndexError : mg "IndexError" = none
  KeyError : mg "KeyError" = none
  OverflowError : mg "OverflowError" = none
  ArithmeticError : mg "ArithmeticError" = none
  LookupError : mg "LookupError" = none
/-- .. and its classes: at ad 0 .. ad 15 those that are told apart, at ad 16 RowsError -/
structure Tx (mg : Str → Option Value) (ad : Nat → Addr) : Prop extends Bt mg where
  g_InvalidName : mg "InvalidName" = some (.ref (ad 0))
  g_InvalidCondition : mg "InvalidCondition" = some (.ref (ad 1))
  g_InvalidQuestion : mg "InvalidQuestion" = some (.ref (ad 2))
  g_InvalidRow : mg "InvalidRow" = some (.ref (ad 3))
  g_InvalidLog : mg "InvalidLog" = some (.ref (ad 4))
  g_InvalidKind : mg "InvalidKind" = some (.ref (ad 5))
  g_InvalidRest : mg "InvalidRest" = some (.ref (ad 6))
  g_InvalidState : mg "InvalidState" = some (.ref (ad 7))
  g_InvalidMark : mg "InvalidMark" = some (.ref (ad 8))
  g_InvalidOperation : mg "InvalidOperation" = some (.ref (ad 9))
  g_ParseError : mg "ParseError" = some (.ref (ad 10))
  g_InvalidCommand : mg "InvalidCommand" = some (.ref (ad 11))
  g_InvalidNumber : mg "InvalidNumber" = some (.ref (ad 12))
  g_UnknownName : mg "UnknownName" = some (.ref (ad 13))
  g_TooMany : mg "TooMany" = some (.ref (ad 14))
  g_NothingToUndo : mg "NothingToUndo" = some (.ref (ad 15))
  g_RowsError : mg "RowsError" = some (.ref (ad 16))
/-- a def of the text under its name -/
structure Dn (K : PySem.W.Frag) (mg : Str → Option Value) (x : Str) (st : Stmt) (f : Addr) (fd : FuncData) (ps : List Str) : Prop where
  F : Fun K x x st f fd
  m : mg x = some (.ref f)
  b : Binds K fd ps []
theorem pe_cls {X : Cx} {x : Str} {pos : Pos} {a : Addr} (hg : Gl X x) (hm : X.mg x = some (.ref a)) (hd : (x == ("__debug__" : Str)) = false := by decide) : PE X (.Name x pos) (tC (.ref a)) := pe_glob hg hm rfl hd
theorem pe_tyb {X : Cx} {x : Str} {pos : Pos} {n : String} (hg : Gl X x) (hm : X.mg x = none) (hv : bootBuiltins x = some (.type n)) (hn : x ≠ "__name__" := by decide) (hd : (x == ("__debug__" : Str)) = false := by decide) : PE X (.Name x pos) (tC (.ty n)) := pe_bltn hg hm hv rfl hn hd
/-- a text, so many times -/
theorem op_mulS {X : Cx} : OpR X (binaryOp .Mult) (fun x y H Q => ∃ z n, x = .str z ∧ y = .int n ∧ MulOk z n ∧ Q (.str (Txt.mul z n)) H) := by
  intro pins s σ H x y v u Q I rx ry h
  obtain ⟨z, n, rfl, rfl, hok, q⟩ := h
  obtain ⟨t, rfl⟩ := rx
  obtain ⟨t', rfl⟩ := ry
  exact PySem.SB.mul hok fun t2 k => ⟨.str _, H, I.tok _, ⟨_, rfl⟩, q⟩

/-- at a: the list of a draw's three numbers -/
def Dice (H : Hp) (a : Addr) : Prop := ∃ g m c : Int, H a = some (.lst [.int g, .int m, .int c])
/-- what else was tracked is as it was -/
def But (a : Addr) (H H' : Hp) : Prop := ∀ b o, b ≠ a → H b = some o → H' b = some o
theorem But.upd {a : Addr} {H : Hp} {o : HO} : But a H (upd H a o) := fun b u hb e => by rw [upd_ne hb]; exact e
theorem But.trans {a : Addr} {H H1 H2 : Hp} (x : But a H H1) (y : But a H1 H2) : But a H H2 := fun b o hb e => y b o hb (x b o hb e)
theorem But.of {a : Addr} {H H1 : Hp} (x : Evl.Ex H H1) : But a H H1 := fun b o _ e => x b o e
theorem sqL_but {K : PySem.W.Frag} {a p : Addr} {H H' : Hp} {xs : List V} (x : But a H H') (n : p ≠ a) (h : SqL K H p xs) : SqL K H' p xs := by
  rcases h with (h | ⟨o, h⟩) | h
  · exact .inl (.inl (x _ _ n h))
  · exact .inl (.inr ⟨o, x _ _ n h⟩)
  · exact .inr h
def spDice (K : PySem.W.Frag) : Sp := fun vs H Q _ => ∃ (p : Addr) (ns : List Int) (at_ : Int), vs = [.ref p, .int at_] ∧ SqL K H p (ns.map V.int) ∧ ns.length ≤ 63 ∧ 0 ≤ at_ ∧
  ∀ (a : Addr) (g m c : Int), H a = none → Q (.ref a) (upd H a (.lst [.int g, .int m, .int c]))
def spPull : Sp := fun vs H Q _ => ∃ (a : Addr) (t : Int), vs = [.ref a, .int t] ∧ Dice H a ∧ 0 < t ∧ t < 1073741824 ∧
  ∀ (r : Int) (g m c : Int), 0 ≤ r → r < t → Q (.int r) (upd H a (.lst [.int g, .int m, .int c]))
def spPick (K : PySem.W.Frag) : Sp := fun vs H Q _ => ∃ (a p : Addr) (xs : List V), vs = [.ref a, .ref p] ∧ Dice H a ∧ p ≠ a ∧ SqL K H p xs ∧ 0 < xs.length ∧ xs.length ≤ 1000 ∧
  ∀ (v : V) (g m c : Int), v ∈ xs → Q v (upd H a (.lst [.int g, .int m, .int c]))
local macro_rules | `(tactic| walk_at "sq") => `(tactic| (first | exact SqL.of (by assumption) | exact SqL.of upd_same | exact SqT.of (by assumption) | exact SqT.of upd_same | assumption))
local macro_rules | `(tactic| walk_at "ar") => `(tactic| (first | decide | exact ⟨by decide, by decide⟩ | (left; exact ⟨by decide, by decide⟩) | (right; exact ⟨by decide, by decide⟩) | omega | exact ⟨by omega, by omega⟩ | (left; exact ⟨by omega, by omega⟩) | (right; exact ⟨by omega, by omega⟩) | assumption | exact ⟨by decide, by decide, by decide⟩ | exact ⟨by decide, by decide, by omega⟩ | (show (0 : Int) < _; decide +kernel) | exact ⟨by decide +kernel, by decide +kernel⟩))
local macro_rules | `(tactic| walk_at "r1") => `(tactic| (first
  | refine ⟨_, rfl, ?_⟩
  | refine ⟨_, _, rfl, rfl, (show (_ : Prop) from by walk_at "ar"), ?_⟩
  | refine ⟨_, _, rfl, rfl, ?_⟩
  | refine ⟨_, _, rfl, ?_⟩
  | refine Or.inl ⟨_, rfl, ?_⟩
  | refine Or.inr ⟨_, rfl, ?_⟩
  | refine ⟨_, _, _, _, rfl, rfl, (by walk_at "sq"), rfl, ?_⟩
  | refine ⟨_, _, _, _, rfl, rfl, (by first | assumption | exact upd_same), rfl, ?_⟩))
theorem atI_in {xs : List V} {i : Int} (h0 : 0 ≤ i) (h1 : i < (xs.length : Int)) : ∃ v, atI xs i = some v ∧ v ∈ xs := by
  have hj : i.toNat < xs.length := by omega
  refine ⟨xs[i.toNat], ?_, List.getElem_mem hj⟩
  unfold atI ixN
  rw [if_pos h0, if_pos h1]
  simp [hj]
section
variable {P : Program} {w : World} {K : PySem.W.Frag} {mg : Str → Option Value} {base : Heap}
theorem scPull : FnScope ["dice", "total", "found", "one", "two"] ["dice", "total"] (defScope sPull) := ⟨rfl, rfl, rfl, by decide +kernel, rfl, by decide +kernel, by decide +kernel⟩
theorem okPull {f : Addr} {fd : FuncData} (F : Fun K "_law_pull" "_law_pull" sPull f fd) (T : Bt mg) : FnOk P w K mg base CX0 1 f fd ["dice", "total"] spPull := by
  refine F.ok scPull (fun vs H Q E h => ?_) (fun cdv A outer s H vs Q E hr h => ?_)
  · obtain ⟨a, t, rfl, _⟩ := h
    rfl
  · obtain ⟨a, t, rfl, ⟨g, m, c, hd⟩, ht, ht2, k⟩ := h
    refine ⟨_, (pss_cons (ps_if (pt_cmpR op_gt (pe_ix ix_list (pv 0) pe_int (fun _ _ => rfl)) pe_int (nomark _)) (pss_cons (ps_set (i := 2) scPull.nd rfl (Or.inl rfl) (pe_op op_mod (pe_callTy call_int1 (by rfl) T.int (by decide +kernel) (pa_cons (pe_ix ix_list (pv 0) pe_int (fun _ _ => rfl)) pa_nil)) (pv 1)))
  (pss_cons (ps_asg (pe_op op_fdiv (pe_ix ix_list (pv 0) pe_int (fun _ _ => rfl)) (pv 1)) (pg_sub (pv 0) pe_int set_list))
  (pss_one (ps_ret (pv 2))))) pss_nil)
  (pss_cons (ps_asg (pe_op op_add (pe_ix ix_list (pv 0) pe_int (fun _ _ => rfl)) pe_int) (pg_sub (pv 0) pe_int set_list))
  (pss_cons (ps_set (i := 3) scPull.nd rfl (Or.inl rfl) (pe_op op_mod (pe_callTy call_int1 (by rfl) T.int (by decide +kernel) (pa_cons (pe_op op_add (pe_ix ix_list (pv 0) pe_int (fun _ _ => rfl)) (pe_op op_mul pe_int (pe_ix ix_list (pv 0) pe_int (fun _ _ => rfl)))) pa_nil)) pe_int))
  (pss_cons (ps_set (i := 4) scPull.nd rfl (Or.inl rfl) (pe_op op_mul (pe_op op_mod (pe_callTy call_int1 (by rfl) T.int (by decide +kernel) (pa_cons (pe_op op_mul (pv 3) (pv 3)) pa_nil)) pe_int) (pv 3)))
  (pss_one (ps_ret (pe_op op_mod (pe_callTy call_int1 (by rfl) T.int (by decide +kernel) (pa_cons (pe_op op_fdiv (pe_op op_mod (pe_callTy call_int1 (by rfl) T.int (by decide +kernel) (pa_cons (pe_op op_add (pv 4) (pe_op op_mul pe_int (pe_ix ix_list (pv 0) pe_int (fun _ _ => rfl)))) pa_nil)) pe_int) pe_int) pa_nil)) (pv 1)))))))), ?_⟩
    repeat walk_at "r1"
    refine ite2 (fun _ => ?_) (fun _ => ?_)
    · repeat walk_at "r1"
      exact k _ _ _ _ (Int.emod_nonneg _ (by omega)) (Int.emod_lt_of_pos _ ht)
    · repeat walk_at "r1"
      exact k _ _ _ _ (Int.emod_nonneg _ (by omega)) (Int.emod_lt_of_pos _ ht)
theorem scDice : FnScope ["script", "at", "cell", "great", "mixed"] ["script", "at"] (defScope sDice) := ⟨rfl, rfl, rfl, by decide +kernel, rfl, by decide +kernel, by decide +kernel⟩
theorem okDice {f : Addr} {fd : FuncData} (F : Fun K "_law_dice" "_law_dice" sDice f fd) (T : Bt mg) : FnOk P w K mg base CX0 1 f fd ["script", "at"] (spDice K) := by
  refine F.ok scDice (fun vs H Q E h => ?_) (fun cdv A outer s H vs Q E hr h => ?_)
  · obtain ⟨p, ns, at_, rfl, _⟩ := h
    rfl
  · obtain ⟨p, ns, at_, rfl, hS, hz, h0, k⟩ := h
    refine ⟨_, (pss_cons (ps_set (i := 2) scDice.nd rfl (Or.inl rfl) (pe_op op_add (pe_op op_mul pe_int (pv 1)) pe_int))
  (pss_cons (ps_if (pt_cmpR op_lt (pv 1) (pe_callB call_len_seq (by rfl) T.len (by decide +kernel) (pa_cons (pv 0) pa_nil)) (nomark _)) (pss_one (ps_set (i := 2) scDice.nd rfl (Or.inl rfl) (pe_ix ix_list (pv 0) (pv 1) (fun _ _ => rfl)))) pss_nil)
  (pss_cons (ps_set (i := 3) scDice.nd rfl (Or.inl rfl) (pe_op op_mod (pe_callTy call_int1 (by rfl) T.int (by decide +kernel) (pa_cons (pe_callB call_abs (by rfl) T.abs (by decide +kernel) (pa_cons (pv 2) pa_nil)) pa_nil)) (pe_op op_powB (pe_op op_pow pe_int pe_int) pe_int)))
  (pss_cons (ps_set (i := 4) scDice.nd rfl (Or.inl rfl) (pe_op op_add (pe_op op_add (pe_op op_add (pe_op op_mul (pe_op op_mod (pe_callTy call_int1 (by rfl) T.int (by decide +kernel) (pa_cons (pv 3) pa_nil)) pe_int) pe_int) (pe_op op_mul pe_int (pv 1))) (pe_op op_mul pe_int (pe_callTy call_int1 (by rfl) T.int (by decide +kernel) (pa_cons (pe_cmpR op_lt (pv 2) pe_int (nomark _)) pa_nil)))) pe_int))
  (pss_one (ps_ret (pe_lst (pa_cons (pe_callB (call_max2 rfl) (by rfl) T.max (by decide +kernel) (pa_cons pe_int (pa_cons (pe_op op_sub (pv 3) (pe_op op_pow pe_int pe_int)) pa_nil))) (pa_cons (pe_op op_mod (pe_callTy call_int1 (by rfl) T.int (by decide +kernel) (pa_cons (pv 4) pa_nil)) pe_int) (pa_cons pe_int pa_nil)))))))))), ?_⟩
    repeat walk_at "r1"
    refine ⟨_, _, rfl, Or.inl hS, ?_⟩
    repeat walk_at "r1"
    refine ite2 (fun hlt => ?_) (fun _ => ?_)
    · have hlt := of_decide_eq_true hlt
      obtain ⟨v, hv, hm⟩ := atI_in (xs := ns.map V.int) h0 hlt
      obtain ⟨z, _, rfl⟩ := List.mem_map.mp hm
      refine ⟨_, rfl, _, rfl, _, _, _, _, rfl, rfl, hS, hv, ?_⟩
      repeat walk_at "r1"
      refine ⟨by show 3 ≤ sizeLine; decide, fun a ha => ?_⟩
      exact k a _ _ _ ha
    · repeat walk_at "r1"
      refine ⟨by show 3 ≤ sizeLine; decide, fun a ha => ?_⟩
      exact k a _ _ _ ha
theorem scPick : FnScope ["dice", "items"] ["dice", "items"] (defScope sPick) := ⟨rfl, rfl, rfl, by decide +kernel, rfl, by decide +kernel, by decide +kernel⟩
theorem okPick {f f1 : Addr} {fd fd1 : FuncData} (F : Fun K "_law_pick" "_law_pick" sPick f fd) (T : Bt mg) (D_law_pull : Dn K mg "_law_pull" sPull f1 fd1 ["dice", "total"]) : FnOk P w K mg base CX0 2 f fd ["dice", "items"] (spPick K) := by
  have G_law_pull : FnOk P w K mg base CX0 1 f1 fd1 ["dice", "total"] spPull := okPull D_law_pull.F T
  refine F.ok scPick (fun vs H Q E h => ?_) (fun cdv A outer s H vs Q E hr h => ?_)
  · obtain ⟨a, p, xs, rfl, _⟩ := h
    rfl
  · obtain ⟨a, p, xs, rfl, hd, hpa, hS, h0, hz, k⟩ := h
    refine ⟨_, (pss_one (ps_ret (pe_ix ix_list (pv 1) (pe_call G_law_pull hr rfl D_law_pull.m D_law_pull.F.kp D_law_pull.b .nil pass0 (pa_cons (pv 0) (pa_cons (pe_callB call_len_seq (by rfl) T.len (by decide +kernel) (pa_cons (pv 1) pa_nil)) pa_nil))) (fun _ _ => rfl)))), ?_⟩
    refine ⟨_, rfl, _, rfl, _, rfl, _, _, rfl, Or.inl hS, a, _, rfl, hd, by omega, by omega, fun r g m c hr0 hr1 => ?_⟩
    obtain ⟨v, hv, hm⟩ := atI_in hr0 hr1
    exact ⟨_, _, _, _, rfl, rfl, sqL_but But.upd hpa hS, hv, k v g m c hm⟩
/-- a kept value: small enough to be shown -/
structure Good (d : PyData) : Prop where
  sh : d.showable = true
  dp : d.depth ≤ 3
  pl : plainD d = true
  z : sz d ≤ 20000
/-- without the place a -/
theorem ex_off {a : Addr} {H H' : Hp} (x : But a H H') : Evl.Ex (delH H a) (delH H' a) := fun b o e => by
  by_cases hb : b = a
  · rw [hb, delH_same] at e
    cases e
  · rw [delH_ne hb] at e ⊢
    exact x b o hb e
theorem ex_off' {a : Addr} {H H' : Hp} (x : But a H H') : Evl.Ex (delH H a) H' := fun b o e => by
  by_cases hb : b = a
  · rw [hb, delH_same] at e
    cases e
  · rw [delH_ne hb] at e
    exact x b o hb e
def spValue (K : PySem.W.Frag) : Sp := fun vs H Q _ => ∃ a : Addr, vs = [.ref a] ∧ Dice H a ∧
  ∀ (v : V) (d : PyData) (H' : Hp), Rep K (delH H' a) v d → Good d → But a H H' → Dice H' a → Q v H'
theorem mulOk1 {x : Str} {k : Int} (hx : x.length = 1) (h0 : 0 ≤ k) (h1 : k ≤ 1000) : MulOk x k := by
  refine ⟨?_, fun h2 _ => ?_, fun _ _ => ?_⟩
  · simp only [Bool.or_eq_false_iff, decide_eq_false_iff_not]
    omega
  · rw [hx]
    have : (1 : Int) ≤ (2 ^ 63 - 1) / k := Int.le_ediv_of_mul_le (by omega) (by omega)
    omega
  · rw [hx]
    exact decide_eq_false (by rw [sizeLine_eq]; omega)
theorem upd_none {H : Hp} {a b : Addr} {o : HO} (e : upd H a o b = none) : b ≠ a ∧ H b = none := by
  by_cases hb : b = a
  · rw [hb, upd_same] at e
    cases e
  · rw [upd_ne hb] at e
    exact ⟨hb, e⟩
theorem log2_lt' {n k : Nat} (hk : 0 < k) (h : n < 2 ^ k) : n.log2 < k := by
  by_cases h0 : n = 0
  · rw [h0]
    simpa using hk
  · exact (Nat.log2_lt h0).mpr h
theorem foldl_app : ∀ (l : List (Array Nat)) (acc : Array Nat), (l.foldl (· ++ ·) acc).toList = acc.toList ++ (l.map Array.toList).flatten
  | [], acc => by simp
  | x :: l, acc => by
    rw [List.foldl_cons, foldl_app l]
    simp
theorem mul_len {x : Str} {k : Int} (h0 : 0 ≤ k) : (Txt.mul x k).length ≤ k.toNat * x.length := by
  unfold Txt.mul
  split
  · exact Nat.zero_le _
  · split
    · rename_i h1 h2
      simp only [Bool.or_eq_true, beq_iff_eq] at h2
      rcases h2 with h2 | h2
      · rw [h2]
        show x.length ≤ 1 * x.length
        omega
      · rw [h2]
        exact Nat.zero_le _
    · show (((List.replicate k.toNat x.cps).foldl (· ++ ·) #[]).size) ≤ _
      rw [← Array.length_toList, foldl_app]
      simp [Str.length]
theorem mul_plain {x : Str} {k : Int} (h : plainT x = true) : plainT (Txt.mul x k) = true := by
  unfold Txt.mul
  split
  · rfl
  · split
    · exact h
    · unfold plainT at h ⊢
      rw [List.all_eq_true] at h ⊢
      intro c hc
      have hc : c ∈ ((List.replicate k.toNat x.cps).foldl (· ++ ·) #[]).toList := hc
      rw [foldl_app] at hc
      simp only [List.nil_append, List.map_replicate, List.mem_flatten, List.mem_replicate] at hc
      obtain ⟨l, ⟨_, rfl⟩, hc⟩ := hc
      exact h c hc
theorem good_int {n : Int} (h : n.natAbs.log2 < 1000) : Good (.int n) := ⟨by show decide _ = true; exact decide_eq_true (by omega), Nat.zero_le _, rfl, by show _ + 2 ≤ _; omega⟩
theorem scValue : FnScope ["dice", "number", "found"] ["dice"] (defScope sValue) := ⟨rfl, rfl, rfl, by decide +kernel, rfl, by decide +kernel, by decide +kernel⟩
theorem okValue {f f1 f2 : Addr} {fd fd1 fd2 : FuncData} (F : Fun K "_law_value" "_law_value" sValue f fd) (T : Bt mg) (D_law_pull : Dn K mg "_law_pull" sPull f1 fd1 ["dice", "total"])
    (D_law_pick : Dn K mg "_law_pick" sPick f2 fd2 ["dice", "items"]) : FnOk P w K mg base CX0 3 f fd ["dice"] (spValue K) := by
  have G_law_pull : FnOk P w K mg base CX0 1 f1 fd1 ["dice", "total"] spPull := okPull D_law_pull.F T
  have G_law_pick : FnOk P w K mg base CX0 2 f2 fd2 ["dice", "items"] (spPick K) := okPick D_law_pick.F T D_law_pull
  refine F.ok scValue (fun vs H Q E h => ?_) (fun cdv A outer s H vs Q E hr h => ?_)
  · obtain ⟨a, rfl, _⟩ := h
    rfl
  · obtain ⟨a, rfl, hd, k⟩ := h
    have hr1 : Room 1 _ := hr.mono (by decide)
    refine ⟨_, (pss_cons (ps_set (i := 1) scValue.nd rfl (Or.inl rfl) (pe_op op_sub (pe_call G_law_pull hr1 rfl D_law_pull.m D_law_pull.F.kp D_law_pull.b .nil pass0 (pa_cons (pv 0) (pa_cons pe_int pa_nil))) pe_int))
  (pss_cons (ps_set (i := 2) scValue.nd rfl (Or.inl rfl) (pe_lst (pa_cons (pv 1) (pa_cons (pe_op op_pow (pv 1) pe_int) (pa_cons pe_non (pa_cons (pe_cmpR op_gt (pv 1) pe_int (nomark _)) (pa_cons (pe_op op_mulS pe_str (pe_callTy call_int1 (by rfl) T.int (by decide +kernel) (pa_cons (pe_callB call_abs (by rfl) T.abs (by decide +kernel) (pa_cons (pv 1) pa_nil)) pa_nil))) (pa_cons (pe_tup (pa_cons (pv 1) (pa_cons pe_str pa_nil))) (pa_cons (pe_lstS (pa_cons (pv 1) pa_nil)) (pa_cons (pe_disp (pps_cons (pv 1) pe_str pps_nil) (by rfl) (by rfl) (fun z => by cases z) (by decide)) pa_nil))))))))))
  (pss_one (ps_ret (pe_call G_law_pick hr rfl D_law_pick.m D_law_pick.F.kp D_law_pick.b .nil pass0 (pa_cons (pv 0) (pa_cons (pv 2) pa_nil))))))), ?_⟩
    refine ⟨_, rfl, a, 1000, rfl, hd, by decide, by decide, fun r g m c h0 h1 => ⟨_, _, rfl, rfl, ?_⟩⟩
    refine ⟨_, rfl, _, rfl, _, _, rfl, rfl, ⟨by decide, by decide, by omega⟩, _, rfl, _, _, rfl, rfl, _, rfl, _, rfl, Or.inl ⟨_, rfl, ?_⟩⟩
    refine ⟨_, _, rfl, rfl, mulOk1 rfl (by split <;> omega) (by split <;> omega), _, rfl, ?_⟩
    refine ⟨by show 2 ≤ sizeLine; decide, fun p1 n1 => ⟨_, rfl, by show 1 ≤ sizeLine; decide, fun p2 n2 ns2 => ?_⟩⟩
    intro p3 n3
    refine ⟨_, rfl, upd_same, [(Sum.inl (r - 500), V.str "x")], rfl, by show 1 ≤ 15; decide, by show 8 ≤ sizeLine; decide, fun p4 n4 => ?_⟩
    obtain ⟨a1, n1'⟩ := upd_none n1
    obtain ⟨b1, n2'⟩ := upd_none n2
    obtain ⟨a2, n2'⟩ := upd_none n2'
    obtain ⟨c2, n3'⟩ := upd_none n3
    obtain ⟨c1, n3'⟩ := upd_none n3'
    obtain ⟨a3, n3'⟩ := upd_none n3'
    obtain ⟨d3, n4'⟩ := upd_none n4
    obtain ⟨_, n4'⟩ := upd_none n4'
    obtain ⟨d2, n4'⟩ := upd_none n4'
    obtain ⟨d1, n4'⟩ := upd_none n4'
    obtain ⟨a4, n4'⟩ := upd_none n4'
    refine ⟨_, rfl, _, rfl, a, p4, _, rfl, ⟨g, m, c, by rw [upd_ne (Ne.symm a4), upd_ne (Ne.symm a3), upd_ne (Ne.symm a3), upd_ne (Ne.symm a2), upd_ne (Ne.symm a1), upd_same]⟩, a4, SqL.of upd_same, by show 0 < 8; decide, by show 8 ≤ 1000; decide, fun v g' m' c' hv => ?_⟩
    let L : List V := [.int (r - 500), .int ((r - 500) ^ 9), .non, .bl (decide (0 < r - 500)), .str (Txt.mul "n" (if r - 500 < 0 then -(r - 500) else r - 500)), .ref p1, .ref p2, .ref p3]
    let kd : List (Key × V) := [((Sum.inl (r - 500) : Key), V.str "x")]
    let Ha : Hp := upd H a (.lst [.int g, .int m, .int c])
    let H1 : Hp := upd Ha p1 (.tup [.int (r - 500), .str "x"])
    let H2 : Hp := upd H1 p2 (.lst [.int (r - 500)])
    let H3 : Hp := upd (upd H2 p3 (.dK [])) p3 (.dK kd)
    let H4 : Hp := upd H3 p4 (.lst L)
    let Hf : Hp := upd H4 a (.lst [.int g', .int m', .int c'])
    have e3 : Evl.Ex H3 H4 := Evl.Ex.new n4
    have e2 : Evl.Ex H2 H4 := (Evl.Ex.mut (Evl.Ex.new n3) n3).trans e3
    have e1 : Evl.Ex H1 H4 := (Evl.Ex.new n2).trans e2
    have ex : Evl.Ex Ha H4 := (Evl.Ex.new n1).trans e1
    have bt : But a H Hf := (But.upd.trans (But.of ex)).trans But.upd
    have dc : Dice Hf a := ⟨g', m', c', upd_same⟩
    have go : ∀ d, Rep K (delH Hf a) v d → Good d → Q v Hf := fun d h1 h2 => k v d _ h1 h2 bt dc
    simp only [List.mem_cons, List.not_mem_nil, or_false] at hv
    have hb : (r - 500).natAbs ≤ 500 := by omega
    have hl : (r - 500).natAbs.log2 < 10 := log2_lt' (by decide) (by omega)
    have hp : ((r - 500) ^ 9).natAbs.log2 < 90 := log2_lt' (by decide) (by
      rw [Int.natAbs_pow]
      exact Nat.lt_of_le_of_lt (Nat.pow_le_pow_left hb 9) (by decide))
    rcases hv with rfl | rfl | rfl | rfl | rfl | rfl | rfl | rfl
    · exact go _ (.int _) (good_int (by omega))
    · exact go _ (.int _) (good_int (Nat.lt_of_lt_of_le hp (by decide)))
    · exact go _ .non ⟨rfl, Nat.zero_le _, rfl, by decide⟩
    · exact go _ (.bl _) ⟨rfl, Nat.zero_le _, rfl, by show 5 ≤ _; decide⟩
    · refine go _ (.str _) ⟨rfl, Nat.zero_le _, mul_plain (by decide +kernel), ?_⟩
      have := mul_len (x := "n") (k := if r - 500 < 0 then -(r - 500) else r - 500) (by split <;> omega)
      have h1 : ("n" : Str).length = 1 := by decide
      rw [h1] at this
      have h2 : (if r - 500 < 0 then -(r - 500) else r - 500).toNat ≤ 500 := by split <;> omega
      show 10 * _ + 2 ≤ _
      omega
    · refine go (.tuple [.int (r - 500), .str "x"]) (.tup (SqT.of ?_) (.cons (.int _) (.cons (.str _) .nil))) ⟨by show (decide _ && (true && true)) = true; simp; omega, show (1 : Nat) ≤ 3 by decide, by show (true && (plainT "x" && true)) = true; decide, by show 3 + ((r - 500).natAbs.log2 + 2 + 2 + (10 * 1 + 2 + 2 + 0)) ≤ _; omega⟩
      exact (delH_ne a1).trans ((upd_ne a1).trans (e1 _ _ upd_same))
    · refine go (.list [.int (r - 500)]) (.lst (SqL.of ?_) (.cons (.int _) .nil) ns2) ⟨by show (decide _ && true) = true; simp; omega, show (1 : Nat) ≤ 3 by decide, rfl, by show 2 + ((r - 500).natAbs.log2 + 2 + 2 + 0) ≤ _; omega⟩
      exact (delH_ne a2).trans ((upd_ne a2).trans (e2 _ _ upd_same))
    · refine go (.dict [(.int (r - 500), .str "x")]) (.dic (kvs := [((Sum.inl (r - 500) : Key), V.str "x")]) ?_ (.cons (.int _) .nil) (.cons (.str _) .nil)) ⟨by show (decide _ && true && true) = true; simp; omega, show (1 : Nat) ≤ 3 by decide, by show (true && plainT "x" && true) = true; decide, by show 2 + ((r - 500).natAbs.log2 + 2 + (10 * 1 + 2) + 4 + 0) ≤ _; omega⟩
      exact (delH_ne a3).trans ((upd_ne a3).trans (e3 _ _ upd_same))
/-! ### which classes an error is of -/
section
variable {σ : L2.St} {H : Hp} {ta tb te : TE}
theorem ex_is {a D : Addr} {c : V} {cv : Value} {b : Bool} {i : Nat} (hx : ExcAt H a D) (hC : ExcC K D) (hc : ClsV c cv) (hk : PySem.W.kitOne K (.ref D) cv = some b) (hσ : σ[i]? = some (some (.ref a)) := by rfl) :
    Evl.Ev (tCB (rIsX K) (tCons (tVar i) (tCons (tC c) tNil))) σ H (.bl b) := fun H1 e Q q =>
  ⟨_, hσ, a, D, c, cv, b, rfl, hx.mono e, hC, hc, hk, q H1 (Evl.Ex.refl _)⟩
theorem el_cat {l : Addr} {xs ys : List V} (ha : Evl.Ev ta σ H (.ref l)) (hl : H l = some (.lst xs)) (hb : Evl.EvL tb σ H ys) (hz : xs.length + ys.length ≤ 100000) : Evl.EvL (tOp rCat ta tb) σ H (xs ++ ys) := fun H1 e Q q =>
  ha H1 e _ fun H2 e2 => hb H2 (e.trans e2) _ fun p H3 np e3 hp => ⟨l, p, xs, ys, rfl, rfl, e3 _ _ (e2 _ _ (e _ _ hl)), hp, Evl.sz_of hz, fun o ho => q o _ (Evl.fresh_back (e2.trans e3) ho) ((e2.trans e3).trans (Evl.Ex.new ho)) upd_same⟩
end
def spCls (K : PySem.W.Frag) (ad : Nat → Addr) : Sp := fun vs H Q _ => ∃ (a D : Addr) (b : Nat → Bool), vs = [.ref a] ∧ ExcAt H a D ∧ ExcC K D ∧ (∀ i, i < 16 → PySem.W.kitOne K (.ref D) (.ref (ad i)) = some (b i)) ∧
  ∀ (p : Addr) (H' : Hp), H p = none → Evl.Ex H H' → H' p = some (.lst ((List.range 16).map fun i => .bl (b i))) → Q (.ref p) H'
theorem scClasses : FnScope ["error", "found"] ["error"] (defScope sClasses) := ⟨rfl, rfl, rfl, by decide +kernel, rfl, by decide +kernel, by decide +kernel⟩
theorem okClasses {ad : Nat → Addr} {f : Addr} {fd : FuncData} (F : Fun K "_law_classes" "_law_classes" sClasses f fd) (T : Tx mg ad) : FnOk P w K mg base CX0 1 f fd ["error"] (spCls K ad) := by
  refine F.ok scClasses (fun vs H Q E h => ?_) (fun cdv A outer s H vs Q E hr h => ?_)
  · obtain ⟨a, D, b, rfl, _⟩ := h
    rfl
  · obtain ⟨a, D, b, rfl, hx, hC, hk, k⟩ := h
    refine ⟨_, (pss_cons (ps_set (i := 1) scClasses.nd rfl (Or.inl rfl) (pe_lst (pa_cons (pe_callB call_isX (by rfl) T.isinstance (by decide +kernel) (pa_cons (pv 0) (pa_cons (pe_cls (by rfl) T.g_InvalidName) pa_nil))) (pa_cons (pe_callB call_isX (by rfl) T.isinstance (by decide +kernel) (pa_cons (pv 0) (pa_cons (pe_cls (by rfl) T.g_InvalidCondition) pa_nil))) (pa_cons (pe_callB call_isX (by rfl) T.isinstance (by decide +kernel) (pa_cons (pv 0) (pa_cons (pe_cls (by rfl) T.g_InvalidQuestion) pa_nil))) pa_nil)))))
  (pss_cons (ps_set (i := 1) scClasses.nd rfl (Or.inl rfl) (pe_op op_cat (pv 1) (pe_lst (pa_cons (pe_callB call_isX (by rfl) T.isinstance (by decide +kernel) (pa_cons (pv 0) (pa_cons (pe_cls (by rfl) T.g_InvalidRow) pa_nil))) (pa_cons (pe_callB call_isX (by rfl) T.isinstance (by decide +kernel) (pa_cons (pv 0) (pa_cons (pe_cls (by rfl) T.g_InvalidLog) pa_nil))) (pa_cons (pe_callB call_isX (by rfl) T.isinstance (by decide +kernel) (pa_cons (pv 0) (pa_cons (pe_cls (by rfl) T.g_InvalidKind) pa_nil))) pa_nil))))))
  (pss_cons (ps_set (i := 1) scClasses.nd rfl (Or.inl rfl) (pe_op op_cat (pv 1) (pe_lst (pa_cons (pe_callB call_isX (by rfl) T.isinstance (by decide +kernel) (pa_cons (pv 0) (pa_cons (pe_cls (by rfl) T.g_InvalidRest) pa_nil))) (pa_cons (pe_callB call_isX (by rfl) T.isinstance (by decide +kernel) (pa_cons (pv 0) (pa_cons (pe_cls (by rfl) T.g_InvalidState) pa_nil))) (pa_cons (pe_callB call_isX (by rfl) T.isinstance (by decide +kernel) (pa_cons (pv 0) (pa_cons (pe_cls (by rfl) T.g_InvalidMark) pa_nil))) pa_nil))))))
  (pss_cons (ps_set (i := 1) scClasses.nd rfl (Or.inl rfl) (pe_op op_cat (pv 1) (pe_lst (pa_cons (pe_callB call_isX (by rfl) T.isinstance (by decide +kernel) (pa_cons (pv 0) (pa_cons (pe_cls (by rfl) T.g_InvalidOperation) pa_nil))) (pa_cons (pe_callB call_isX (by rfl) T.isinstance (by decide +kernel) (pa_cons (pv 0) (pa_cons (pe_cls (by rfl) T.g_ParseError) pa_nil))) pa_nil)))))
  (pss_cons (ps_set (i := 1) scClasses.nd rfl (Or.inl rfl) (pe_op op_cat (pv 1) (pe_lst (pa_cons (pe_callB call_isX (by rfl) T.isinstance (by decide +kernel) (pa_cons (pv 0) (pa_cons (pe_cls (by rfl) T.g_InvalidCommand) pa_nil))) (pa_cons (pe_callB call_isX (by rfl) T.isinstance (by decide +kernel) (pa_cons (pv 0) (pa_cons (pe_cls (by rfl) T.g_InvalidNumber) pa_nil))) pa_nil)))))
  (pss_cons (ps_set (i := 1) scClasses.nd rfl (Or.inl rfl) (pe_op op_cat (pv 1) (pe_lst (pa_cons (pe_callB call_isX (by rfl) T.isinstance (by decide +kernel) (pa_cons (pv 0) (pa_cons (pe_cls (by rfl) T.g_UnknownName) pa_nil))) (pa_cons (pe_callB call_isX (by rfl) T.isinstance (by decide +kernel) (pa_cons (pv 0) (pa_cons (pe_cls (by rfl) T.g_TooMany) pa_nil))) pa_nil)))))
  (pss_one (ps_ret (pe_op op_cat (pv 1) (pe_lst (pa_cons (pe_callB call_isX (by rfl) T.isinstance (by decide +kernel) (pa_cons (pv 0) (pa_cons (pe_cls (by rfl) T.g_NothingToUndo) pa_nil))) pa_nil))))))))))), ?_⟩
    have ee := Evl.Ex.refl H
    refine Evl.q_asgL (Evl.el_lst (Evl.ea_cons (ex_is hx hC (ClsV.own _) (hk 0 (by decide))) (Evl.ea_cons (ex_is hx hC (ClsV.own _) (hk 1 (by decide))) (Evl.ea_cons (ex_is hx hC (ClsV.own _) (hk 2 (by decide))) Evl.ea_nil))) (by simp)) fun p H1 np e hp => ?_
    have hx := hx.mono e
    have ee := ee.trans e
    refine Evl.q_asgL (el_cat (Evl.ev_var rfl) hp (Evl.el_lst (Evl.ea_cons (ex_is hx hC (ClsV.own _) (hk 3 (by decide))) (Evl.ea_cons (ex_is hx hC (ClsV.own _) (hk 4 (by decide))) (Evl.ea_cons (ex_is hx hC (ClsV.own _) (hk 5 (by decide))) Evl.ea_nil))) (by simp)) (by simp)) fun p H1 np e hp => ?_
    have hx := hx.mono e
    have ee := ee.trans e
    refine Evl.q_asgL (el_cat (Evl.ev_var rfl) hp (Evl.el_lst (Evl.ea_cons (ex_is hx hC (ClsV.own _) (hk 6 (by decide))) (Evl.ea_cons (ex_is hx hC (ClsV.own _) (hk 7 (by decide))) (Evl.ea_cons (ex_is hx hC (ClsV.own _) (hk 8 (by decide))) Evl.ea_nil))) (by simp)) (by simp)) fun p H1 np e hp => ?_
    have hx := hx.mono e
    have ee := ee.trans e
    refine Evl.q_asgL (el_cat (Evl.ev_var rfl) hp (Evl.el_lst (Evl.ea_cons (ex_is hx hC (ClsV.own _) (hk 9 (by decide))) (Evl.ea_cons (ex_is hx hC (ClsV.own _) (hk 10 (by decide))) Evl.ea_nil)) (by simp)) (by simp)) fun p H1 np e hp => ?_
    have hx := hx.mono e
    have ee := ee.trans e
    refine Evl.q_asgL (el_cat (Evl.ev_var rfl) hp (Evl.el_lst (Evl.ea_cons (ex_is hx hC (ClsV.own _) (hk 11 (by decide))) (Evl.ea_cons (ex_is hx hC (ClsV.own _) (hk 12 (by decide))) Evl.ea_nil)) (by simp)) (by simp)) fun p H1 np e hp => ?_
    have hx := hx.mono e
    have ee := ee.trans e
    refine Evl.q_asgL (el_cat (Evl.ev_var rfl) hp (Evl.el_lst (Evl.ea_cons (ex_is hx hC (ClsV.own _) (hk 13 (by decide))) (Evl.ea_cons (ex_is hx hC (ClsV.own _) (hk 14 (by decide))) Evl.ea_nil)) (by simp)) (by simp)) fun p H1 np e hp => ?_
    have hx := hx.mono e
    have ee := ee.trans e
    refine Evl.s_retL (el_cat (Evl.ev_var rfl) hp (Evl.el_lst (Evl.ea_cons (ex_is hx hC (ClsV.own _) (hk 15 (by decide))) Evl.ea_nil) (by simp)) (by simp)) fun p H1 np e hp => ?_
    exact k p H1 (Evl.fresh_back ee np) (ee.trans e) hp
/-- the seven classes that a base is asked by -/
def bcl (ad : Nat → Addr) : Nat → Value
  | 0 => .ref (ad 16)
  | 1 => .type "ValueError"
  | 2 => .type "IndexError"
  | 3 => .type "KeyError"
  | 4 => .type "OverflowError"
  | 5 => .type "ArithmeticError"
  | _ => .type "LookupError"
def spBas (K : PySem.W.Frag) (ad : Nat → Addr) : Sp := fun vs H Q _ => ∃ (a D : Addr) (b : Nat → Bool), vs = [.ref a] ∧ ExcAt H a D ∧ ExcC K D ∧ (∀ i, i < 7 → PySem.W.kitOne K (.ref D) (bcl ad i) = some (b i)) ∧
  ∀ (p : Addr) (H' : Hp), H p = none → Evl.Ex H H' → H' p = some (.lst ((List.range 7).map fun i => .bl (b i))) → Q (.ref p) H'
theorem scBases : FnScope ["error", "found"] ["error"] (defScope sBases) := ⟨rfl, rfl, rfl, by decide +kernel, rfl, by decide +kernel, by decide +kernel⟩
theorem okBases {ad : Nat → Addr} {f : Addr} {fd : FuncData} (F : Fun K "_law_bases" "_law_bases" sBases f fd) (T : Tx mg ad) : FnOk P w K mg base CX0 1 f fd ["error"] (spBas K ad) := by
  refine F.ok scBases (fun vs H Q E h => ?_) (fun cdv A outer s H vs Q E hr h => ?_)
  · obtain ⟨a, D, b, rfl, _⟩ := h
    rfl
  · obtain ⟨a, D, b, rfl, hx, hC, hk, k⟩ := h
    refine ⟨_, (pss_cons (ps_set (i := 1) scBases.nd rfl (Or.inl rfl) (pe_lst (pa_cons (pe_callB call_isX (by rfl) T.isinstance (by decide +kernel) (pa_cons (pv 0) (pa_cons (pe_cls (by rfl) T.g_RowsError) pa_nil))) (pa_cons (pe_callB call_isX (by rfl) T.isinstance (by decide +kernel) (pa_cons (pv 0) (pa_cons (pe_tyb (n := "ValueError") (by rfl) T.ValueError (by decide +kernel)) pa_nil))) (pa_cons (pe_callB call_isX (by rfl) T.isinstance (by decide +kernel) (pa_cons (pv 0) (pa_cons (pe_tyb (n := "IndexError") (by rfl) T.IndexError (by decide +kernel)) pa_nil))) pa_nil)))))
  (pss_cons (ps_set (i := 1) scBases.nd rfl (Or.inl rfl) (pe_op op_cat (pv 1) (pe_lst (pa_cons (pe_callB call_isX (by rfl) T.isinstance (by decide +kernel) (pa_cons (pv 0) (pa_cons (pe_tyb (n := "KeyError") (by rfl) T.KeyError (by decide +kernel)) pa_nil))) (pa_cons (pe_callB call_isX (by rfl) T.isinstance (by decide +kernel) (pa_cons (pv 0) (pa_cons (pe_tyb (n := "OverflowError") (by rfl) T.OverflowError (by decide +kernel)) pa_nil))) pa_nil)))))
  (pss_one (ps_ret (pe_op op_cat (pv 1) (pe_lst (pa_cons (pe_callB call_isX (by rfl) T.isinstance (by decide +kernel) (pa_cons (pv 0) (pa_cons (pe_tyb (n := "ArithmeticError") (by rfl) T.ArithmeticError (by decide +kernel)) pa_nil))) (pa_cons (pe_callB call_isX (by rfl) T.isinstance (by decide +kernel) (pa_cons (pv 0) (pa_cons (pe_tyb (n := "LookupError") (by rfl) T.LookupError (by decide +kernel)) pa_nil))) pa_nil)))))))), ?_⟩
    have ee := Evl.Ex.refl H
    refine Evl.q_asgL (Evl.el_lst (Evl.ea_cons (ex_is hx hC (ClsV.own _) (hk 0 (by decide))) (Evl.ea_cons (ex_is hx hC (ClsV.ty _) (hk 1 (by decide))) (Evl.ea_cons (ex_is hx hC (ClsV.ty _) (hk 2 (by decide))) Evl.ea_nil))) (by simp)) fun p H1 np e hp => ?_
    have hx := hx.mono e
    have ee := ee.trans e
    refine Evl.q_asgL (el_cat (Evl.ev_var rfl) hp (Evl.el_lst (Evl.ea_cons (ex_is hx hC (ClsV.ty _) (hk 3 (by decide))) (Evl.ea_cons (ex_is hx hC (ClsV.ty _) (hk 4 (by decide))) Evl.ea_nil)) (by simp)) (by simp)) fun p H1 np e hp => ?_
    have hx := hx.mono e
    have ee := ee.trans e
    refine Evl.s_retL (el_cat (Evl.ev_var rfl) hp (Evl.el_lst (Evl.ea_cons (ex_is hx hC (ClsV.ty _) (hk 5 (by decide))) (Evl.ea_cons (ex_is hx hC (ClsV.ty _) (hk 6 (by decide))) Evl.ea_nil)) (by simp)) (by simp)) fun p H1 np e hp => ?_
    exact k p H1 (Evl.fresh_back ee np) (ee.trans e) hp
/-! ### the errors that take a message -/
/-- the answer of the class i to being one of the seven of bcl -/
def bas (i j : Nat) : Bool := if i < 12 || i == 16 then j == 0 && i != 16 || j == 1 || (i == 16 && j == 0) else if i == 12 then j == 2 || j == 6 else if i == 13 then j == 3 || j == 6 else if i == 14 then j == 4 || j == 5 else j == 6
abbrev mroVE : List Value := [.type "ValueError", .type "Exception", .type "BaseException", .type "object"]
structure Kx (K : PySem.W.Frag) (ad : Nat → Addr) : Prop where
  ex : ∀ i, i < 17 → ExcC K (ad i)
  kc : ∀ i j, i < 17 → j < 16 → PySem.W.kitOne K (.ref (ad i)) (.ref (ad j)) = some (decide (i = j))
  kb : ∀ i j, i < 17 → j < 7 → PySem.W.kitOne K (.ref (ad i)) (bcl ad j) = some (bas i j)
  xi : ∀ i, (i < 12 || i == 16) = true → PySem.W.excIn K (ad i) mroVE "ValueError.__new__" = true
  kp : ∀ i, i < 17 → PySem.W.keepIn K (.ref (ad i)) = true
def spMsg : Sp := fun vs H Q _ => ∃ z : Str, vs = [.str z] ∧ ∀ H', Evl.Ex H H' → Q (.bl true) H'
/-- errors of the classes is -/
def ErrL (ad : Nat → Addr) : List Nat → List V → Hp → Prop
  | [], vs, _ => vs = []
  | i :: is, vs, H => ∃ a ws, vs = .ref a :: ws ∧ ExcAt H a (ad i) ∧ ErrL ad is ws H
theorem errL_stays {ad : Nat → Addr} : ∀ is, Stays (ErrL ad is)
  | [], _, _, _, _, h => h
  | i :: is, _, _, _, e, ⟨a, ws, h1, h2, h3⟩ => ⟨a, ws, h1, h2.mono e, errL_stays is _ _ _ e h3⟩
theorem errL_len {ad : Nat → Addr} {H : Hp} : ∀ {is : List Nat} {vs : List V}, ErrL ad is vs H → vs.length = is.length
  | [], _, h => by
    have h : _ = [] := h
    subst h
    rfl
  | i :: is, _, ⟨a, ws, h1, h2, h3⟩ => by rw [h1, List.length_cons, List.length_cons, errL_len h3]
theorem errL_app {ad : Nat → Addr} {H : Hp} : ∀ {is js : List Nat} {vs ws : List V}, ErrL ad is vs H → ErrL ad js ws H → ErrL ad (is ++ js) (vs ++ ws) H
  | [], _, _, _, h, k => by rw [show _ = [] from h]; exact k
  | i :: is, _, _, _, ⟨a, ws, h1, h2, h3⟩, k => ⟨a, _, by rw [h1]; rfl, h2, errL_app h3 k⟩
theorem errL_get {ad : Nat → Addr} {H : Hp} : ∀ {is : List Nat} {vs : List V} {i : Nat} (h : i < is.length), ErrL ad is vs H → ∃ a, vs[i]? = some (.ref a) ∧ ExcAt H a (ad is[i])
  | [], _, _, h, _ => absurd h (Nat.not_lt_zero _)
  | j :: is, _, 0, _, ⟨a, ws, h1, h2, h3⟩ => ⟨a, by rw [h1]; rfl, h2⟩
  | j :: is, _, i + 1, h, ⟨a, ws, h1, h2, h3⟩ => by
    obtain ⟨b, q1, q2⟩ := errL_get (i := i) (by simpa using h) h3
    exact ⟨b, by rw [h1]; simpa using q1, by simpa using q2⟩
section
variable {σ : L2.St} {H : Hp} {ta tb te : TE} {tr : TA} {ad : Nat → Addr}
def IsErr (ad : Nat → Addr) (is : List Nat) : V → Hp → Prop := fun v H => ∃ p vs, v = .ref p ∧ H p = some (.lst vs) ∧ ErrL ad is vs H
theorem stays_err {is : List Nat} : Stays (IsErr ad is) := fun v H H' e ⟨p, vs, h1, h2, h3⟩ => ⟨p, vs, h1, e _ _ h2, errL_stays _ _ _ _ e h3⟩
theorem evp_var {P : V → Hp → Prop} {v : V} {i : Nat} (hp : P v H) (mP : Stays P) (h : σ[i]? = some (some v) := by rfl) : EvP (tVar i) σ H P := fun H1 e Q q => ⟨v, h, q v H1 (Evl.Ex.refl _) (mP _ _ _ e hp)⟩
theorem evp_exc {v : V} {C : Addr} (h : Evl.Ev ta σ H v) : EvP (fun σ H Q => ta σ H fun _ H1 => ∀ a, H1 a = none → Q (.ref a) (upd H1 a (ExO (.ref C) a))) σ H (fun v H => ∃ a, v = .ref a ∧ ExcAt H a C) := fun H1 e Q q =>
  h H1 e _ fun H2 e2 a ha => q _ _ (e2.trans (Evl.Ex.new ha)) ⟨a, rfl, .inl upd_same⟩
theorem evpa_err {i : Nat} {is : List Nat} (h : EvP te σ H (fun v H => ∃ a, v = .ref a ∧ ExcAt H a (ad i))) (hr : EvPA tr σ H (ErrL ad is)) : EvPA (tCons te tr) σ H (ErrL ad (i :: is)) := by
  refine (evpa_cons h (fun v H H' e ⟨a, h1, h2⟩ => ⟨a, h1, h2.mono e⟩) hr).imp fun vs H1 _ z => ?_
  obtain ⟨v, ws, h1, ⟨a, h2, h3⟩, h4⟩ := z
  exact ⟨a, ws, by rw [h1, h2], h3, h4⟩
theorem evpa_err0 : EvPA tNil σ H (ErrL ad []) := evpa_nil
theorem evp_errs {is : List Nat} (h : EvPA tr σ H (ErrL ad is)) (hz : is.length ≤ 100000) : EvP (tLst tr) σ H (IsErr ad is) := evp_lst h (errL_stays _) fun vs H1 z => by rw [errL_len z]; exact hz
theorem evp_errcat {is js : List Nat} (ha : EvP ta σ H (IsErr ad is)) (hb : EvP tb σ H (IsErr ad js)) (hz : is.length + js.length ≤ 100000) : EvP (tOp rCat ta tb) σ H (IsErr ad (is ++ js)) := by
  refine (evp_cat ha (errL_stays _) hb (errL_stays _) fun xs ys H1 h1 h2 => by rw [errL_len h1, errL_len h2]; exact hz).imp fun v H1 _ z => ?_
  obtain ⟨p, vs, h1, h2, xs, ys, h3, h4, h5⟩ := z
  exact ⟨p, vs, h1, h2, by rw [h3]; exact errL_app h4 h5⟩
/-- _law_classes(e), e an error of the class i; _law_bases(e) -/
theorem evp_cls (KX : Kx K ad) {i : Nat} (hi : i < 17) {E : XK} (h : EvP te σ H (fun v H => ∃ a, v = .ref a ∧ ExcAt H a (ad i))) : EvP (tCall (spCls K ad) [] E (tCons te tNil)) σ H (IsBools ((List.range 16).map fun j => decide (i = j))) := by
  refine evp_call (evpa_one h) fun vs H1 e z Q q => ?_
  obtain ⟨v, rfl, a, rfl, hx⟩ := z
  exact ⟨a, ad i, fun j => decide (i = j), rfl, hx, KX.ex i hi, fun j hj => KX.kc i j hi hj, fun p H' _ e' hp => q _ _ e' ⟨p, rfl, by rw [hp, List.map_map]; rfl⟩⟩
theorem evp_bas (KX : Kx K ad) {i : Nat} (hi : i < 17) {E : XK} (h : EvP te σ H (fun v H => ∃ a, v = .ref a ∧ ExcAt H a (ad i))) : EvP (tCall (spBas K ad) [] E (tCons te tNil)) σ H (IsBools ((List.range 7).map fun j => bas i j)) := by
  refine evp_call (evpa_one h) fun vs H1 e z Q q => ?_
  obtain ⟨v, rfl, a, rfl, hx⟩ := z
  exact ⟨a, ad i, bas i, rfl, hx, KX.ex i hi, fun j hj => KX.kb i j hi hj, fun p H' _ e' hp => q _ _ e' ⟨p, rfl, by rw [hp, List.map_map]; rfl⟩⟩
/-- made[at] -/
theorem evp_at {is : List Nat} {i : Nat} (ha : EvP ta σ H (IsErr ad is)) (hb : Evl.Ev tb σ H (.int (i : Int))) (hi : i < is.length) : EvP (tOp (rIxL K) ta tb) σ H (fun v H => ∃ a, v = .ref a ∧ ExcAt H a (ad is[i])) := by
  refine evp_op ha stays_err (EvP.of hb) fun x y H1 e hx hy Q q => ?_
  obtain ⟨p, vs, rfl, h2, h3⟩ := hx
  obtain ⟨a, h4, h5⟩ := errL_get hi h3
  have hl : i < vs.length := by rw [errL_len h3]; exact hi
  refine ⟨p, vs, (i : Int), .ref a, rfl, hy, SqL.of h2, ?_, q _ _ (Evl.Ex.refl _) ⟨a, rfl, h5⟩⟩
  unfold atI
  rw [Evl.ixN_nat hl]
  exact h4
/-- a written list of truth values -/
theorem evp_bl {bs : List Bool} (h : Evl.EvA tr σ H (bs.map V.bl)) (hz : bs.length ≤ 100000) : EvP (tLst tr) σ H (IsBools bs) := by
  refine (evp_lst (EvPA.of h) (stays_eq) fun vs H1 z => by rw [z, List.length_map]; exact hz).imp fun v H1 _ z => ?_
  obtain ⟨p, vs, h1, h2, h3⟩ := z
  exact ⟨p, h1, by rw [h2, h3]⟩
end
theorem evp_rep {σ : L2.St} {H : Hp} {ta tb : TE} {bs : List Bool} {k : Int} (ha : EvP ta σ H (IsBools bs)) (hb : Evl.Ev tb σ H (.int k)) (h0 : 0 ≤ k) (h1 : k ≤ 1000) (h2 : bs.length * k.toNat ≤ 100000) : EvP (tOp rRep ta tb) σ H (IsBools (List.replicate k.toNat bs).flatten) := by
  refine evp_op ha stays_bools (EvP.of hb) fun x y H1 e hx hy Q q => ?_
  obtain ⟨p, rfl, hp⟩ := hx
  refine ⟨p, k, _, rfl, hy, hp, by omega, by omega, Evl.sz_of (by rw [List.length_map]; exact h2), fun l hl => q _ _ (Evl.Ex.new hl) ⟨l, rfl, ?_⟩⟩
  rw [upd_same]
  simp [List.map_flatten]
theorem evp_cut {σ : L2.St} {H : Hp} {te : TE} {tl th : TO} {bs cs : List Bool} {lo hi : Option Int} (h : EvP te σ H (IsBools bs)) (h1 : Evl.EvO tl σ H lo) (h2 : Evl.EvO th σ H hi) (hc : cutV (bs.map V.bl) lo hi = cs.map V.bl) :
    EvP (tSl (rSlL K) te tl th) σ H (IsBools cs) := fun H1 e Q q =>
  h H1 e _ fun v H2 e2 ⟨p, hv, hp⟩ => h1 H2 (e.trans e2) _ fun H3 e3 => h2 H3 ((e.trans e2).trans e3) _ fun H4 e4 =>
    ⟨p, _, hv, SqL.of (e4 _ _ (e3 _ _ hp)), fun l hl => q _ _ (((e2.trans e3).trans e4).trans (Evl.Ex.new hl)) ⟨l, rfl, by rw [upd_same, hc]⟩⟩
theorem dec_int (i j : Nat) : decide (V.int (j : Int) = V.int (i : Int)) = decide (i = j) := by
  by_cases h : i = j
  · rw [h]
    simp
  · rw [decide_eq_false h]
    exact decide_eq_false fun z => h (by injection z with z; omega)
theorem scMsg : FnScope ["text", "made", "at", "place"] ["text"] (defScope sMsg) := ⟨rfl, rfl, rfl, by decide +kernel, rfl, by decide +kernel, by decide +kernel⟩
theorem okMsg {ad : Nat → Addr} {f f1 f2 : Addr} {fd fd1 fd2 : FuncData} (F : Fun K "_law_messages_right" "_law_messages_right" sMsg f fd) (T : Tx mg ad) (KX : Kx K ad) (D_law_classes : Dn K mg "_law_classes" sClasses f1 fd1 ["error"]) (D_law_bases : Dn K mg "_law_bases" sBases f2 fd2 ["error"]) :
    FnOk P w K mg base CX0 2 f fd ["text"] spMsg := by
  have G_law_classes : FnOk P w K mg base CX0 1 f1 fd1 ["error"] (spCls K ad) := okClasses D_law_classes.F T
  have G_law_bases : FnOk P w K mg base CX0 1 f2 fd2 ["error"] (spBas K ad) := okBases D_law_bases.F T
  refine F.ok scMsg (fun vs H Q E h => ?_) (fun cdv A outer s H vs Q E hr h => ?_)
  · obtain ⟨z, rfl, _⟩ := h
    rfl
  · obtain ⟨z, rfl, k⟩ := h
    refine ⟨_, (pss_cons (ps_set (i := 1) scMsg.nd rfl (Or.inl rfl) (pe_lst (pa_cons (pe_exc1 PySem.F.excBase_ValueError (KX.xi 0 (by decide)) T.g_InvalidName (KX.kp 0 (by decide)) (by rfl) (pv 0)) (pa_cons (pe_exc1 PySem.F.excBase_ValueError (KX.xi 1 (by decide)) T.g_InvalidCondition (KX.kp 1 (by decide)) (by rfl) (pv 0)) (pa_cons (pe_exc1 PySem.F.excBase_ValueError (KX.xi 2 (by decide)) T.g_InvalidQuestion (KX.kp 2 (by decide)) (by rfl) (pv 0)) (pa_cons (pe_exc1 PySem.F.excBase_ValueError (KX.xi 3 (by decide)) T.g_InvalidRow (KX.kp 3 (by decide)) (by rfl) (pv 0)) (pa_cons (pe_exc1 PySem.F.excBase_ValueError (KX.xi 4 (by decide)) T.g_InvalidLog (KX.kp 4 (by decide)) (by rfl) (pv 0)) pa_nil)))))))
  (pss_cons (ps_set (i := 1) scMsg.nd rfl (Or.inl rfl) (pe_op op_cat (pv 1) (pe_lst (pa_cons (pe_exc1 PySem.F.excBase_ValueError (KX.xi 5 (by decide)) T.g_InvalidKind (KX.kp 5 (by decide)) (by rfl) (pv 0)) (pa_cons (pe_exc1 PySem.F.excBase_ValueError (KX.xi 6 (by decide)) T.g_InvalidRest (KX.kp 6 (by decide)) (by rfl) (pv 0)) (pa_cons (pe_exc1 PySem.F.excBase_ValueError (KX.xi 7 (by decide)) T.g_InvalidState (KX.kp 7 (by decide)) (by rfl) (pv 0)) (pa_cons (pe_exc1 PySem.F.excBase_ValueError (KX.xi 8 (by decide)) T.g_InvalidMark (KX.kp 8 (by decide)) (by rfl) (pv 0)) pa_nil)))))))
  (pss_cons (ps_set (i := 1) scMsg.nd rfl (Or.inl rfl) (pe_op op_cat (pv 1) (pe_lst (pa_cons (pe_exc1 PySem.F.excBase_ValueError (KX.xi 9 (by decide)) T.g_InvalidOperation (KX.kp 9 (by decide)) (by rfl) (pv 0)) (pa_cons (pe_exc1 PySem.F.excBase_ValueError (KX.xi 10 (by decide)) T.g_ParseError (KX.kp 10 (by decide)) (by rfl) (pv 0)) (pa_cons (pe_exc1 PySem.F.excBase_ValueError (KX.xi 11 (by decide)) T.g_InvalidCommand (KX.kp 11 (by decide)) (by rfl) (pv 0)) pa_nil))))))
  (pss_cons (ps_for PassesOwn.never rfl (pi_range1 (by rfl) T.range (pa_cons pe_int pa_nil)) (pg_name (i := 2) scMsg.nd rfl (Or.inr rfl)) (pss_cons (ps_if (pt_cmpR (op_neD hr.units) (pe_call G_law_classes hr rfl D_law_classes.m D_law_classes.F.kp D_law_classes.b .nil pass0 (pa_cons (pe_ix ix_list (pv 1) (pv 2) (fun _ _ => rfl)) pa_nil)) (pe_lc (own := [("place", 3)]) (g := gName 3) (tt := tYes) rfl scMsg.nd (pi_range1 (by rfl) T.range (pa_cons pe_int pa_nil)) (blkOk_by (own := [("place", 3)]) (N := ["text", "made", "at", "place"]) (sc := defScope sMsg) (by decide +kernel)) (fun _ _ _ _ _ => (pg_name (i := 3) scMsg.nd rfl (Or.inl rfl))) (fun _ _ _ _ _ => pts_nil) (fun _ _ _ _ _ => (pe_cmpR op_eq (pv 3) (pv 2) (nomark _)))) (nomark _)) (pss_one (ps_ret pe_bl)) pss_nil)
  (pss_one (ps_if (pt_cmpR (op_neD hr.units) (pe_call G_law_bases hr rfl D_law_bases.m D_law_bases.F.kp D_law_bases.b .nil pass0 (pa_cons (pe_ix ix_list (pv 1) (pv 2) (fun _ _ => rfl)) pa_nil)) (pe_lst (pa_cons pe_bl (pa_cons pe_bl (pa_cons pe_bl (pa_cons pe_bl (pa_cons pe_bl (pa_cons pe_bl (pa_cons pe_bl pa_nil)))))))) (nomark _)) (pss_one (ps_ret pe_bl)) pss_nil))))
  (pss_one (ps_ret (pe_and (pe_cmpR (op_eqD hr.units) (pe_call G_law_classes hr rfl D_law_classes.m D_law_classes.F.kp D_law_classes.b .nil pass0 (pa_cons (pe_exc1 PySem.F.excBase_ValueError (KX.xi 16 (by decide)) T.g_RowsError (KX.kp 16 (by decide)) (by rfl) (pv 0)) pa_nil)) (pe_op op_rep (pe_lst (pa_cons pe_bl pa_nil)) pe_int) (nomark _)) (pe_one (pe_cmpR (op_eqD hr.units) (pe_slice sl_list (pe_call G_law_bases hr rfl D_law_bases.m D_law_bases.F.kp D_law_bases.b .nil pass0 (pa_cons (pe_exc1 PySem.F.excBase_ValueError (KX.xi 16 (by decide)) T.g_RowsError (KX.kp 16 (by decide)) (by rfl) (pv 0)) pa_nil)) po_none (po_some pe_int)) (pe_lst (pa_cons pe_bl (pa_cons pe_bl (pa_cons pe_bl pa_nil)))) (nomark _)))))))))), ?_⟩
    refine q_asgP (evp_errs (evpa_err (i := 0) (evp_exc (Evl.ev_var rfl)) (evpa_err (i := 1) (evp_exc (Evl.ev_var rfl)) (evpa_err (i := 2) (evp_exc (Evl.ev_var rfl)) (evpa_err (i := 3) (evp_exc (Evl.ev_var rfl)) (evpa_err (i := 4) (evp_exc (Evl.ev_var rfl)) evpa_err0))))) (by decide)) fun v H1 e1 z1 => ?_
    refine q_asgP (evp_errcat (evp_var z1 stays_err) (evp_errs (evpa_err (i := 5) (evp_exc (Evl.ev_var rfl)) (evpa_err (i := 6) (evp_exc (Evl.ev_var rfl)) (evpa_err (i := 7) (evp_exc (Evl.ev_var rfl)) (evpa_err (i := 8) (evp_exc (Evl.ev_var rfl)) evpa_err0)))) (by decide)) (by decide)) fun v2 H2 e2 z2 => ?_
    refine q_asgP (evp_errcat (evp_var z2 stays_err) (evp_errs (evpa_err (i := 9) (evp_exc (Evl.ev_var rfl)) (evpa_err (i := 10) (evp_exc (Evl.ev_var rfl)) (evpa_err (i := 11) (evp_exc (Evl.ev_var rfl)) evpa_err0))) (by decide)) (by decide)) fun v3 H3 e3 z3 => ?_
    have ex := (e1.trans e2).trans e3
    refine Evl.q_forR1 (n := 12) (Evl.ea_cons Evl.ev_c Evl.ea_nil) (by decide) (fun i σ' H' => Evl.Ex H3 H' ∧ ∃ u, σ' = [some (.str z), some v3, u, none]) (fun H' e => ⟨e, none, rfl⟩) ?_ ?_
    · rintro i σ' H' hi ⟨e, u, rfl⟩
      have hi : i < 12 := by omega
      have z4 : IsErr ad (List.range 12) v3 H' := stays_err _ _ _ e z3
      have at_ : ∀ {σ : L2.St} {H1 : Hp}, Evl.Ex H' H1 → σ[1]? = some (some v3) → σ[2]? = some (some (.int (i : Int))) → EvP (tOp (rIxL K) (tVar 1) (tVar 2)) σ H1 (fun v H => ∃ a, v = .ref a ∧ ExcAt H a (ad i)) := fun {σ H1} e1 h1 h2 => by
        have g := evp_at (K := K) (i := i) (is := List.range 12) (evp_var (stays_err _ _ _ e1 z4) stays_err h1) (Evl.ev_var h2) (by rw [List.length_range]; exact hi)
        rw [List.getElem_range] at g
        exact g
      refine Evl.q_when (et_bl (evp_neB (bs := (List.range 16).map fun j => decide (i = j)) (evp_cls KX (by omega) (at_ (Evl.Ex.refl _) rfl rfl))
        (evp_lcB _ (by decide) (Evl.ea_cons Evl.ev_c Evl.ea_nil) (fun _ => rfl) fun j H1 _ _ => Evl.ev_is (Evl.ev_op (Evl.ev_var rfl) (Evl.ev_var rfl) (Evl.rv_eq rfl)) (by rw [dec_int])))) (fun h => nomatch h) (fun _ H5 e5 => ?_)
      have hb : ((List.range 7).map fun j => bas i j) = [true, true, false, false, false, false, false] := by
        have : i ∈ List.range 12 := List.mem_range.mpr hi
        revert this
        generalize i = m
        intro hm
        have := List.mem_range.mp hm
        clear hm
        revert m
        decide
      refine Evl.s_when (et_bl (evp_neB (bs := (List.range 7).map fun j => bas i j) (evp_bas KX (by omega) (at_ e5 rfl rfl)) (by
        rw [hb]
        exact evp_bl (Evl.ea_cons Evl.ev_c (Evl.ea_cons Evl.ev_c (Evl.ea_cons Evl.ev_c (Evl.ea_cons Evl.ev_c (Evl.ea_cons Evl.ev_c (Evl.ea_cons Evl.ev_c (Evl.ea_cons Evl.ev_c Evl.ea_nil))))))) (by decide)))) (fun h => nomatch h) (fun _ H6 e6 => ?_)
      exact ⟨(e.trans e5).trans e6, _, rfl⟩
    · rintro σ' H' ⟨e, u, rfl⟩
      have rw_ : ∀ {H1 : Hp}, EvP (fun σ H Q => tVar 0 σ H fun _ H1 => ∀ a, H1 a = none → Q (.ref a) (upd H1 a (ExO (.ref (ad 16)) a))) [some (.str z), some v3, u, none] H1 (fun v H => ∃ a, v = .ref a ∧ ExcAt H a (ad 16)) := evp_exc (Evl.ev_var rfl)
      refine Evl.s_ret (Evl.ev_andV (a := true) (b := true) ?_ fun _ => ?_) fun H5 e5 => k _ ((ex.trans e).trans e5)
      · exact (evp_eqB (bs := (List.range 16).map fun j => decide (16 = j)) (evp_cls KX (by decide) rw_) (evp_rep (bs := [false]) (evp_bl (Evl.ea_cons Evl.ev_c Evl.ea_nil) (by decide)) Evl.ev_c (by decide) (by decide) (by decide))).to
      · exact (evp_eqB (bs := [true, true, false]) (evp_cut (evp_bas KX (by decide) rw_) Evl.eo_none (Evl.eo_some Evl.ev_c) (by decide))
          (evp_bl (Evl.ea_cons Evl.ev_c (Evl.ea_cons Evl.ev_c (Evl.ea_cons Evl.ev_c Evl.ea_nil))) (by decide))).to
/-! ### the errors that keep a value -/
def spIni (C : Addr) (f : Str) : Sp := fun vs H Q _ => ∃ (a : Addr) (y : V), vs = [.ref a, y] ∧ H a = some (exo a C none) ∧ ∀ dx, H dx = none → dx ≠ a → Q .non (upd (upd H dx (exd dx [(f, y)])) a (exo a C (some dx)))
theorem scI12 : FnScope ["self", "value"] ["self", "value"] (defScope sI12) := ⟨rfl, rfl, rfl, by decide +kernel, rfl, by decide +kernel, by decide +kernel⟩
theorem okI12 {C f : Addr} {fd : FuncData} (F : Fun K "__init__" "InvalidNumber.__init__" sI12 f fd) (TX : XcC K C "IndexError" PySem.XK.mroIx "IndexError.__new__" "value") : FnOk P w K mg base CX0 1 f fd ["self", "value"] (spIni C "value") := by
  refine F.ok scI12 (fun vs H Q E h => ?_) (fun cdv A outer s H vs Q E hr h => ?_)
  · obtain ⟨a, y, rfl, _⟩ := h
    rfl
  · obtain ⟨a, y, rfl, ha, k⟩ := h
    exact ⟨_, pss_one (ps_xst PySem.F.store_IndexError TX (pv 0) (pv 1)), _, rfl, _, rfl, a, rfl, ha, fun dx h1 h2 => k dx h1 h2⟩
theorem scI13 : FnScope ["self", "name"] ["self", "name"] (defScope sI13) := ⟨rfl, rfl, rfl, by decide +kernel, rfl, by decide +kernel, by decide +kernel⟩
theorem okI13 {C f : Addr} {fd : FuncData} (F : Fun K "__init__" "UnknownName.__init__" sI13 f fd) (TX : XcC K C "KeyError" PySem.XK.mroKy "LookupError.__new__" "name") : FnOk P w K mg base CX0 1 f fd ["self", "name"] (spIni C "name") := by
  refine F.ok scI13 (fun vs H Q E h => ?_) (fun cdv A outer s H vs Q E hr h => ?_)
  · obtain ⟨a, y, rfl, _⟩ := h
    rfl
  · obtain ⟨a, y, rfl, ha, k⟩ := h
    exact ⟨_, pss_one (ps_xst PySem.XK.store_KeyError TX (pv 0) (pv 1)), _, rfl, _, rfl, a, rfl, ha, fun dx h1 h2 => k dx h1 h2⟩
theorem scI14 : FnScope ["self", "limit"] ["self", "limit"] (defScope sI14) := ⟨rfl, rfl, rfl, by decide +kernel, rfl, by decide +kernel, by decide +kernel⟩
theorem okI14 {C f : Addr} {fd : FuncData} (F : Fun K "__init__" "TooMany.__init__" sI14 f fd) (TX : XcC K C "OverflowError" PySem.XK.mroOv "OverflowError.__new__" "limit") : FnOk P w K mg base CX0 1 f fd ["self", "limit"] (spIni C "limit") := by
  refine F.ok scI14 (fun vs H Q E h => ?_) (fun cdv A outer s H vs Q E hr h => ?_)
  · obtain ⟨a, y, rfl, _⟩ := h
    rfl
  · obtain ⟨a, y, rfl, ha, k⟩ := h
    exact ⟨_, pss_one (ps_xst PySem.F.store_OverflowError TX (pv 0) (pv 1)), _, rfl, _, rfl, a, rfl, ha, fun dx h1 h2 => k dx h1 h2⟩
theorem scI15 : FnScope ["self", "many"] ["self", "many"] (defScope sI15) := ⟨rfl, rfl, rfl, by decide +kernel, rfl, by decide +kernel, by decide +kernel⟩
theorem okI15 {C f : Addr} {fd : FuncData} (F : Fun K "__init__" "NothingToUndo.__init__" sI15 f fd) (TX : XcC K C "LookupError" PySem.XK.mroLk "LookupError.__new__" "many") : FnOk P w K mg base CX0 1 f fd ["self", "many"] (spIni C "many") := by
  refine F.ok scI15 (fun vs H Q E h => ?_) (fun cdv A outer s H vs Q E hr h => ?_)
  · obtain ⟨a, y, rfl, _⟩ := h
    rfl
  · obtain ⟨a, y, rfl, ha, k⟩ := h
    exact ⟨_, pss_one (ps_xst PySem.F.store_LookupError TX (pv 0) (pv 1)), _, rfl, _, rfl, a, rfl, ha, fun dx h1 h2 => k dx h1 h2⟩
/-- what the text says of such a class: its __init__ at f -/
structure Vc (K : PySem.W.Frag) (C f : Addr) (fd : FuncData) (cls qual : Str) (st : Stmt) (B : String) (m : List Value) (new : String) (fld : Str) : Prop where
  F : Fun K "__init__" qual st f fd
  b : Binds K fd ["self", fld] []
  iC : PySem.W.findIn K (.ref C) "__init__" = some (some (.ref f))
  tI : PySem.W.typeIn K (.ref f) = some (.type "function")
  x : XcC K C B m new fld
  nf : PySem.W.findIn K (.ref C) fld = some none
def spVal (K : PySem.W.Frag) : Sp := fun vs H Q _ => ∃ (v v' : V) (d d' : PyData) (n l : Int), vs = [v, v', .int n, .int l] ∧ Rep K H v d ∧ Good d ∧ Rep K H v' d' ∧ Good d' ∧ 0 ≤ n ∧ n ≤ 1000000 ∧ 0 ≤ l ∧ l ≤ 1000000 ∧ ∀ H', Evl.Ex H H' → Q (.bl true) H'
/-- an error of the class at C that keeps y in its field -/
def Keeps (C : Addr) (f : Str) (y : V) : V → Hp → Prop := fun v H => ∃ a dx, v = .ref a ∧ H a = some (exo a C (some dx)) ∧ H dx = some (exd dx [(f, y)])
theorem stays_keeps {C : Addr} {f : Str} {y : V} : Stays (Keeps C f y) := fun v H H' e ⟨a, dx, h1, h2, h3⟩ => ⟨a, dx, h1, e _ _ h2, e _ _ h3⟩
theorem evp_mk {σ : L2.St} {H : Hp} {te : TE} {C : Addr} {f : Str} {y : V} (h : Evl.Ev te σ H y) : EvP (tXmk C (spIni C f) (tCons te tNil)) σ H (Keeps C f y) := fun H1 e Q q =>
  h H1 e _ fun H2 e2 => ⟨by show 1 ≤ 1000; decide, fun a ha => ⟨a, y, rfl, upd_same, fun dx h1 h2 => ⟨rfl, q _ _ (e2.trans (Evl.Ex.mut (Evl.Ex.mut (Evl.Ex.new ha) (upd_none h1).2) ha)) ⟨a, dx, rfl, upd_same, by rw [upd_ne h2, upd_same]⟩⟩⟩⟩
/-- e.f of such an error, found at the place i of a list -/
theorem evp_fld {σ : L2.St} {H : Hp} {te : TE} {C : Addr} {f : Str} {y : V} (hC : ExcC K C) (hf : PySem.W.findIn K (.ref C) f = some none) (h : EvP te σ H (Keeps C f y)) : Evl.Ev (tXget K f te) σ H y := fun H1 e Q q =>
  h H1 e _ fun v H2 e2 ⟨a, dx, h1, h2, h3⟩ => ⟨a, C, dx, _, y, h1, h2, h3, by simp, hC, hf, q H2 e2⟩
/-- an item of a list at a written place -/
theorem evp_ixc {σ : L2.St} {H : Hp} {P : V → Hp → Prop} {p : Addr} {xs : List V} {x : V} {j i : Nat} (hp : H p = some (.lst xs)) (hx : xs[i]? = some x) (hP : P x H) (mP : Stays P) (h : σ[j]? = some (some (.ref p)) := by rfl) :
    EvP (tOp (rIxL K) (tVar j) (tC (.int (i : Int)))) σ H P := fun H1 e Q q => by
  have hl : i < xs.length := (List.getElem?_eq_some_iff.mp hx).1
  refine ⟨_, h, p, xs, (i : Int), x, rfl, rfl, SqL.of (e _ _ hp), ?_, q x H1 (Evl.Ex.refl _) (mP _ _ _ e hP)⟩
  unfold atI
  rw [Evl.ixN_nat hl]
  exact hx
theorem ev_repr {σ : L2.St} {H : Hp} {te : TE} {d : PyData} (h : EvP te σ H (fun x H => Rep K H x d)) (h1 : d.showable = true) (h2 : d.depth ≤ 100) (h3 : d.shown.length ≤ sizeLine) : Evl.Ev (tCB (rRepr K) (tCons te tNil)) σ H (.str d.shown) := fun H1 e Q q =>
  h H1 e _ fun x H2 e2 r => ⟨x, d, rfl, r, h1, h2, h3, q H2 e2⟩
/-- lists of lists of ints -/
def IntL : List (List Int) → List V → Hp → Prop
  | [], vs, _ => vs = []
  | ns :: r, vs, H => ∃ a ws, vs = .ref a :: ws ∧ H a = some (.lst (ns.map V.int)) ∧ IntL r ws H
theorem intL_stays : ∀ r, Stays (IntL r)
  | [], _, _, _, _, h => h
  | ns :: r, _, _, _, e, ⟨a, ws, h1, h2, h3⟩ => ⟨a, ws, h1, e _ _ h2, intL_stays r _ _ _ e h3⟩
theorem intL_len {H : Hp} : ∀ {r : List (List Int)} {vs : List V}, IntL r vs H → vs.length = r.length
  | [], _, h => by
    have h : _ = [] := h
    subst h
    rfl
  | ns :: r, _, ⟨a, ws, h1, h2, h3⟩ => by rw [h1, List.length_cons, List.length_cons, intL_len h3]
theorem intL_get {H : Hp} : ∀ {r : List (List Int)} {vs : List V} {i : Nat} (h : i < r.length), IntL r vs H → ∃ a, vs[i]? = some (.ref a) ∧ H a = some (.lst (r[i].map V.int))
  | [], _, _, h, _ => absurd h (Nat.not_lt_zero _)
  | j :: r, _, 0, _, ⟨a, ws, h1, h2, h3⟩ => ⟨a, by rw [h1]; rfl, h2⟩
  | j :: r, _, i + 1, h, ⟨a, ws, h1, h2, h3⟩ => by
    obtain ⟨b, q1, q2⟩ := intL_get (i := i) (by simpa using h) h3
    exact ⟨b, by rw [h1]; simpa using q1, by simpa using q2⟩
theorem evpa_ints {σ : L2.St} {H : Hp} {tr ts : TA} {ns : List Int} {r : List (List Int)} (h : Evl.EvA tr σ H (ns.map V.int)) (hz : ns.length ≤ 100000) (hr : EvPA ts σ H (IntL r)) : EvPA (tCons (tLst tr) ts) σ H (IntL (ns :: r)) := by
  refine (evpa_cons (evp_lst (EvPA.of h) stays_eq fun vs H1 z => by rw [z, List.length_map]; exact hz) ?_ hr).imp fun vs H1 _ z => ?_
  · rintro v H1 H2 e ⟨p, vs, h1, h2, h3⟩
    exact ⟨p, vs, h1, e _ _ h2, h3⟩
  · obtain ⟨v, ws, h1, ⟨p, xs, h2, h3, h4⟩, h5⟩ := z
    exact ⟨p, ws, by rw [h1, h2], by rw [h3, h4], h5⟩
def dueL : List (List Int) := [[2, 6], [3, 6], [4, 5], [6]]
theorem due_in : ∀ i : Nat, (h : i < 4) → ∀ j : Nat, j < 7 → inV (.int (j : Int)) ((dueL[i]'h).map V.int) = bas (12 + i) j := by decide
theorem scVal : FnScope ["kept", "word", "number", "limit", "made", "told", "due", "at", "place"] ["kept", "word", "number", "limit"] (defScope sVal) := ⟨rfl, rfl, rfl, by decide +kernel, rfl, by decide +kernel, by decide +kernel⟩
theorem okVal {ad : Nat → Addr} {f f1 f2 f12 f13 f14 f15 : Addr} {fd fd1 fd2 fd12 fd13 fd14 fd15 : FuncData} (F : Fun K "_law_values_right" "_law_values_right" sVal f fd) (T : Tx mg ad) (KX : Kx K ad)
    (D_law_classes : Dn K mg "_law_classes" sClasses f1 fd1 ["error"]) (D_law_bases : Dn K mg "_law_bases" sBases f2 fd2 ["error"])
    (V12 : Vc K (ad 12) f12 fd12 "InvalidNumber" "InvalidNumber.__init__" sI12 "IndexError" PySem.XK.mroIx "IndexError.__new__" "value") (V13 : Vc K (ad 13) f13 fd13 "UnknownName" "UnknownName.__init__" sI13 "KeyError" PySem.XK.mroKy "LookupError.__new__" "name")
    (V14 : Vc K (ad 14) f14 fd14 "TooMany" "TooMany.__init__" sI14 "OverflowError" PySem.XK.mroOv "OverflowError.__new__" "limit") (V15 : Vc K (ad 15) f15 fd15 "NothingToUndo" "NothingToUndo.__init__" sI15 "LookupError" PySem.XK.mroLk "LookupError.__new__" "many") :
    FnG P w K mg base CX0 3 f fd ["kept", "word", "number", "limit"] (spVal K) := by
  have G_law_classes : FnOk P w K mg base CX0 1 f1 fd1 ["error"] (spCls K ad) := okClasses D_law_classes.F T
  have G_law_bases : FnOk P w K mg base CX0 1 f2 fd2 ["error"] (spBas K ad) := okBases D_law_bases.F T
  have G12 : FnOk P w K mg base CX0 1 f12 fd12 ["self", "value"] (spIni (ad 12) "value") := okI12 V12.F V12.x
  have G13 : FnOk P w K mg base CX0 1 f13 fd13 ["self", "name"] (spIni (ad 13) "name") := okI13 V13.F V13.x
  have G14 : FnOk P w K mg base CX0 1 f14 fd14 ["self", "limit"] (spIni (ad 14) "limit") := okI14 V14.F V14.x
  have G15 : FnOk P w K mg base CX0 1 f15 fd15 ["self", "many"] (spIni (ad 15) "many") := okI15 V15.F V15.x
  refine okG F scVal (fun vs H Q E h => ?_) (fun cdv A outer s H vs Q E hg hr h => ?_)
  · obtain ⟨v, v', d, d', n, l, rfl, _⟩ := h
    rfl
  · obtain ⟨v, v', d, d', n, l, rfl, hv, gd, hv', gd', n0, n1, l0, l1, k⟩ := h
    have hr1 : Room 1 _ := hr.mono (by decide)
    have hG := (deeper_guards A (envOfC "_law_values_right" (defScope sVal) s.heap.objs.size f cdv)).trans hg
    refine ⟨_, (pss_cons (ps_set (i := 4) scVal.nd rfl (Or.inl rfl) (pe_lst (pa_cons (pe_xmk (fd := fd12) PySem.F.excBase_IndexError PySem.XK.likeIx (V12.x) V12.iC V12.tI G12 hr V12.b pass0 (by rfl) T.g_InvalidNumber (pa_cons (pv 0) pa_nil)) (pa_cons (pe_xmk (fd := fd13) PySem.F.excBase_LookupError PySem.XK.likeKy (V13.x) V13.iC V13.tI G13 hr V13.b pass0 (by rfl) T.g_UnknownName (pa_cons (pv 1) pa_nil)) (pa_cons (pe_xmk (fd := fd14) PySem.F.excBase_OverflowError PySem.XK.likeOv (V14.x) V14.iC V14.tI G14 hr V14.b pass0 (by rfl) T.g_TooMany (pa_cons (pv 3) pa_nil)) (pa_cons (pe_xmk (fd := fd15) PySem.F.excBase_LookupError PySem.XK.likeLk (V15.x) V15.iC V15.tI G15 hr V15.b pass0 (by rfl) T.g_NothingToUndo (pa_cons (pv 2) pa_nil)) pa_nil))))))
  (pss_cons (ps_set (i := 5) scVal.nd rfl (Or.inl rfl) (pe_lstS (pa_cons (pe_xget (pe_ix ix_list (pv 4) pe_int (fun _ _ => rfl))) (pa_cons (pe_xget (pe_ix ix_list (pv 4) pe_int (fun _ _ => rfl))) (pa_cons (pe_xget (pe_ix ix_list (pv 4) pe_int (fun _ _ => rfl))) (pa_cons (pe_xget (pe_ix ix_list (pv 4) pe_int (fun _ _ => rfl))) pa_nil))))))
  (pss_cons (ps_if (pt_cmpR op_ne (pe_callB (call_reprG hG hr) (by rfl) T.repr (by decide +kernel) (pa_cons (pv 5) pa_nil)) (pe_callB (call_reprG hG hr) (by rfl) T.repr (by decide +kernel) (pa_cons (pe_lstS (pa_cons (pv 0) (pa_cons (pv 1) (pa_cons (pv 3) (pa_cons (pv 2) pa_nil))))) pa_nil)) (nomark _)) (pss_one (ps_ret pe_bl)) pss_nil)
  (pss_cons (ps_set (i := 6) scVal.nd rfl (Or.inr rfl) (pe_lst (pa_cons (pe_lst (pa_cons pe_int (pa_cons pe_int pa_nil))) (pa_cons (pe_lst (pa_cons pe_int (pa_cons pe_int pa_nil))) (pa_cons (pe_lst (pa_cons pe_int (pa_cons pe_int pa_nil))) (pa_cons (pe_lst (pa_cons pe_int pa_nil)) pa_nil))))))
  (pss_cons (ps_for PassesOwn.never rfl (pi_range1 (by rfl) T.range (pa_cons pe_int pa_nil)) (pg_name (i := 7) scVal.nd rfl (Or.inr rfl)) (pss_cons (ps_if (pt_cmpR (op_neD hr.units) (pe_call G_law_classes hr1 rfl D_law_classes.m D_law_classes.F.kp D_law_classes.b .nil pass0 (pa_cons (pe_ix ix_list (pv 4) (pv 7) (fun _ _ => rfl)) pa_nil)) (pe_lc (own := [("place", 8)]) (g := gName 8) (tt := tYes) rfl scVal.nd (pi_range1 (by rfl) T.range (pa_cons pe_int pa_nil)) (blkOk_by (own := [("place", 8)]) (N := ["kept", "word", "number", "limit", "made", "told", "due", "at", "place"]) (sc := defScope sVal) (by decide +kernel)) (fun _ _ _ _ _ => (pg_name (i := 8) scVal.nd rfl (Or.inl rfl))) (fun _ _ _ _ _ => pts_nil) (fun _ _ _ _ _ => (pe_cmpR op_eq (pv 8) (pe_op op_add pe_int (pv 7)) (nomark _)))) (nomark _)) (pss_one (ps_ret pe_bl)) pss_nil)
  (pss_one (ps_if (pt_cmpR (op_neD hr.units) (pe_call G_law_bases hr1 rfl D_law_bases.m D_law_bases.F.kp D_law_bases.b .nil pass0 (pa_cons (pe_ix ix_list (pv 4) (pv 7) (fun _ _ => rfl)) pa_nil)) (pe_lc (own := [("place", 8)]) (g := gName 8) (tt := tYes) rfl scVal.nd (pi_range1 (by rfl) T.range (pa_cons pe_int pa_nil)) (blkOk_by (own := [("place", 8)]) (N := ["kept", "word", "number", "limit", "made", "told", "due", "at", "place"]) (sc := defScope sVal) (by decide +kernel)) (fun _ _ _ _ _ => (pg_name (i := 8) scVal.nd rfl (Or.inl rfl))) (fun _ _ _ _ _ => pts_nil) (fun _ _ _ _ _ => (pe_cmpR (op_in_seqK (K := K)) (pv 8) (pe_ix (ix_listK (K := K)) (pv 6) (pv 7) (fun _ _ => rfl)) (by rfl)))) (nomark _)) (pss_one (ps_ret pe_bl)) pss_nil))))
  (pss_one (ps_ret pe_bl))))))), ?_⟩
    -- the four errors
    refine q_asgP (evp_lst (evpa_cons (evp_mk (Evl.ev_var rfl)) stays_keeps (evpa_cons (evp_mk (Evl.ev_var rfl)) stays_keeps (evpa_cons (evp_mk (Evl.ev_var rfl)) stays_keeps (evpa_one (evp_mk (Evl.ev_var rfl)))))) ?_ ?_) fun m H1 e1 z => ?_
    · rintro vs H1 H2 e ⟨x, xs, rfl, h1, y, ys, rfl, h2, u, us, rfl, h3, t, rfl, h4⟩
      exact ⟨x, _, rfl, stays_keeps _ _ _ e h1, y, _, rfl, stays_keeps _ _ _ e h2, u, _, rfl, stays_keeps _ _ _ e h3, t, rfl, stays_keeps _ _ _ e h4⟩
    · rintro vs H1 ⟨x, xs, rfl, h1, y, ys, rfl, h2, u, us, rfl, h3, t, rfl, h4⟩
      show 4 ≤ 100000
      decide
    obtain ⟨p, vs, rfl, hp, x, xs, rfl, h12, y, ys, rfl, h13, u, us, rfl, h14, t, rfl, h15⟩ := z
    -- what they keep
    refine q_asgP (evp_lstS (EvPA.of (Evl.ea_cons (evp_fld (KX.ex 12 (by decide)) V12.nf (evp_ixc (i := 0) hp rfl h12 stays_keeps)) (Evl.ea_cons (evp_fld (KX.ex 13 (by decide)) V13.nf (evp_ixc (i := 1) hp rfl h13 stays_keeps))
      (Evl.ea_cons (evp_fld (KX.ex 14 (by decide)) V14.nf (evp_ixc (i := 2) hp rfl h14 stays_keeps)) (Evl.ea_cons (evp_fld (KX.ex 15 (by decide)) V15.nf (evp_ixc (i := 3) hp rfl h15 stays_keeps)) Evl.ea_nil))))) stays_eq (fun vs H1 z => by rw [z]; show 4 ≤ 100000; decide)) fun q_ H2 e2 z => ?_
    obtain ⟨q, _, rfl, sq, hq, rfl⟩ := z
    have ex := e1.trans e2
    have hl : l.natAbs.log2 < 20 := log2_lt' (by decide) (by omega)
    have hn : n.natAbs.log2 < 20 := log2_lt' (by decide) (by omega)
    have sh : PyData.showable (.list [d, d', .int l, .int n]) = true := by
      show (d.showable && (d'.showable && (decide _ && (decide _ && true)))) = true
      rw [gd.sh, gd'.sh]
      simp
      omega
    have dp : PyData.depth (.list [d, d', .int l, .int n]) ≤ 100 := by
      show max d.depth (max d'.depth (max 0 (max 0 0))) + 1 ≤ 100
      have := gd.dp
      have := gd'.dp
      omega
    have zz : (PyData.shown (.list [d, d', .int l, .int n])).length ≤ sizeLine := by
      have h := shown_le (.list [d, d', .int l, .int n]) (by show (plainD d && (plainD d' && (true && (true && true)))) = true; rw [gd.pl, gd'.pl]; rfl)
      have h2 : sz (.list [d, d', .int l, .int n]) = 2 + (sz d + 2 + (sz d' + 2 + (l.natAbs.log2 + 2 + 2 + (n.natAbs.log2 + 2 + 2 + 0)))) := rfl
      have := gd.z
      have := gd'.z
      rw [sizeLine_eq]
      omega
    have rep : ∀ {H3 : Hp} {q : Addr}, Evl.Ex H2 H3 → q ≠ sysModules → H3 q = some (.lst [v, v', .int l, .int n]) → Rep K H3 (.ref q) (.list [d, d', .int l, .int n]) := fun e3 hs h =>
      .lst (SqL.of h) (.cons (hv.mono (ex.trans e3)) (.cons (hv'.mono (ex.trans e3)) (.cons (.int _) (.cons (.int _) .nil)))) hs
    refine Evl.q_when (b := false) (et_bl (EvP.of (Evl.ev_is (Evl.ev_op (ev_repr (fun H3 e3 Q' k' => ⟨_, rfl, k' _ _ (Evl.Ex.refl _) (rep e3 sq (e3 _ _ hq))⟩) sh dp zz)
      (ev_repr (fun H3 e3 Q' k' => (evp_lstS (EvPA.of (Evl.ea_cons (Evl.ev_var rfl) (Evl.ea_cons (Evl.ev_var rfl) (Evl.ea_cons (Evl.ev_var rfl) (Evl.ea_cons (Evl.ev_var rfl) Evl.ea_nil))))) stays_eq (fun vs H1 z => by rw [z]; show 4 ≤ 100000; decide)) H3 e3 _ fun p' H4 e4 h4 => by
        obtain ⟨p1, _, rfl, s4, h4, rfl⟩ := h4
        exact k' _ _ e4 (rep (e3.trans e4) s4 h4)) sh dp zz) (Evl.rv_ne rfl)) (by simp)))) (fun h => nomatch h) (fun _ H3 e3 => ?_)
    have ex := ex.trans e3
    refine q_asgP (evp_lst (evpa_ints (ns := [2, 6]) (Evl.ea_cons Evl.ev_c (Evl.ea_cons Evl.ev_c Evl.ea_nil)) (by decide) (evpa_ints (ns := [3, 6]) (Evl.ea_cons Evl.ev_c (Evl.ea_cons Evl.ev_c Evl.ea_nil)) (by decide)
      (evpa_ints (ns := [4, 5]) (Evl.ea_cons Evl.ev_c (Evl.ea_cons Evl.ev_c Evl.ea_nil)) (by decide) (evpa_ints (ns := [6]) (Evl.ea_cons Evl.ev_c Evl.ea_nil) (by decide) evpa_nil)))) (intL_stays dueL) (fun vs H1 z => by rw [intL_len z]; decide)) fun w_ H4 e4 z => ?_
    obtain ⟨o, ws, rfl, ho, hw⟩ := z
    have ex := ex.trans e4
    have errs : ErrL ad [12, 13, 14, 15] [x, y, u, t] H4 := by
      have e : Evl.Ex H1 H4 := (e2.trans e3).trans e4
      obtain ⟨a, da, rfl, q1, q2⟩ := stays_keeps _ _ _ e h12
      obtain ⟨b, db, rfl, q3, q4⟩ := stays_keeps _ _ _ e h13
      obtain ⟨c, dc, rfl, q5, q6⟩ := stays_keeps _ _ _ e h14
      obtain ⟨g, dg, rfl, q7, q8⟩ := stays_keeps _ _ _ e h15
      exact ⟨a, _, rfl, .inr ⟨_, _, q1, q2⟩, b, _, rfl, .inr ⟨_, _, q3, q4⟩, c, _, rfl, .inr ⟨_, _, q5, q6⟩, g, _, rfl, .inr ⟨_, _, q7, q8⟩, rfl⟩
    have made : IsErr ad [12, 13, 14, 15] (.ref p) H4 := ⟨p, _, rfl, ((e2.trans e3).trans e4) _ _ hp, errs⟩
    refine Evl.q_forR1 (n := 4) (Evl.ea_cons Evl.ev_c Evl.ea_nil) (by decide) (fun i σ' H' => Evl.Ex H4 H' ∧ ∃ u, σ' = [some v, some v', some (.int n), some (.int l), some (.ref p), some (.ref q), some (.ref o), u, none]) (fun H' e => ⟨e, none, rfl⟩) ?_ ?_
    · rintro i σ' H' hi ⟨e, u, rfl⟩
      have hi : i < 4 := by omega
      have at_ : ∀ {σ : L2.St} {H1 : Hp}, Evl.Ex H' H1 → σ[4]? = some (some (.ref p)) → σ[7]? = some (some (.int (i : Int))) → EvP (tOp (rIxL K) (tVar 4) (tVar 7)) σ H1 (fun v H => ∃ a, v = .ref a ∧ ExcAt H a (ad (12 + i))) := fun {σ H1} e1 h1 h2 => by
        have g := evp_at (K := K) (i := i) (is := [12, 13, 14, 15]) (evp_var (stays_err _ _ _ (e.trans e1) made) stays_err h1) (Evl.ev_var h2) hi
        have hx : ∀ i (h : i < 4), ([12, 13, 14, 15] : List Nat)[i]'h = 12 + i := by decide
        rw [hx i hi] at g
        exact g
      refine Evl.q_when (et_bl (evp_neB (bs := (List.range 16).map fun j => decide (12 + i = j)) (evp_cls KX (by omega) (at_ (Evl.Ex.refl _) rfl rfl))
        (evp_lcB _ (by decide) (Evl.ea_cons Evl.ev_c Evl.ea_nil) (fun _ => rfl) fun j H1 _ _ => Evl.ev_is (Evl.ev_op (Evl.ev_var rfl) (Evl.ev_op Evl.ev_c (Evl.ev_var rfl) Evl.rv_I0) (Evl.rv_eq rfl)) (by rw [show ((12 : Int) + (i : Int)) = ((12 + i : Nat) : Int) by omega, dec_int])))) (fun h => nomatch h) (fun _ H5 e5 => ?_)
      refine Evl.s_when (et_bl (evp_neB (bs := (List.range 7).map fun j => bas (12 + i) j) (evp_bas KX (by omega) (at_ e5 rfl rfl))
        (evp_lcB _ (by decide) (Evl.ea_cons Evl.ev_c Evl.ea_nil) (fun _ => rfl) fun j H1 e1 hj => ?_))) (fun h => nomatch h) (fun _ H6 e6 => ⟨(e.trans e5).trans e6, _, rfl⟩)
      have hd : IntL dueL ws H1 := intL_stays _ _ _ _ ((e.trans e5).trans e1) hw
      obtain ⟨a, ha, hl⟩ := intL_get (r := dueL) (i := i) hi hd
      have hlen : i < ws.length := by rw [intL_len hd]; exact hi
      refine Evl.ev_is (Evl.ev_op (y := .ref a) (Evl.ev_var rfl) (Evl.ev_op (Evl.ev_var rfl) (Evl.ev_var rfl) (Evl.rv_ixL (SqL.of (((e.trans e5).trans e1) _ _ ho)) (by
        unfold atI
        rw [Evl.ixN_nat hlen]
        exact ha))) (Evl.rv_isL (SqL.of hl) rfl ?_)) ?_
      · rw [List.all_map]
        exact List.all_eq_true.mpr fun _ _ => rfl
      · congr 1
        exact due_in i hi j hj
    · rintro σ' H' ⟨e, u, rfl⟩
      exact Evl.s_ret Evl.ev_c fun H5 e5 => k _ ((ex.trans e).trans e5)
/-! ### the law -/
def spLaw (K : PySem.W.Frag) : Sp := fun vs H Q _ => ∃ (a : Addr) (ns : List Int), vs = [.ref a] ∧ SqL K H a (ns.map V.int) ∧ ns.length ≤ 63 ∧ ∀ H', Q (.bl true) H'
theorem ex_but {a : Addr} {H H' : Hp} (ha : H a = none) (x : But a H H') : Evl.Ex H H' := fun b o e => x b o (ne_of_none e ha) e
theorem scLaw : FnScope ["script", "at", "dice", "word", "kept", "name"] ["script"] (defScope sLaw) := ⟨rfl, rfl, rfl, by decide +kernel, rfl, by decide +kernel, by decide +kernel⟩
theorem okLaw {ad : Nat → Addr} {f f1 f2 f3 f4 f5 f6 f7 f8 f12 f13 f14 f15 : Addr} {fd fd1 fd2 fd3 fd4 fd5 fd6 fd7 fd8 fd12 fd13 fd14 fd15 : FuncData} (F : Fun K "law" "law" sLaw f fd) (T : Tx mg ad) (KX : Kx K ad)
    (D_law_classes : Dn K mg "_law_classes" sClasses f1 fd1 ["error"]) (D_law_bases : Dn K mg "_law_bases" sBases f2 fd2 ["error"])
    (D_law_pull : Dn K mg "_law_pull" sPull f3 fd3 ["dice", "total"]) (D_law_pick : Dn K mg "_law_pick" sPick f4 fd4 ["dice", "items"]) (D_law_dice : Dn K mg "_law_dice" sDice f5 fd5 ["script", "at"]) (D_law_value : Dn K mg "_law_value" sValue f6 fd6 ["dice"])
    (D_law_messages_right : Dn K mg "_law_messages_right" sMsg f7 fd7 ["text"]) (D_law_values_right : Dn K mg "_law_values_right" sVal f8 fd8 ["kept", "word", "number", "limit"])
    (V12 : Vc K (ad 12) f12 fd12 "InvalidNumber" "InvalidNumber.__init__" sI12 "IndexError" PySem.XK.mroIx "IndexError.__new__" "value") (V13 : Vc K (ad 13) f13 fd13 "UnknownName" "UnknownName.__init__" sI13 "KeyError" PySem.XK.mroKy "LookupError.__new__" "name")
    (V14 : Vc K (ad 14) f14 fd14 "TooMany" "TooMany.__init__" sI14 "OverflowError" PySem.XK.mroOv "OverflowError.__new__" "limit") (V15 : Vc K (ad 15) f15 fd15 "NothingToUndo" "NothingToUndo.__init__" sI15 "LookupError" PySem.XK.mroLk "LookupError.__new__" "many") :
    FnG P w K mg base CX0 4 f fd ["script"] (spLaw K) := by
  have G_law_pull : FnOk P w K mg base CX0 1 f3 fd3 ["dice", "total"] spPull := okPull D_law_pull.F T.toBt
  have G_law_pick : FnOk P w K mg base CX0 2 f4 fd4 ["dice", "items"] (spPick K) := okPick D_law_pick.F T.toBt D_law_pull
  have G_law_dice : FnOk P w K mg base CX0 1 f5 fd5 ["script", "at"] (spDice K) := okDice D_law_dice.F T.toBt
  have G_law_value : FnOk P w K mg base CX0 3 f6 fd6 ["dice"] (spValue K) := okValue D_law_value.F T.toBt D_law_pull D_law_pick
  have G_law_messages_right : FnOk P w K mg base CX0 2 f7 fd7 ["text"] spMsg := okMsg D_law_messages_right.F T KX D_law_classes D_law_bases
  have G_law_values_right : FnG P w K mg base CX0 3 f8 fd8 ["kept", "word", "number", "limit"] (spVal K) := okVal D_law_values_right.F T KX D_law_classes D_law_bases V12 V13 V14 V15
  refine okG F scLaw (fun vs H Q E h => ?_) (fun cdv A outer s H vs Q E hg hr h => ?_)
  · obtain ⟨a, ns, rfl, _⟩ := h
    rfl
  · obtain ⟨sc, ns, rfl, hS, hz, k⟩ := h
    have hr1 : Room 1 _ := hr.mono (by decide)
    have hr2 : Room 2 _ := hr.mono (by decide)
    have hG := (deeper_guards A (envOfC "law" (defScope sLaw) s.heap.objs.size f cdv)).trans hg
    refine ⟨_, (pss_cons (ps_for PassesOwn.never rfl (pi_range1 (by rfl) T.range (pa_cons (pe_callB (call_max2 rfl) (by rfl) T.max (by decide +kernel) (pa_cons pe_int (pa_cons (pe_callB (call_min2 rfl) (by rfl) T.min (by decide +kernel) (pa_cons pe_int (pa_cons (pe_callB call_len_seq (by rfl) T.len (by decide +kernel) (pa_cons (pv 0) pa_nil)) pa_nil))) pa_nil))) pa_nil)) (pg_name (i := 1) scLaw.nd rfl (Or.inl rfl)) (pss_cons (ps_set (i := 2) scLaw.nd rfl (Or.inl rfl) (pe_call G_law_dice hr1 rfl D_law_dice.m D_law_dice.F.kp D_law_dice.b .nil pass0 (pa_cons (pv 0) (pa_cons (pv 1) pa_nil))))
  (pss_cons (ps_set (i := 3) scLaw.nd rfl (Or.inl rfl) (pe_call G_law_pick hr2 rfl D_law_pick.m D_law_pick.F.kp D_law_pick.b .nil pass0 (pa_cons (pv 2) (pa_cons (pe_lst (pa_cons pe_str (pa_cons pe_str (pa_cons pe_str (pa_cons (pe_op op_mulS pe_str pe_int) pa_nil))))) pa_nil))))
  (pss_cons (ps_par rfl scLaw.nd (i := 4) (j := 5) rfl rfl (by decide) rfl rfl (pa_cons (pe_call G_law_value hr rfl D_law_value.m D_law_value.F.kp D_law_value.b .nil pass0 (pa_cons (pv 2) pa_nil)) (pa_cons (pe_call G_law_value hr rfl D_law_value.m D_law_value.F.kp D_law_value.b .nil pass0 (pa_cons (pv 2) pa_nil)) pa_nil)) (by rfl))
  (pss_cons (ps_if (pt_not (pt_val (pe_call G_law_messages_right hr2 rfl D_law_messages_right.m D_law_messages_right.F.kp D_law_messages_right.b .nil pass0 (pa_cons (pv 3) pa_nil)))) (pss_one (ps_ret pe_bl)) pss_nil)
  (pss_one (ps_if (pt_not (pt_val (pe_callG G_law_values_right hG hr rfl D_law_values_right.m D_law_values_right.F.kp D_law_values_right.b .nil pass0 (pa_cons (pv 4) (pa_cons (pv 5) (pa_cons (pe_call G_law_pull hr1 rfl D_law_pull.m D_law_pull.F.kp D_law_pull.b .nil pass0 (pa_cons (pv 2) (pa_cons pe_int pa_nil))) (pa_cons (pe_call G_law_pull hr1 rfl D_law_pull.m D_law_pull.F.kp D_law_pull.b .nil pass0 (pa_cons (pv 2) (pa_cons pe_int pa_nil))) pa_nil))))))) (pss_one (ps_ret pe_bl)) pss_nil)))))))
  (pss_one (ps_ret pe_bl))), ?_⟩
    refine Evl.q_forR1 (n := if (if (ns.length : Int) < 6 then (ns.length : Int) else 6) > 1 then (if (ns.length : Int) < 6 then (ns.length : Int) else 6) else 1) (Evl.ea_cons (Evl.ev_cb (Evl.ea_cons Evl.ev_c (Evl.ea_cons (Evl.ev_cb (z := .int (if (ns.length : Int) < 6 then (ns.length : Int) else 6)) (Evl.ea_cons Evl.ev_c (Evl.ea_cons (Evl.ev_cb (z := .int (ns.length : Int)) (Evl.ea_cons (Evl.ev_var rfl) Evl.ea_nil) (fun H1 e Q' q => ?_)) Evl.ea_nil)) (fun H1 e Q' q => ?_)) Evl.ea_nil)) (fun H1 e Q' q => ?_)) Evl.ea_nil) ?_
      (fun i σ' H' => Evl.Ex H H' ∧ ∃ u1 u2 u3 u4 u5, σ' = [some (.ref sc), u1, u2, u3, u4, u5]) (fun H' e => ⟨e, none, none, none, none, none, rfl⟩) ?_ ?_
    · refine ⟨sc, _, rfl, Or.inl (Evl.ex_l e hS), ?_⟩
      rw [List.length_map]
      exact q H1 (Evl.Ex.refl _)
    · exact ⟨_, _, rfl, q H1 (Evl.Ex.refl _)⟩
    · exact ⟨_, _, rfl, q H1 (Evl.Ex.refl _)⟩
    · constructor <;> split <;> (try split) <;> omega
    · rintro i σ' H' hi ⟨e, u1, u2, u3, u4, u5, rfl⟩
      refine ⟨_, rfl, _, rfl, sc, ns, (i : Int), rfl, Evl.ex_l e hS, hz, by omega, fun a g m c ha => ?_⟩
      refine ⟨_, rfl, _, _, rfl, rfl, mulOk1 rfl (by decide) (by decide), by show 4 ≤ sizeLine; decide, fun p np => ?_⟩
      obtain ⟨pa, _⟩ := upd_none np
      refine ⟨a, p, _, rfl, ⟨g, m, c, by rw [upd_ne (Ne.symm pa), upd_same]⟩, pa, SqL.of upd_same, by show 0 < 4; decide, by show 4 ≤ 1000; decide, fun v g2 m2 c2 hv => ?_⟩
      obtain ⟨z, rfl⟩ : ∃ z : Str, v = .str z := by
        simp only [List.mem_cons, List.not_mem_nil, or_false] at hv
        rcases hv with rfl | rfl | rfl | rfl <;> exact ⟨_, rfl⟩
      refine ⟨_, rfl, a, rfl, ⟨g2, m2, c2, upd_same⟩, fun v d H3 r1 gd b1 dc1 => ⟨_, rfl, a, rfl, dc1, fun v' d' H4 r2 gd' b2 dc2 => ⟨_, _, rfl, ?_⟩⟩⟩
      refine ⟨_, rfl, z, rfl, fun H5 e5 => ⟨true, rfl, ?_⟩⟩
      refine iteF ?_
      have dc5 : Dice H5 a := by
        obtain ⟨x, y, w, h⟩ := dc2
        exact ⟨x, y, w, e5 _ _ h⟩
      refine ⟨_, rfl, _, rfl, _, rfl, a, 2001, rfl, dc5, by decide, by decide, fun n g6 m6 c6 n0 n1 => ⟨_, rfl, a, 100, rfl, ⟨g6, m6, c6, upd_same⟩, by decide, by decide, fun l g7 m7 c7 l0 l1 => ?_⟩⟩
      have b5 : But a H4 H5 := But.of e5
      have b7 : But a H5 (upd (upd H5 a (.lst [.int g6, .int m6, .int c6])) a (.lst [.int g7, .int m7, .int c7])) := But.upd.trans But.upd
      refine ⟨v, v', d, d', n, l, rfl, r1.mono (ex_off' ((b2.trans b5).trans b7)), gd, r2.mono (ex_off' (b5.trans b7)), gd', n0, by omega, l0, by omega, fun H8 e8 => ⟨true, rfl, ?_⟩⟩
      refine iteF ?_
      refine ⟨e.trans ((ex_but ha ?_).trans e8), _, _, _, _, _, rfl⟩
      have b0 : But a H' (upd H' a (.lst [.int g, .int m, .int c])) := But.upd
      exact ((((((b0.trans (But.of (Evl.Ex.new np))).trans But.upd).trans b1).trans b2).trans b5).trans b7)
    · rintro σ' H' ⟨e, u1, u2, u3, u4, u5, rfl⟩
      exact Evl.s_ret Evl.ev_c fun H5 e5 => k _
end
/-! ### what the top has written -/
def excB (K : PySem.W.Frag) (C : Addr) : Bool :=
  decide (PySem.W.findIn K (.ref C) "__getattribute__" = some (some (.builtin "BaseException.__getattribute__"))) && (decide (PySem.W.findIn K (.ref C) "__getattr__" = some none) && (decide (PySem.W.subIn K (.ref C) (.type "BaseException") = some true) && (PySem.W.hasDictIn K C &&
  (decide (PySem.W.findIn K (.ref C) "__class__" = some (some (.builtin "object.__class__"))) && (decide (PySem.W.specialIn K (.builtin "object.__class__") "__get__" = some (some (.builtin "getset_descriptor.__get__"))) && (decide (PySem.W.takesIn K (.builtin "object.__class__") = some true) &&
  decide (PySem.W.mroIn K C (.type "object") = some true)))))))
theorem excB_ok {K : PySem.W.Frag} {C : Addr} (h : excB K C = true) : ExcC K C := by
  unfold excB at h
  simp only [Bool.and_eq_true, decide_eq_true_eq] at h
  obtain ⟨h1, h2, h3, h4, h5, h6, h7, h8⟩ := h
  exact ⟨h1, h2, h3, h4, h5, h6, h7, h8⟩
def okB (K : PySem.W.Frag) (ad : Nat → Addr) : Bool :=
  (List.range 17).all (fun i => excB K (ad i) && PySem.W.keepIn K (.ref (ad i))) && ((List.range 17).all (fun i => (List.range 16).all fun j => decide (PySem.W.kitOne K (.ref (ad i)) (.ref (ad j)) = some (decide (i = j)))) &&
  ((List.range 17).all (fun i => (List.range 7).all fun j => decide (PySem.W.kitOne K (.ref (ad i)) (bcl ad j) = some (bas i j))) &&
  (List.range 17).all (fun i => !(i < 12 || i == 16) || PySem.W.excIn K (ad i) mroVE "ValueError.__new__")))
theorem okB_ok {K : PySem.W.Frag} {ad : Nat → Addr} (h : okB K ad = true) : Kx K ad := by
  unfold okB at h
  simp only [Bool.and_eq_true, List.all_eq_true, List.mem_range, decide_eq_true_eq] at h
  obtain ⟨h1, h2, h3, h4⟩ := h
  refine ⟨fun i hi => excB_ok (h1 i hi).1, fun i j hi hj => h2 i hi j hj, fun i j hi hj => h3 i hi j hj, fun i hi => ?_, fun i hi => (h1 i hi).2⟩
  have hl : i < 17 := by
    simp only [Bool.or_eq_true, decide_eq_true_eq, beq_iff_eq] at hi
    omega
  have := h4 i hl
  rw [hi] at this
  simpa using this
def vcB (K : PySem.W.Frag) (C : Addr) (m : List Value) (new : String) (f : Str) : Bool :=
  PySem.W.excInitIn K C m new && (PySem.W.excOver K C m && (PySem.W.hasDictIn K C && (decide (PySem.W.takerIn K C f = some none) && (decide (PySem.W.findIn K (.ref C) "__setattr__" = some (some (.builtin "object.__setattr__"))) && (PySem.W.keepIn K (.ref C) && decide (PySem.W.findIn K (.ref C) f = some none))))))
theorem vcB_ok {K : PySem.W.Frag} {C : Addr} {m : List Value} {B new : String} {f : Str} (h : vcB K C m new f = true) : XcC K C B m new f ∧ PySem.W.findIn K (.ref C) f = some none := by
  unfold vcB at h
  simp only [Bool.and_eq_true, decide_eq_true_eq] at h
  obtain ⟨h1, h2, h3, h4, h5, h6, h7⟩ := h
  exact ⟨⟨h1, h2, h3, h4, h5, h6⟩, h7⟩
theorem all_mk {l : PySem.W.OpenLaw} {w : World} {K : PySem.W.Frag} {h : Heap} {mg : Str → Option Value} {fa : Addr} (X : K.In h) (G : h.Ns mainGlobals mg) (hfa : mg "law" = some (.ref fa))
    {c0 c1 c2 c3 c4 c5 c6 c7 c8 c9 c10 c11 c12 c13 c14 c15 c16 : Addr}
    (n0 : PySem.W.nsIn K mainGlobals "InvalidName" = some (some (.ref c0)))
    (n1 : PySem.W.nsIn K mainGlobals "InvalidCondition" = some (some (.ref c1)))
    (n2 : PySem.W.nsIn K mainGlobals "InvalidQuestion" = some (some (.ref c2)))
    (n3 : PySem.W.nsIn K mainGlobals "InvalidRow" = some (some (.ref c3)))
    (n4 : PySem.W.nsIn K mainGlobals "InvalidLog" = some (some (.ref c4)))
    (n5 : PySem.W.nsIn K mainGlobals "InvalidKind" = some (some (.ref c5)))
    (n6 : PySem.W.nsIn K mainGlobals "InvalidRest" = some (some (.ref c6)))
    (n7 : PySem.W.nsIn K mainGlobals "InvalidState" = some (some (.ref c7)))
    (n8 : PySem.W.nsIn K mainGlobals "InvalidMark" = some (some (.ref c8)))
    (n9 : PySem.W.nsIn K mainGlobals "InvalidOperation" = some (some (.ref c9)))
    (n10 : PySem.W.nsIn K mainGlobals "ParseError" = some (some (.ref c10)))
    (n11 : PySem.W.nsIn K mainGlobals "InvalidCommand" = some (some (.ref c11)))
    (n12 : PySem.W.nsIn K mainGlobals "InvalidNumber" = some (some (.ref c12)))
    (n13 : PySem.W.nsIn K mainGlobals "UnknownName" = some (some (.ref c13)))
    (n14 : PySem.W.nsIn K mainGlobals "TooMany" = some (some (.ref c14)))
    (n15 : PySem.W.nsIn K mainGlobals "NothingToUndo" = some (some (.ref c15)))
    (n16 : PySem.W.nsIn K mainGlobals "RowsError" = some (some (.ref c16)))
    {f1 : Addr} {od1 an1 : Option Addr} {sl1 : Array (Option Value)} {oc1 kV1 dc1 pm1 cd1 ct1 : Value} (a1 : PySem.W.nsIn K mainGlobals "_law_classes" = some (some (.ref f1))) (l1 : K.lookup f1 = some ⟨oc1, od1, .func (PySem.W.fnOf "_law_classes" "_law_classes" (defArgs sClasses) (defBody sClasses) (defScope sClasses) .none kV1 dc1 pm1 an1 cd1 ct1), sl1⟩) (d1 : PySem.W.codeIn K cd1 "_law_classes" = true) (k1 : PySem.W.keepIn K (.ref f1) = true)
    {f2 : Addr} {od2 an2 : Option Addr} {sl2 : Array (Option Value)} {oc2 kV2 dc2 pm2 cd2 ct2 : Value} (a2 : PySem.W.nsIn K mainGlobals "_law_bases" = some (some (.ref f2))) (l2 : K.lookup f2 = some ⟨oc2, od2, .func (PySem.W.fnOf "_law_bases" "_law_bases" (defArgs sBases) (defBody sBases) (defScope sBases) .none kV2 dc2 pm2 an2 cd2 ct2), sl2⟩) (d2 : PySem.W.codeIn K cd2 "_law_bases" = true) (k2 : PySem.W.keepIn K (.ref f2) = true)
    {f3 : Addr} {od3 an3 : Option Addr} {sl3 : Array (Option Value)} {oc3 kV3 dc3 pm3 cd3 ct3 : Value} (a3 : PySem.W.nsIn K mainGlobals "_law_pull" = some (some (.ref f3))) (l3 : K.lookup f3 = some ⟨oc3, od3, .func (PySem.W.fnOf "_law_pull" "_law_pull" (defArgs sPull) (defBody sPull) (defScope sPull) .none kV3 dc3 pm3 an3 cd3 ct3), sl3⟩) (d3 : PySem.W.codeIn K cd3 "_law_pull" = true) (k3 : PySem.W.keepIn K (.ref f3) = true)
    {f4 : Addr} {od4 an4 : Option Addr} {sl4 : Array (Option Value)} {oc4 kV4 dc4 pm4 cd4 ct4 : Value} (a4 : PySem.W.nsIn K mainGlobals "_law_pick" = some (some (.ref f4))) (l4 : K.lookup f4 = some ⟨oc4, od4, .func (PySem.W.fnOf "_law_pick" "_law_pick" (defArgs sPick) (defBody sPick) (defScope sPick) .none kV4 dc4 pm4 an4 cd4 ct4), sl4⟩) (d4 : PySem.W.codeIn K cd4 "_law_pick" = true) (k4 : PySem.W.keepIn K (.ref f4) = true)
    {f5 : Addr} {od5 an5 : Option Addr} {sl5 : Array (Option Value)} {oc5 kV5 dc5 pm5 cd5 ct5 : Value} (a5 : PySem.W.nsIn K mainGlobals "_law_dice" = some (some (.ref f5))) (l5 : K.lookup f5 = some ⟨oc5, od5, .func (PySem.W.fnOf "_law_dice" "_law_dice" (defArgs sDice) (defBody sDice) (defScope sDice) .none kV5 dc5 pm5 an5 cd5 ct5), sl5⟩) (d5 : PySem.W.codeIn K cd5 "_law_dice" = true) (k5 : PySem.W.keepIn K (.ref f5) = true)
    {f6 : Addr} {od6 an6 : Option Addr} {sl6 : Array (Option Value)} {oc6 kV6 dc6 pm6 cd6 ct6 : Value} (a6 : PySem.W.nsIn K mainGlobals "_law_value" = some (some (.ref f6))) (l6 : K.lookup f6 = some ⟨oc6, od6, .func (PySem.W.fnOf "_law_value" "_law_value" (defArgs sValue) (defBody sValue) (defScope sValue) .none kV6 dc6 pm6 an6 cd6 ct6), sl6⟩) (d6 : PySem.W.codeIn K cd6 "_law_value" = true) (k6 : PySem.W.keepIn K (.ref f6) = true)
    {f7 : Addr} {od7 an7 : Option Addr} {sl7 : Array (Option Value)} {oc7 kV7 dc7 pm7 cd7 ct7 : Value} (a7 : PySem.W.nsIn K mainGlobals "_law_messages_right" = some (some (.ref f7))) (l7 : K.lookup f7 = some ⟨oc7, od7, .func (PySem.W.fnOf "_law_messages_right" "_law_messages_right" (defArgs sMsg) (defBody sMsg) (defScope sMsg) .none kV7 dc7 pm7 an7 cd7 ct7), sl7⟩) (d7 : PySem.W.codeIn K cd7 "_law_messages_right" = true) (k7 : PySem.W.keepIn K (.ref f7) = true)
    {f8 : Addr} {od8 an8 : Option Addr} {sl8 : Array (Option Value)} {oc8 kV8 dc8 pm8 cd8 ct8 : Value} (a8 : PySem.W.nsIn K mainGlobals "_law_values_right" = some (some (.ref f8))) (l8 : K.lookup f8 = some ⟨oc8, od8, .func (PySem.W.fnOf "_law_values_right" "_law_values_right" (defArgs sVal) (defBody sVal) (defScope sVal) .none kV8 dc8 pm8 an8 cd8 ct8), sl8⟩) (d8 : PySem.W.codeIn K cd8 "_law_values_right" = true) (k8 : PySem.W.keepIn K (.ref f8) = true)
    {f9 : Addr} {od9 an9 : Option Addr} {sl9 : Array (Option Value)} {oc9 kV9 dc9 pm9 cd9 ct9 : Value} (a9 : PySem.W.nsIn K mainGlobals "law" = some (some (.ref f9))) (l9 : K.lookup f9 = some ⟨oc9, od9, .func (PySem.W.fnOf "law" "law" (defArgs sLaw) (defBody sLaw) (defScope sLaw) .none kV9 dc9 pm9 an9 cd9 ct9), sl9⟩) (d9 : PySem.W.codeIn K cd9 "law" = true) (k9 : PySem.W.keepIn K (.ref f9) = true)
    {g12 : Addr} {od12 an12 : Option Addr} {sl12 : Array (Option Value)} {oc12 kV12 dc12 pm12 cd12 ct12 : Value} (a12 : PySem.W.findIn K (.ref c12) "__init__" = some (some (.ref g12))) (l12 : K.lookup g12 = some ⟨oc12, od12, .func (PySem.W.fnOf "__init__" "InvalidNumber.__init__" (defArgs sI12) (defBody sI12) (defScope sI12) .none kV12 dc12 pm12 an12 cd12 ct12), sl12⟩) (d12 : PySem.W.codeIn K cd12 "InvalidNumber.__init__" = true) (k12 : PySem.W.keepIn K (.ref g12) = true) (t12 : PySem.W.typeIn K (.ref g12) = some (.type "function"))
    {g13 : Addr} {od13 an13 : Option Addr} {sl13 : Array (Option Value)} {oc13 kV13 dc13 pm13 cd13 ct13 : Value} (a13 : PySem.W.findIn K (.ref c13) "__init__" = some (some (.ref g13))) (l13 : K.lookup g13 = some ⟨oc13, od13, .func (PySem.W.fnOf "__init__" "UnknownName.__init__" (defArgs sI13) (defBody sI13) (defScope sI13) .none kV13 dc13 pm13 an13 cd13 ct13), sl13⟩) (d13 : PySem.W.codeIn K cd13 "UnknownName.__init__" = true) (k13 : PySem.W.keepIn K (.ref g13) = true) (t13 : PySem.W.typeIn K (.ref g13) = some (.type "function"))
    {g14 : Addr} {od14 an14 : Option Addr} {sl14 : Array (Option Value)} {oc14 kV14 dc14 pm14 cd14 ct14 : Value} (a14 : PySem.W.findIn K (.ref c14) "__init__" = some (some (.ref g14))) (l14 : K.lookup g14 = some ⟨oc14, od14, .func (PySem.W.fnOf "__init__" "TooMany.__init__" (defArgs sI14) (defBody sI14) (defScope sI14) .none kV14 dc14 pm14 an14 cd14 ct14), sl14⟩) (d14 : PySem.W.codeIn K cd14 "TooMany.__init__" = true) (k14 : PySem.W.keepIn K (.ref g14) = true) (t14 : PySem.W.typeIn K (.ref g14) = some (.type "function"))
    {g15 : Addr} {od15 an15 : Option Addr} {sl15 : Array (Option Value)} {oc15 kV15 dc15 pm15 cd15 ct15 : Value} (a15 : PySem.W.findIn K (.ref c15) "__init__" = some (some (.ref g15))) (l15 : K.lookup g15 = some ⟨oc15, od15, .func (PySem.W.fnOf "__init__" "NothingToUndo.__init__" (defArgs sI15) (defBody sI15) (defScope sI15) .none kV15 dc15 pm15 an15 cd15 ct15), sl15⟩) (d15 : PySem.W.codeIn K cd15 "NothingToUndo.__init__" = true) (k15 : PySem.W.keepIn K (.ref g15) = true) (t15 : PySem.W.typeIn K (.ref g15) = some (.type "function"))
    (z_int : PySem.W.nsIn K mainGlobals "int" = some none)
    (z_abs : PySem.W.nsIn K mainGlobals "abs" = some none)
    (z_max : PySem.W.nsIn K mainGlobals "max" = some none)
    (z_min : PySem.W.nsIn K mainGlobals "min" = some none)
    (z_len : PySem.W.nsIn K mainGlobals "len" = some none)
    (z_range : PySem.W.nsIn K mainGlobals "range" = some none)
    (z_repr : PySem.W.nsIn K mainGlobals "repr" = some none)
    (z_isinstance : PySem.W.nsIn K mainGlobals "isinstance" = some none)
    (z_ValueError : PySem.W.nsIn K mainGlobals "ValueError" = some none)
    (z_IndexError : PySem.W.nsIn K mainGlobals "IndexError" = some none)
    (z_KeyError : PySem.W.nsIn K mainGlobals "KeyError" = some none)
    (z_OverflowError : PySem.W.nsIn K mainGlobals "OverflowError" = some none)
    (z_ArithmeticError : PySem.W.nsIn K mainGlobals "ArithmeticError" = some none)
    (z_LookupError : PySem.W.nsIn K mainGlobals "LookupError" = some none)
    (q0 : okB K (fun i => ([c0, c1, c2, c3, c4, c5, c6, c7, c8, c9, c10, c11, c12, c13, c14, c15, c16] : List Addr).getD i 0) = true) (q12 : vcB K c12 PySem.XK.mroIx "IndexError.__new__" "value" = true) (q13 : vcB K c13 PySem.XK.mroKy "LookupError.__new__" "name" = true) (q14 : vcB K c14 PySem.XK.mroOv "OverflowError.__new__" "limit" = true) (q15 : vcB K c15 PySem.XK.mroLk "LookupError.__new__" "many" = true) :
    ∃ fd : FuncData, (∀ (s : Shared) (v : Value), BindsTo s fd ⟨[v], []⟩ [("script", v)]) ∧ ∀ base : Heap, K.In base → base.Ns mainGlobals mg → FnG l.prog w K mg base CX0 4 fa fd ["script"] (spLaw K) := by
  have e := hfa.symm.trans (PySem.W.mg_of X G a9)
  cases e
  have T : Tx mg (fun i => ([c0, c1, c2, c3, c4, c5, c6, c7, c8, c9, c10, c11, c12, c13, c14, c15, c16] : List Addr).getD i 0) := { int := PySem.W.mg_none_of X G z_int, abs := PySem.W.mg_none_of X G z_abs, max := PySem.W.mg_none_of X G z_max, min := PySem.W.mg_none_of X G z_min, len := PySem.W.mg_none_of X G z_len, range := PySem.W.mg_none_of X G z_range, repr := PySem.W.mg_none_of X G z_repr, isinstance := PySem.W.mg_none_of X G z_isinstance, ValueError := PySem.W.mg_none_of X G z_ValueError, IndexError := PySem.W.mg_none_of X G z_IndexError, KeyError := PySem.W.mg_none_of X G z_KeyError, OverflowError := PySem.W.mg_none_of X G z_OverflowError, ArithmeticError := PySem.W.mg_none_of X G z_ArithmeticError, LookupError := PySem.W.mg_none_of X G z_LookupError, g_InvalidName := PySem.W.mg_of X G n0, g_InvalidCondition := PySem.W.mg_of X G n1, g_InvalidQuestion := PySem.W.mg_of X G n2, g_InvalidRow := PySem.W.mg_of X G n3, g_InvalidLog := PySem.W.mg_of X G n4, g_InvalidKind := PySem.W.mg_of X G n5, g_InvalidRest := PySem.W.mg_of X G n6, g_InvalidState := PySem.W.mg_of X G n7, g_InvalidMark := PySem.W.mg_of X G n8, g_InvalidOperation := PySem.W.mg_of X G n9, g_ParseError := PySem.W.mg_of X G n10, g_InvalidCommand := PySem.W.mg_of X G n11, g_InvalidNumber := PySem.W.mg_of X G n12, g_UnknownName := PySem.W.mg_of X G n13, g_TooMany := PySem.W.mg_of X G n14, g_NothingToUndo := PySem.W.mg_of X G n15, g_RowsError := PySem.W.mg_of X G n16 }
  have F1 := fun_mk (st := sClasses) l1 d1 k1
  have D1 : Dn K mg "_law_classes" sClasses f1 _ ["error"] := ⟨F1, PySem.W.mg_of X G a1, F1.binds (ps := ["error"]) fun _ _ _ _ _ _ us hl => match us, hl with | [_], _ => rfl⟩
  have F2 := fun_mk (st := sBases) l2 d2 k2
  have D2 : Dn K mg "_law_bases" sBases f2 _ ["error"] := ⟨F2, PySem.W.mg_of X G a2, F2.binds (ps := ["error"]) fun _ _ _ _ _ _ us hl => match us, hl with | [_], _ => rfl⟩
  have F3 := fun_mk (st := sPull) l3 d3 k3
  have D3 : Dn K mg "_law_pull" sPull f3 _ ["dice", "total"] := ⟨F3, PySem.W.mg_of X G a3, F3.binds (ps := ["dice", "total"]) fun _ _ _ _ _ _ us hl => match us, hl with | [_, _], _ => rfl⟩
  have F4 := fun_mk (st := sPick) l4 d4 k4
  have D4 : Dn K mg "_law_pick" sPick f4 _ ["dice", "items"] := ⟨F4, PySem.W.mg_of X G a4, F4.binds (ps := ["dice", "items"]) fun _ _ _ _ _ _ us hl => match us, hl with | [_, _], _ => rfl⟩
  have F5 := fun_mk (st := sDice) l5 d5 k5
  have D5 : Dn K mg "_law_dice" sDice f5 _ ["script", "at"] := ⟨F5, PySem.W.mg_of X G a5, F5.binds (ps := ["script", "at"]) fun _ _ _ _ _ _ us hl => match us, hl with | [_, _], _ => rfl⟩
  have F6 := fun_mk (st := sValue) l6 d6 k6
  have D6 : Dn K mg "_law_value" sValue f6 _ ["dice"] := ⟨F6, PySem.W.mg_of X G a6, F6.binds (ps := ["dice"]) fun _ _ _ _ _ _ us hl => match us, hl with | [_], _ => rfl⟩
  have F7 := fun_mk (st := sMsg) l7 d7 k7
  have D7 : Dn K mg "_law_messages_right" sMsg f7 _ ["text"] := ⟨F7, PySem.W.mg_of X G a7, F7.binds (ps := ["text"]) fun _ _ _ _ _ _ us hl => match us, hl with | [_], _ => rfl⟩
  have F8 := fun_mk (st := sVal) l8 d8 k8
  have D8 : Dn K mg "_law_values_right" sVal f8 _ ["kept", "word", "number", "limit"] := ⟨F8, PySem.W.mg_of X G a8, F8.binds (ps := ["kept", "word", "number", "limit"]) fun _ _ _ _ _ _ us hl => match us, hl with | [_, _, _, _], _ => rfl⟩
  have F9 := fun_mk (st := sLaw) l9 d9 k9
  have F12 := fun_mk (st := sI12) l12 d12 k12
  have V12 : Vc K c12 g12 _ "InvalidNumber" "InvalidNumber.__init__" sI12 "IndexError" PySem.XK.mroIx "IndexError.__new__" "value" := ⟨F12, F12.binds (ps := ["self", "value"]) fun _ _ _ _ _ _ us hl => match us, hl with | [_, _], _ => rfl, a12, t12, (vcB_ok (B := "IndexError") q12).1, (vcB_ok (B := "IndexError") q12).2⟩
  have F13 := fun_mk (st := sI13) l13 d13 k13
  have V13 : Vc K c13 g13 _ "UnknownName" "UnknownName.__init__" sI13 "KeyError" PySem.XK.mroKy "LookupError.__new__" "name" := ⟨F13, F13.binds (ps := ["self", "name"]) fun _ _ _ _ _ _ us hl => match us, hl with | [_, _], _ => rfl, a13, t13, (vcB_ok (B := "KeyError") q13).1, (vcB_ok (B := "KeyError") q13).2⟩
  have F14 := fun_mk (st := sI14) l14 d14 k14
  have V14 : Vc K c14 g14 _ "TooMany" "TooMany.__init__" sI14 "OverflowError" PySem.XK.mroOv "OverflowError.__new__" "limit" := ⟨F14, F14.binds (ps := ["self", "limit"]) fun _ _ _ _ _ _ us hl => match us, hl with | [_, _], _ => rfl, a14, t14, (vcB_ok (B := "OverflowError") q14).1, (vcB_ok (B := "OverflowError") q14).2⟩
  have F15 := fun_mk (st := sI15) l15 d15 k15
  have V15 : Vc K c15 g15 _ "NothingToUndo" "NothingToUndo.__init__" sI15 "LookupError" PySem.XK.mroLk "LookupError.__new__" "many" := ⟨F15, F15.binds (ps := ["self", "many"]) fun _ _ _ _ _ _ us hl => match us, hl with | [_, _], _ => rfl, a15, t15, (vcB_ok (B := "LookupError") q15).1, (vcB_ok (B := "LookupError") q15).2⟩
  exact ⟨PySem.W.fnOf "law" "law" (defArgs sLaw) (defBody sLaw) (defScope sLaw) .none kV9 dc9 pm9 an9 cd9 ct9, fun s v => .of_eq rfl, fun base _ _ => okLaw F9 T (okB_ok q0) D1 D2 D3 D4 D5 D6 D7 D8 V12 V13 V14 V15⟩
theorem walk {l : PySem.W.OpenLaw} {q : Program} {loose : List Str} {XP : (Str → Option Value) → Heap → Prop} {YP : World → Heap → Prop} {d : DefRec} {K : Params → PySem.W.Frag} (hn : l.most = some 63) (hdf : d.params.defaults = [])
    (hY : ∀ (w : World) (h : Heap), YP w h → (K w.params).In h)
    (F : ∀ (w : World) (mg : Str → Option Value) (fa : Addr) (h : Heap), (K w.params).In h → h.Ns mainGlobals mg → mg d.name = some (.ref fa) →
      ∃ fd : FuncData, (∀ (s : Shared) (u : Value), BindsTo s fd ⟨[u], []⟩ [("script", u)]) ∧ ∀ base : Heap, (K w.params).In base → base.Ns mainGlobals mg → FnG l.prog w (K w.params) mg base CX0 4 fa fd ["script"] (spLaw (K w.params))) :
    PySem.W.WalkO q loose XP YP l.row.toRowW d [] (fun f vs => PySem.call f vs) :=
  walkG (n := 63) (k := 4) (x := "script") (sp := spLaw) hn (by decide) hdf ⟨rfl, by decide, by decide⟩ hY F (fun _ _ a ns hl hS => ⟨a, ns, rfl, hS, hl, fun _ => rfl⟩)
end K00
open PySem PySem.W PyProof.Rows
set_option maxRecDepth 100000 in
set_option maxHeartbeats 0 in
theorem PySem.Challenge.cw_needrows_k00_errors_holds : PySem.Challenge.rw_needrows_k00_errors.Holds := by
  w_on; o_law; k_head; (case hw => w_witness2)
  k_fill
  refine K00.walk (l := PySem.Challenge.rw_needrows_k00_errors) rfl rfl (fun w h Y => PySem.W.kIn_of Y) ?F
  case F =>
    intro w mg fa h KX G hmg
    refine' K00.all_mk KX G hmg ?n0 ?n1 ?n2 ?n3 ?n4 ?n5 ?n6 ?n7 ?n8 ?n9 ?n10 ?n11 ?n12 ?n13 ?n14 ?n15 ?n16 ?a1 ?l1 ?d1 ?k1 ?a2 ?l2 ?d2 ?k2 ?a3 ?l3 ?d3 ?k3 ?a4 ?l4 ?d4 ?k4 ?a5 ?l5 ?d5 ?k5 ?a6 ?l6 ?d6 ?k6 ?a7 ?l7 ?d7 ?k7 ?a8 ?l8 ?d8 ?k8 ?a9 ?l9 ?d9 ?k9 ?a12 ?l12 ?d12 ?k12 ?t12 ?a13 ?l13 ?d13 ?k13 ?t13 ?a14 ?l14 ?d14 ?k14 ?t14 ?a15 ?l15 ?d15 ?k15 ?t15 ?z_int ?z_abs ?z_max ?z_min ?z_len ?z_range ?z_repr ?z_isinstance ?z_ValueError ?z_IndexError ?z_KeyError ?z_OverflowError ?z_ArithmeticError ?z_LookupError ?q0 ?q12 ?q13 ?q14 ?q15
    (case n0 => k_is)
    (case n1 => k_is)
    (case n2 => k_is)
    (case n3 => k_is)
    (case n4 => k_is)
    (case n5 => k_is)
    (case n6 => k_is)
    (case n7 => k_is)
    (case n8 => k_is)
    (case n9 => k_is)
    (case n10 => k_is)
    (case n11 => k_is)
    (case n12 => k_is)
    (case n13 => k_is)
    (case n14 => k_is)
    (case n15 => k_is)
    (case n16 => k_is)
    (case a1 => k_is)
    (case l1 => k_is)
    (case d1 => k_is)
    (case k1 => k_is)
    (case a2 => k_is)
    (case l2 => k_is)
    (case d2 => k_is)
    (case k2 => k_is)
    (case a3 => k_is)
    (case l3 => k_is)
    (case d3 => k_is)
    (case k3 => k_is)
    (case a4 => k_is)
    (case l4 => k_is)
    (case d4 => k_is)
    (case k4 => k_is)
    (case a5 => k_is)
    (case l5 => k_is)
    (case d5 => k_is)
    (case k5 => k_is)
    (case a6 => k_is)
    (case l6 => k_is)
    (case d6 => k_is)
    (case k6 => k_is)
    (case a7 => k_is)
    (case l7 => k_is)
    (case d7 => k_is)
    (case k7 => k_is)
    (case a8 => k_is)
    (case l8 => k_is)
    (case d8 => k_is)
    (case k8 => k_is)
    (case a9 => k_is)
    (case l9 => k_is)
    (case d9 => k_is)
    (case k9 => k_is)
    (case a12 => k_is)
    (case l12 => k_is)
    (case d12 => k_is)
    (case k12 => k_is)
    (case t12 => k_is)
    (case a13 => k_is)
    (case l13 => k_is)
    (case d13 => k_is)
    (case k13 => k_is)
    (case t13 => k_is)
    (case a14 => k_is)
    (case l14 => k_is)
    (case d14 => k_is)
    (case k14 => k_is)
    (case t14 => k_is)
    (case a15 => k_is)
    (case l15 => k_is)
    (case d15 => k_is)
    (case k15 => k_is)
    (case t15 => k_is)
    (case z_int => k_is)
    (case z_abs => k_is)
    (case z_max => k_is)
    (case z_min => k_is)
    (case z_len => k_is)
    (case z_range => k_is)
    (case z_repr => k_is)
    (case z_isinstance => k_is)
    (case z_ValueError => k_is)
    (case z_IndexError => k_is)
    (case z_KeyError => k_is)
    (case z_OverflowError => k_is)
    (case z_ArithmeticError => k_is)
    (case z_LookupError => k_is)
    (case q0 => kernel_rfl)
    (case q12 => kernel_rfl)
    (case q13 => kernel_rfl)
    (case q14 => kernel_rfl)
    (case q15 => kernel_rfl)
