import PyProof.Rows.All

import Wide.All

import OpenK.AllK

import Wide.FinOn

import PyProof.EqAt

import PyProof.EqKinds

import PyProof.TupleCall

import HandS.ForExc

import PyProof.ReprRoads

import PyProof.ReprLen

import HandS.ForMost

import HandS.Wide

import HandS.Flow

import HandS.Star

import HandS.TupAny

import HandS.TupMul

import HandS.Style

import HandS.Deep

import HandS.IsInst

import HandS.Codes

import HandS.RevTup

import PyProof.Rows.ReprOcc

import KE.GoesEnum

import KE.DataMinMax

import HandS.Iter

import HandS.TryOnly

import HandS.TryMany

import HandS.WordsExc

import HandS.More

import HandS.Property

import HandS.ClsMeth

import HandS.TupLen

import KE.GoesMore

import KE.KDictZip

import PyProof.ListNew

import PyProof.ListRange

import HandS.WordsDict

import PySem.Challenge.RW_wagerroom_k50_expected_amounts

set_option Elab.async false
set_option linter.all false
set_option maxRecDepth 100000
set_option maxHeartbeats 4000000

namespace Wr
open PySem PySem.Spec PyProof.Rows L2

/-! ## defs that are called where no repr is under way -/
section
variable {P : Program} {w : World} {K : PySem.W.Frag} {mg : Str → Option Value} {base : Heap}

structure FnG (P : Program) (w : World) (K : PySem.W.Frag) (mg : Str → Option Value)
    (base : Heap) (CX : CXT) (k : Nat) (f : Addr) (fd : FuncData) (ps : List Str)
    (sp : Sp) : Prop where
  many : ∀ xs H R Z, sp xs H R Z → xs.length = ps.length
  go : ∀ (B : Around) (out : List Env) (t : Shared) (H : Hp) (ar : Args)
    (ws : List Value) (xs : List V) (R : VK) (Z : XK),
    B.guards = some [] → Room k B → Env0 P w K mg base B out t H →
    BindsTo t fd ar (ps.zip ws) → Vals xs ws → sp xs H R Z →
    codeAny (model P w) B (.call (.ref f) ar) (CR CX out P w H t R Z) t

theorem FnG.of {CX : CXT} {k : Nat} {f : Addr} {fd : FuncData} {ps : List Str} {sp : Sp}
    (F : FnOk P w K mg base CX k f fd ps sp) : FnG P w K mg base CX k f fd ps sp :=
  ⟨F.len, fun B out t H ar ws xs R Z _ => F.run B out t H ar ws xs R Z⟩

theorem FnG.mono {CX : CXT} {j k : Nat} {f : Addr} {fd : FuncData} {ps : List Str} {sp : Sp}
    (F : FnG P w K mg base CX j f fd ps sp) (h : j ≤ k) : FnG P w K mg base CX k f fd ps sp :=
  ⟨F.many, fun B out t H ar ws xs R Z g r => F.go B out t H ar ws xs R Z g (r.mono h)⟩

theorem hkind_of {ps : List Str} {ws : List Value} {N : List Str} {sc : Scope}
    (S : FnScope N ps sc) :
    ((ps.zip ws).all fun y => sc.names.lookup y.1 == some .local
      || sc.names.lookup y.1 == some .cell) = true := by
  rw [List.all_eq_true]
  rintro ⟨n, v⟩ hy
  rcases S.par n (List.of_mem_zip hy).1 with q | q
  · show (sc.names.lookup n == some .local || _) = true
    rw [q]; rfl
  · show (sc.names.lookup n == some .local || sc.names.lookup n == some .cell) = true
    rw [q]; rfl

/-- a def by its body, guards known -/
theorem okG {CX : CXT} {x qual : Str} {st : Stmt} {f : Addr} {fd : FuncData} {N ps : List Str}
    {k : Nat} {sp : Sp} (F : L2.Fun K x qual st f fd) (S : FnScope N ps (defScope st))
    (many : ∀ xs H R Z, sp xs H R Z → xs.length = ps.length)
    (body : ∀ (cdv : Value) (B : Around) (out : List Env) (t : Shared) (H : Hp)
      (xs : List V) (R : VK) (Z : XK), B.guards = some [] →
      Room k (B.deeper (envOfC qual (defScope st) t.heap.objs.size f cdv)) → sp xs H R Z →
      ∃ rd, PSs (cxOf CX P w K mg base N qual (defScope st) f cdv B out t H Z) (defBody st) rd
        ∧ rd { nx := fun _ H' => R .non H', rt := R } (start N xs) H) :
    FnG P w K mg base CX (k + 1) f fd ps sp := by
  obtain ⟨oc, od, kV, doc, pm, an, cdv, ct, osl, rfl, lk, hcd⟩ := F.ex
  refine ⟨many, fun B out t H ar ws xs R Z hg hr e0 hb rv hs => ?_⟩
  have KX : K.In t.heap := e0.mod.kin.keeps fun b o e => (e0.bs b o e).1
  have lim : t.heap.NoLimit := e0.mod.nolimit.keeps fun b o e => (e0.bs b o e).1
  obtain ⟨rd, hp, hq⟩ := body cdv B out t H xs R Z hg (hr.deeper _) hs
  refine Att.call_fn KX lim lk hcd hr.depth hb (hkind_of S) (fun t1 x1 => ?_) S.co S.gen S.kind
  have I := inv_start (CX := CX) (P := P) (w := w) (K := K) (mg := mg) (base := base) (E := Z)
    S hr.hd e0 (many _ _ _ _ hs) rv x1
  refine wpAny_mono (hp.run [] t1 (start N xs) H _ I hq) (fun fl t2 h2 => ?_) fun e t2 h2 => h2
  have fin : ∀ {τ : L2.St} {H2 : Hp} {v : V} {u : Value},
      Inv (cxOf CX P w K mg base N qual (defScope st) f cdv B out t H Z) [] τ H2 t2 →
      RelV v u → R v H2 → CE out P w H t R u t2 :=
    fun {τ H2 v u} J r q => ⟨v, H2, J.os, J.bare, J.base, J.hok, r, q⟩
  cases fl with
  | ret u => obtain ⟨v, τ, H2, J, r, q⟩ := h2; exact fin J r q
  | next => obtain ⟨τ, H2, J, q⟩ := h2; exact fin (v := V.non) (u := Value.none) J rfl q
  | brk => obtain ⟨_, _, _, q⟩ := h2; exact q.elim
  | cont => obtain ⟨_, _, _, q⟩ := h2; exact q.elim

/-- .. one that lets nothing out -/
theorem okG0 {x qual : Str} {st : Stmt} {f : Addr} {fd : FuncData} {N ps : List Str}
    {k : Nat} {sp : Sp} (F : L2.Fun K x qual st f fd) (S : FnScope N ps (defScope st))
    (many : ∀ xs H R Z, sp xs H R Z → xs.length = ps.length)
    (body : ∀ (cdv : Value) (B : Around) (out : List Env) (t : Shared) (H : Hp)
      (xs : List V) (R : VK) (Z : XK), B.guards = some [] →
      Room k (B.deeper (envOfC qual (defScope st) t.heap.objs.size f cdv)) → sp xs H R Z →
      ∃ rd, PSs (cxOf CX0 P w K mg base N qual (defScope st) f cdv B out t H Z).nox
          (defBody st) rd
        ∧ rd { nx := fun _ H' => R .non H', rt := R } (start N xs) H) :
    FnG P w K mg base CX0 (k + 1) f fd ps sp :=
  okG F S many fun cdv B out t H xs R Z g r s =>
    let ⟨rd, h, q⟩ := body cdv B out t H xs R Z g r s
    ⟨rd, h.nox, q⟩
end

section
variable {X : Cx} {CX : CXT} {k : Nat} {f : Addr} {fd : FuncData} {ps : List Str} {sp : Sp}
  {dvs : List V} {ds : List Value} {E : XK} {x : Str} {p pos : Pos} {e : Expr}
  {es : List Expr} {t : TA}

theorem run_g {pins : List (Addr × Obj)} {σ : L2.St} {H : Hp} {s : Shared} {Q : VK}
    {us : List Value} {vs : List V}
    (F : FnG X.prog X.w X.K X.mg X.base CX k f fd ps sp) (hg : X.A.guards = some [])
    (hr : Room k X.A) (hb : Binds X.K fd ps ds) (hd : Vals dvs ds) (hx : Passes CX X E)
    (I : Inv X pins σ H s) (r : Vals vs us) (h : sp (vs ++ dvs) H Q E) :
    wpAny (model X.prog X.w) X.A (call (.ref f) us) (EP X pins σ Q) X.xe s := by
  have r2 : Vals (vs ++ dvs) (us ++ ds) := r.append hd
  have hl : (us ++ ds).length = ps.length := by rw [← r2.length]; exact F.many _ _ _ _ h
  have hb' := hb s us I.kIn hl
  have hc := F.go X.A X.stack s H ⟨us, []⟩ (us ++ ds) (vs ++ dvs) Q E hg hr I.env0 hb' r2 h
  refine wpAny_call (codeAny_mono hc fun res s' hq => ?_)
  match res, hq with
  | .error e, hq => exact hx pins σ H s e s' I hq
  | .ok (.ret u), hq => exact I.after hq
  | .ok .next, hq => exact False.elim hq
  | .ok .brk, hq => exact False.elim hq
  | .ok .cont, hq => exact False.elim hq

theorem pe_callG (F : FnG X.prog X.w X.K X.mg X.base CX k f fd ps sp)
    (hg' : X.A.guards = some []) (hr : Room k X.A) (hg : Gl X x)
    (hm : X.mg x = some (.ref f)) (hk : PySem.W.keepIn X.K (.ref f) = true)
    (hb : Binds X.K fd ps ds) (hd : Vals dvs ds) (hx : Passes CX X E) (ha : PA X (e :: es) t)
    (hdb : (x == ("__debug__" : Str)) = false := by decide)
    (he : starEach (e :: es) X.env = (false, eval e X.env) :: starEach es X.env := by rfl)
    (hpl : (backTo pos (starEach es X.env)).any (·.1) = false := by rfl) :
    PE X (.Call (.Name x p) (e :: es) [] pos) (tCall sp dvs E t) := by
  refine ⟨fun pins s σ H Q I h => wpAny_Call_Name_kw (ld_glob I hg hm ?_ hdb)⟩
  refine PySem.W.callWith_K (h₀ := X.base) I.ok.mod.kin hk ?_ he hpl
  exact thn (ha.run pos pins s σ H _ I h) fun us s1 ⟨vs, H1, I1, r, q⟩ =>
    ⟨I1.kIn, run_g F hg' hr hb hd hx I1 r q⟩
end

/-! ## the law's end -/
theorem law_callG {P : Program} {w : World} {K : PySem.W.Frag} {mg mb : Str → Option Value}
    {CX : CXT} {k : Nat} {fa a : Addr} {fd : FuncData} {x : Str} {sp : Sp} {s1 : Shared}
    {vs : List Value} {ns : List Int}
    (KX : K.In s1.heap) (hns : s1.heap.Ns mainGlobals mg) (hb : s1.heap.Ns builtinsNs mb)
    (hbb : ∀ x : Str, x ≠ "__name__" → mb x = bootBuiltins x) (hlim : s1.heap.NoLimit)
    (hg : s1.gens = #[])
    (ha : s1.heap.get? a = some { cls := .type "list", data := .seq vs.toArray })
    (hi : IntsAre vs ns) (hl : ns.length ≤ sizeLine) (hr : Room k callerA)
    (F : ∀ base : Heap, K.In base → base.Ns mainGlobals mg →
      FnG P w K mg base CX k fa fd [x] sp)
    (hbind : ∀ (s : Shared) (u : Value), BindsTo s fd ⟨[u], []⟩ [(x, u)])
    (hsp : ∀ H : Hp, Only H → SqL K H a (ns.map V.int) →
      sp [.ref a] H (fun v _ => v = .bl true) fun _ _ _ => False)
    (hCX : ∀ H e s', CX [] H s1 (fun _ _ _ => False) e s' → False) :
    codeAny (model P w) callerA (.call (.ref fa) ⟨[.ref a], []⟩)
      (fun r s' => r = .ok (.ret (.bool true)) ∧ OldK s1.heap s'.heap ∧ s'.os = s1.os
        ∧ AllBare s'.gens) s1 := by
  have rv := vals_ints hi
  have core : ∀ H : Hp, Only H → SqL K H a (ns.map V.int) → HOk P w H s1.heap →
      (∀ b, H b ≠ none → b = a) → (H a ≠ none → K.lookup a = none) →
      codeAny (model P w) callerA (.call (.ref fa) ⟨[.ref a], []⟩)
        (fun r s' => r = .ok (.ret (.bool true)) ∧ OldK s1.heap s'.heap ∧ s'.os = s1.os
          ∧ AllBare s'.gens) s1 := by
    intro H hO hS hok hA hK
    have only : ∀ {b : Addr} {u : HO}, H b = some u → b = a := fun {b u} q =>
      hA b (by rw [q]; exact fun z => nomatch z)
    have noD : ∀ {b : Addr} {o : Obj} {es : Array DictEntry} {ep : Nat},
        s1.heap.get? b = some o → o.data = .dict es ep → H b = none := by
      intro b o es ep e d
      cases q : H b with
      | none => rfl
      | some u =>
        obtain rfl := only q
        rw [ha] at e
        cases e
        have d2 : Data.seq vs.toArray _ = Data.dict es ep := d
        cases d2
    have nsK : ∀ {b : Addr} {m : Str → Option Value}, s1.heap.Ns b m → (hidT s1.heap H).Ns b m := by
      rintro b m ⟨o, es, ep, e, d, r⟩
      exact ⟨o, es, ep, hidT_get e (noD e d), d, r⟩
    have hKb : K.In (hidT s1.heap H) := by
      intro b o e
      refine hidT_get (KX b o e) ?_
      cases q : H b with
      | none => rfl
      | some u =>
        obtain rfl := only q
        have := hK (by rw [q]; exact fun z => nomatch z)
        rw [this] at e
        cases e
    obtain ⟨mc, hc1, hc2⟩ := hlim
    have hM : Mod K mg (hidT s1.heap H) := ⟨hKb, nsK hns, ⟨mb, nsK hb, hbb⟩, ⟨mc, nsK hc1, hc2⟩⟩
    have noF : ∀ b, b ∈ frs ([] : List Env) → H b = none := fun b z => nomatch z
    have e0 : Env0 P w K mg (hidT s1.heap H) callerA [] s1 H :=
      { frames := rfl, mod := hM, bs := fun b o e => of_hidT e, bsz := Nat.le_of_eq (hidT_size _ _)
        funs := trivial, frf := noF, hok := hok, bare := .of_eq hg }
    have hc := (F _ hKb (nsK hns)).go callerA [] s1 H ⟨[.ref a], []⟩ [.ref a] [.ref a] _ _ rfl hr e0
      (hbind s1 (.ref a)) (.cons rfl .nil) (hsp H hO hS)
    refine codeAny_mono hc fun r s' h => ?_
    match r, h with
    | .error e, h => exact (hCX H e s' h).elim
    | .ok .next, h => exact False.elim h
    | .ok .brk, h => exact False.elim h
    | .ok .cont, h => exact False.elim h
    | .ok (.ret u), h =>
      obtain ⟨v, H', os, bare, un, hok', r', q⟩ := h
      have q2 : v = .bl true := q
      subst q2
      obtain rfl : u = Value.bool true := r'
      refine ⟨rfl, OldK.of_keep fun b o e => ?_, os, bare⟩
      cases q3 : H b with
      | none => exact un.keep b o e q3 (fun z => nomatch z) (fun z => nomatch z)
      | some u =>
        rcases hO b with z | ⟨ob, xs, z⟩
        · rw [q3] at z; cases z
        · obtain ⟨e1, _⟩ := hok b _ z
          obtain ⟨e2, _⟩ := hok' b _ (un.frzs b ob _ z)
          rw [e] at e1
          cases e1
          exact e2
  cases hk : K.lookup a with
  | some o =>
    have e := KX a o hk
    rw [ha] at e
    cases e
    have hz : vs.toArray.size ≤ sizeLine := by rw [List.size_toArray, hi.length]; exact hl
    refine core (fun _ => none) (fun _ => .inl rfl)
      (.inr ⟨_, vs.toArray, _, hk, rfl, rfl, rfl, hz, by simpa using rv⟩)
      (fun b u z => nomatch (show (none : Option HO) = some u from z)) (fun b z => absurd rfl z)
      fun z => absurd rfl z
  | none =>
    let ob : Obj := { cls := .type "list", data := .seq vs.toArray }
    let H1 : Hp := fun b => if b = a then some (.frz ob (.lst (ns.map V.int))) else none
    have at1 : H1 a = some (.frz ob (.lst (ns.map V.int))) := if_pos rfl
    have off : ∀ b, b ≠ a → H1 b = none := fun b h => if_neg h
    refine core H1 (fun b => ?_) (.inl (.inr ⟨ob, at1⟩)) (fun b u z => ?_) (fun b z => ?_) fun _ => hk
    · by_cases hb : b = a
      · subst hb; exact .inr ⟨_, _, at1⟩
      · exact .inl (off b hb)
    · by_cases hb : b = a
      · subst hb
        rw [at1] at z
        cases z
        exact ⟨ha, by rw [List.length_map]; exact hl, vs, _, rv, ha⟩
      · rw [off b hb] at z; cases z
    · by_cases hb : b = a
      · exact hb
      · exact absurd (off b hb) z

/-- the goal that the head leaves -/
theorem walk_ofG {l : PySem.W.OpenLaw} {n k : Nat} {q : Program} {loose : List Str}
    {XP : (Str → Option Value) → Heap → Prop} {YP : World → Heap → Prop} {d : DefRec}
    {K : Params → PySem.W.Frag} {sp : PySem.W.Frag → Sp} {x : Str}
    (hn : l.most = some n) (hn2 : n ≤ sizeLine) (hdf : d.params.defaults = [])
    (hr : Room k callerA) (hY : ∀ (w : World) (h : Heap), YP w h → (K w.params).In h)
    (F : ∀ (w : World) (mg : Str → Option Value) (fa : Addr) (h : Heap), (K w.params).In h →
      h.Ns mainGlobals mg → mg d.name = some (.ref fa) →
      ∃ fd : FuncData, (∀ (s : Shared) (u : Value), BindsTo s fd ⟨[u], []⟩ [(x, u)]) ∧
        ∀ base : Heap, (K w.params).In base → base.Ns mainGlobals mg →
          FnG l.prog w (K w.params) mg base CX0 k fa fd [x] (sp (K w.params)))
    (hsp : ∀ (K : PySem.W.Frag) (H : Hp) (a : Addr) (ns : List Int), ns.length ≤ n → Only H →
      SqL K H a (ns.map V.int) → sp K [.ref a] H (fun v _ => v = .bl true) fun _ _ _ => False) :
    PySem.W.WalkO q loose XP YP l.row.toRowW d [] (fun f vs => PySem.call f vs) := by
  refine Att.attach_call hn hdf ?_
  intro w s0 s1 mg mb fa o pm cd doc a vs ns G Y ho hd hcd hmg hobj hints hlen hg
  have KX := hY w _ Y
  obtain ⟨fd, hb, hF⟩ := F w mg fa _ KX G.T.g hmg
  exact law_callG KX G.T.g G.T.b G.T.builtins G.T.nolimit hg hobj hints (Nat.le_trans hlen hn2) hr
    hF hb (fun H hO hS => hsp _ H a ns hlen hO hS) fun H e s' z => z
end Wr

namespace Wr
open PySem PySem.Spec PyProof.Rows L2

/-! ## data in the tracked heap -/
/-- a key as data -/
def keyD : Key → PyData
  | .inl i => .int i
  | .inr x => .str x

mutual
/-- v is the data d; none of its containers is an address of B -/
inductive DV (z : Prop) (B : Addr → Prop) (H : Hp) : V → PyData → Prop
  | non : DV z B H .non .none
  | bl (b : Bool) : DV z B H (.bl b) (.bool b)
  | int (i : Int) : DV z B H (.int i) (.int i)
  | str (x : Str) : DV z B H (.str x) (.str x)
  | lst {a : Addr} {xs : List V} {ds : List PyData} : ¬ B a → (z → a ≠ sysModules) →
      H a = some (.lst xs) →
      DVs z B H xs ds → DV z B H (.ref a) (.list ds)
  | tup {a : Addr} {xs : List V} {ds : List PyData} : ¬ B a → H a = some (.tup xs) →
      DVs z B H xs ds → DV z B H (.ref a) (.tuple ds)
  | dic {a : Addr} {kvs : List (Key × V)} {es : List (PyData × PyData)} : ¬ B a →
      H a = some (.dK kvs) → es.map (·.1) = kvs.map (fun p => keyD p.1) →
      DVs z B H (kvs.map (·.2)) (es.map (·.2)) → DV z B H (.ref a) (.dict es)
inductive DVs (z : Prop) (B : Addr → Prop) (H : Hp) : List V → List PyData → Prop
  | nil : DVs z B H [] []
  | cons {v : V} {vs : List V} {d : PyData} {ds : List PyData} :
      DV z B H v d → DVs z B H vs ds → DVs z B H (v :: vs) (d :: ds)
end

/-- all that is tracked stays, but for B -/
def Keep (B : Addr → Prop) (H H' : Hp) : Prop := ∀ a o, ¬ B a → H a = some o → H' a = some o
theorem Keep.refl {B : Addr → Prop} (H : Hp) : Keep B H H := fun _ _ _ h => h
theorem Keep.trans {B : Addr → Prop} {H H1 H2 : Hp} (x : Keep B H H1) (y : Keep B H1 H2) :
    Keep B H H2 := fun a o n h => y a o n (x a o n h)
theorem Keep.wide {B C : Addr → Prop} {H H' : Hp} (x : Keep B H H') (h : ∀ a, B a → C a) :
    Keep C H H' := fun a o n e => x a o (fun z => n (h a z)) e
theorem Keep.same {B : Addr → Prop} {H H' : Hp} (x : Same H H') : Keep B H H' :=
  fun a o _ e => x a o e
theorem Keep.new {B : Addr → Prop} {H : Hp} {p : Addr} {o : HO} (h : H p = none) :
    Keep B H (upd H p o) := fun a u _ e => by rw [upd_ne (ne_of_none e h)]; exact e
theorem Keep.at {B : Addr → Prop} {H : Hp} {p : Addr} {o : HO} (h : B p) :
    Keep B H (upd H p o) := fun a u n e => by
  have z : a ≠ p := fun z => n (by rw [z]; exact h)
  rw [upd_ne z]; exact e
theorem _root_.L2.Same.new {H : Hp} {p : Addr} {o : HO} (h : H p = none) : Same H (upd H p o) :=
  fun a u e => by rw [upd_ne (ne_of_none e h)]; exact e
theorem Keep.toSame {B : Addr → Prop} {H H' : Hp} (x : Keep B H H') (h : ∀ a, ¬ B a) : Same H H' :=
  fun a o e => x a o (h a) e

mutual
theorem DV.keep {z : Prop} {B : Addr → Prop} {H H' : Hp} (k : Keep B H H') :
    ∀ {v : V} {d : PyData}, DV z B H v d → DV z B H' v d
  | _, _, .non => .non
  | _, _, .bl b => .bl b
  | _, _, .int i => .int i
  | _, _, .str x => .str x
  | _, _, .lst n m e h => .lst n m (k _ _ n e) (DVs.keep k h)
  | _, _, .tup n e h => .tup n (k _ _ n e) (DVs.keep k h)
  | _, _, .dic n e q h => .dic n (k _ _ n e) q (DVs.keep k h)
theorem DVs.keep {z : Prop} {B : Addr → Prop} {H H' : Hp} (k : Keep B H H') :
    ∀ {vs : List V} {ds : List PyData}, DVs z B H vs ds → DVs z B H' vs ds
  | _, _, .nil => .nil
  | _, _, .cons h t => .cons (DV.keep k h) (DVs.keep k t)
end
mutual
theorem DV.less {z z' : Prop} {B C : Addr → Prop} {H : Hp}
    (hz : z' → z) (k : ∀ a o, H a = some o → ¬ B a → ¬ C a) :
    ∀ {v : V} {d : PyData}, DV z B H v d → DV z' C H v d
  | _, _, .non => .non
  | _, _, .bl b => .bl b
  | _, _, .int i => .int i
  | _, _, .str x => .str x
  | _, _, .lst n m e h => .lst (k _ _ e n) (fun y => m (hz y)) e (DVs.less hz k h)
  | _, _, .tup n e h => .tup (k _ _ e n) e (DVs.less hz k h)
  | _, _, .dic n e q h => .dic (k _ _ e n) e q (DVs.less hz k h)
theorem DVs.less {z z' : Prop} {B C : Addr → Prop} {H : Hp}
    (hz : z' → z) (k : ∀ a o, H a = some o → ¬ B a → ¬ C a) :
    ∀ {vs : List V} {ds : List PyData}, DVs z B H vs ds → DVs z' C H vs ds
  | _, _, .nil => .nil
  | _, _, .cons h t => .cons (DV.less hz k h) (DVs.less hz k t)
end
theorem DVs.length {z : Prop} {B : Addr → Prop} {H : Hp} :
    ∀ {vs : List V} {ds : List PyData}, DVs z B H vs ds → vs.length = ds.length
  | _, _, .nil => rfl
  | _, _, .cons _ t => by rw [List.length_cons, List.length_cons, DVs.length t]
theorem DVs.app {z : Prop} {B : Addr → Prop} {H : Hp} :
    ∀ {vs : List V} {ds : List PyData} {ws : List V} {es : List PyData}, DVs z B H vs ds →
      DVs z B H ws es → DVs z B H (vs ++ ws) (ds ++ es)
  | _, _, _, _, .nil, y => y
  | _, _, _, _, .cons h t, y => .cons h (DVs.app t y)
theorem DVs.take {z : Prop} {B : Addr → Prop} {H : Hp} :
    ∀ {vs : List V} {ds : List PyData} (n : Nat), DVs z B H vs ds →
      DVs z B H (vs.take n) (ds.take n)
  | _, _, 0, _ => .nil
  | _, _, _ + 1, .nil => .nil
  | _, _, n + 1, .cons h t => .cons h (DVs.take n t)
theorem DVs.drop {z : Prop} {B : Addr → Prop} {H : Hp} :
    ∀ {vs : List V} {ds : List PyData} (n : Nat), DVs z B H vs ds →
      DVs z B H (vs.drop n) (ds.drop n)
  | _, _, 0, h => h
  | _, _, _ + 1, .nil => .nil
  | _, _, n + 1, .cons _ t => DVs.drop n t
theorem DVs.rev {z : Prop} {B : Addr → Prop} {H : Hp} :
    ∀ {vs : List V} {ds : List PyData}, DVs z B H vs ds → DVs z B H vs.reverse ds.reverse
  | _, _, .nil => .nil
  | _, _, .cons h t => by
    rw [List.reverse_cons, List.reverse_cons]
    exact (DVs.rev t).app (.cons h .nil)
theorem DVs.at {z : Prop} {B : Addr → Prop} {H : Hp} : ∀ {vs : List V} {ds : List PyData} {i : Nat} {v : V},
    DVs z B H vs ds → vs[i]? = some v → ∃ d, ds[i]? = some d ∧ DV z B H v d
  | _, _, 0, _, .cons h _, e => by
    rw [List.getElem?_cons_zero] at e
    cases e
    exact ⟨_, rfl, h⟩
  | _, _, i + 1, _, .cons _ t, e => by
    rw [List.getElem?_cons_succ] at e
    obtain ⟨d, h1, h2⟩ := DVs.at t e
    exact ⟨d, h1, h2⟩
theorem DVs.at' {z : Prop} {B : Addr → Prop} {H : Hp} : ∀ {vs : List V} {ds : List PyData} {i : Nat}
    {d : PyData}, DVs z B H vs ds → ds[i]? = some d → ∃ v, vs[i]? = some v ∧ DV z B H v d
  | _, _, 0, _, .cons h _, e => by
    rw [List.getElem?_cons_zero] at e
    cases e
    exact ⟨_, rfl, h⟩
  | _, _, i + 1, _, .cons _ t, e => by
    rw [List.getElem?_cons_succ] at e
    obtain ⟨v, h1, h2⟩ := DVs.at' t e
    exact ⟨v, h1, h2⟩
theorem DVs.set {z : Prop} {B : Addr → Prop} {H : Hp} {v : V} {d : PyData} (x : DV z B H v d) :
    ∀ {vs : List V} {ds : List PyData} (i : Nat), DVs z B H vs ds →
      DVs z B H (vs.set i v) (ds.set i d)
  | _, _, _, .nil => .nil
  | _, _, 0, .cons _ t => .cons x t
  | _, _, i + 1, .cons h t => .cons h (DVs.set x i t)
theorem DVs.ints {z : Prop} {B : Addr → Prop} {H : Hp} : ∀ ns : List Int,
    DVs z B H (ns.map V.int) (ns.map PyData.int)
  | [] => .nil
  | n :: ns => .cons (.int n) (DVs.ints ns)
/-! one value is one datum -/
mutual
theorem DV.one {z z' : Prop} {B C : Addr → Prop} {H : Hp} : ∀ {v : V} {d e : PyData}, DV z B H v d → DV z' C H v e → d = e
  | _, _, _, .non, .non => rfl
  | _, _, _, .bl _, .bl _ => rfl
  | _, _, _, .int _, .int _ => rfl
  | _, _, _, .str _, .str _ => rfl
  | _, _, _, .lst _ _ e h, .lst _ _ e' h' => by
    rw [e] at e'; cases e'; rw [DVs.one h h']
  | _, _, _, .lst _ _ e _, .tup _ e' _ => by rw [e] at e'; cases e'
  | _, _, _, .lst _ _ e _, .dic _ e' _ _ => by rw [e] at e'; cases e'
  | _, _, _, .tup _ e h, .tup _ e' h' => by
    rw [e] at e'; cases e'; rw [DVs.one h h']
  | _, _, _, .tup _ e _, .lst _ _ e' _ => by rw [e] at e'; cases e'
  | _, _, _, .tup _ e _, .dic _ e' _ _ => by rw [e] at e'; cases e'
  | _, _, _, .dic _ e q h, .dic _ e' q' h' => by
    rw [e] at e'; cases e'
    have h1 := q.trans q'.symm
    have h2 := DVs.one h h'
    congr 1
    exact pairs_eq h1 h2
  | _, _, _, .dic _ e _ _, .lst _ _ e' _ => by rw [e] at e'; cases e'
  | _, _, _, .dic _ e _ _, .tup _ e' _ => by rw [e] at e'; cases e'
theorem DVs.one {z z' : Prop} {B C : Addr → Prop} {H : Hp} : ∀ {vs : List V} {ds es : List PyData},
    DVs z B H vs ds → DVs z' C H vs es → ds = es
  | _, _, _, .nil, .nil => rfl
  | _, _, _, .cons h t, .cons h' t' => by rw [DV.one h h', DVs.one t t']
theorem pairs_eq : ∀ {xs ys : List (PyData × PyData)}, xs.map (·.1) = ys.map (·.1) →
    xs.map (·.2) = ys.map (·.2) → xs = ys
  | [], [], _, _ => rfl
  | [], _ :: _, h, _ => by cases h
  | _ :: _, [], h, _ => by cases h
  | (a, b) :: xs, (c, d) :: ys, h, h' => by
    rw [List.map_cons, List.map_cons] at h h'
    obtain ⟨h1, h2⟩ := List.cons.inj h
    obtain ⟨h3, h4⟩ := List.cons.inj h'
    rw [pairs_eq h2 h4]
    have e1 : a = c := h1
    have e2 : b = d := h3
    rw [e1, e2]
end

/-! ## sizes -/
mutual
def okS : PyData → Bool
  | .str x => x.cps.toList.all fun c => decide (c < 16 ^ 8)
  | .list xs => okSs xs
  | .tuple xs => okSs xs
  | .dict kvs => okSk kvs
  | .none => true
  | .bool _ => true
  | .int _ => true
def okSs : List PyData → Bool
  | [] => true
  | x :: xs => okS x && okSs xs
def okSk : List (PyData × PyData) → Bool
  | [] => true
  | (k, v) :: r => okS k && okS v && okSk r
end
theorem int_w {i : Int} {n : Nat} (h : (PyData.int i).weight ≤ n) : i.natAbs.log2 ≤ n := by
  simp only [PyData.weight] at h
  split at h
  · rename_i z
    have : i = 0 := eq_of_beq z
    subst this
    exact Nat.zero_le _
  · omega
theorem int_w_lt {i : Int} {k : Nat} (h : i.natAbs < 2 ^ k) : (PyData.int i).weight ≤ k := by
  simp only [PyData.weight]
  split
  · exact Nat.zero_le _
  · rename_i z
    have n0 : i ≠ 0 := fun e => z (by rw [e]; rfl)
    have : i.natAbs.log2 < k := (Nat.log2_lt (by omega)).mpr h
    omega
theorem int_lt_w {i : Int} {k : Nat} (h : (PyData.int i).weight ≤ k) : i.natAbs < 2 ^ k := by
  by_cases n0 : i = 0
  · subst n0; exact Nat.two_pow_pos k
  · simp only [PyData.weight] at h
    rw [if_neg (by simpa using n0)] at h
    have : i.natAbs.log2 < k := by omega
    exact (Nat.log2_lt (by omega)).mp this
theorem int_shown_le {i : Int} {n : Nat} (h : (PyData.int i).weight ≤ n) :
    (PyData.int i).shown.length ≤ n + 2 := by
  have h1 := int_w h
  have h2 := int_text_length_le (a := i) (k := n + 1) (by omega) (by omega)
  show (Str.ofString (toString i)).length ≤ n + 2
  rw [PySem.ofString_length]
  exact h2
mutual
theorem showable_of (n : Nat) (hn : n < 1920) : ∀ d : PyData, d.weight ≤ n → d.showable = true
  | .none, _ => rfl
  | .bool _, _ => rfl
  | .str _, _ => rfl
  | .int i, h => by
    have := int_w h
    simp only [PyData.showable]
    exact decide_eq_true (by omega)
  | .list xs, h => by
    simp only [PyData.weight] at h
    simp only [PyData.showable]
    exact showable_ofs n hn xs h
  | .tuple xs, h => by
    simp only [PyData.weight] at h
    simp only [PyData.showable]
    exact showable_ofs n hn xs h
  | .dict kvs, h => by
    simp only [PyData.weight] at h
    simp only [PyData.showable]
    exact showable_ofk n hn kvs h
theorem showable_ofs (n : Nat) (hn : n < 1920) : ∀ xs : List PyData, PyData.weightAll xs ≤ n →
    PyData.showableAll xs = true
  | [], _ => rfl
  | x :: xs, h => by
    simp only [PyData.weightAll] at h
    simp only [PyData.showableAll]
    rw [showable_of n hn x (by omega), showable_ofs n hn xs (by omega)]
    rfl
theorem showable_ofk (n : Nat) (hn : n < 1920) : ∀ xs : List (PyData × PyData),
    PyData.weightKv xs ≤ n → PyData.showableKv xs = true
  | [], _ => rfl
  | (k, v) :: xs, h => by
    simp only [PyData.weightKv] at h
    simp only [PyData.showableKv]
    rw [showable_of n hn k (by omega), showable_of n hn v (by omega),
      showable_ofk n hn xs (by omega)]
    rfl
end
mutual
theorem leaves_of (n : Nat) : ∀ d : PyData, d.weight ≤ n → okS d = true →
    d.leavesShort (n + 2) = true
  | .none, _, _ => rfl
  | .bool _, _, _ => rfl
  | .str x, _, o => by
    simp only [okS] at o
    simp only [PyData.leavesShort]
    exact o
  | .int i, h, _ => by
    simp only [PyData.leavesShort]
    exact decide_eq_true (int_shown_le h)
  | .list xs, h, o => by
    simp only [PyData.weight] at h
    simp only [okS] at o
    simp only [PyData.leavesShort]
    exact leaves_ofs n xs h o
  | .tuple xs, h, o => by
    simp only [PyData.weight] at h
    simp only [okS] at o
    simp only [PyData.leavesShort]
    exact leaves_ofs n xs h o
  | .dict kvs, h, o => by
    simp only [PyData.weight] at h
    simp only [okS] at o
    simp only [PyData.leavesShort]
    exact leaves_ofk n kvs h o
theorem leaves_ofs (n : Nat) : ∀ xs : List PyData, PyData.weightAll xs ≤ n → okSs xs = true →
    PyData.leavesShortAll (n + 2) xs = true
  | [], _, _ => rfl
  | x :: xs, h, o => by
    simp only [PyData.weightAll] at h
    simp only [okSs, Bool.and_eq_true] at o
    simp only [PyData.leavesShortAll]
    rw [leaves_of n x (by omega) o.1, leaves_ofs n xs (by omega) o.2]
    rfl
theorem leaves_ofk (n : Nat) : ∀ xs : List (PyData × PyData), PyData.weightKv xs ≤ n →
    okSk xs = true → PyData.leavesShortKv (n + 2) xs = true
  | [], _, _ => rfl
  | (k, v) :: xs, h, o => by
    simp only [PyData.weightKv] at h
    simp only [okSk, Bool.and_eq_true] at o
    simp only [PyData.leavesShortKv]
    rw [leaves_of n k (by omega) o.1.1, leaves_of n v (by omega) o.1.2,
      leaves_ofk n xs (by omega) o.2]
    rfl
end
/-- small data: its text is short and can be made -/
structure Gd (W D : Nat) (e : PyData) : Prop where
  w : e.weight ≤ W
  d : e.depth ≤ D
  s : okS e = true
theorem Gd.showable {W D : Nat} {d : PyData} (g : Gd W D d) (h : W ≤ 1900) : d.showable = true :=
  showable_of W (by omega) d g.w
theorem Gd.fits {W D : Nat} {d : PyData} (g : Gd W D d) (h : W ≤ 1900) :
    d.shown.length ≤ sizeLine := by
  have h1 : d.weight ≤ 1900 := Nat.le_trans g.w h
  have h2 := PyData.shown_le (1900 + 2) (by decide) d (leaves_of 1900 d h1 g.s)
  rw [sizeLine_eq]
  omega
theorem Gd.mono {W D W' D' : Nat} {d : PyData} (g : Gd W D d) (h : W ≤ W') (h' : D ≤ D') :
    Gd W' D' d := ⟨Nat.le_trans g.w h, Nat.le_trans g.d h', g.s⟩

/-! ## repr -/
section
variable {X : Cx} {pins : List (Addr × Obj)} {σ : L2.St} {H : Hp} {s : Shared}
theorem key_reads {h : Heap} {k : Key} {v : Value} (e : keyIs k v = true) :
    Reads h v (keyD k) [] := by
  rcases keyIs_shape e with ⟨i, t, rfl, rfl⟩ | ⟨x, t, rfl, rfl⟩
  · exact .int i t
  · exact .str x t
theorem pairs_read {h : Heap} {P : Program} {w : World} : ∀ {kvs : List (Key × V)}
    {vs : List (Key × Value)} {ents : List DictEntry}, KV kvs vs →
    Pairs (mixKind P w) ents vs →
    ReadsAll h (ents.map (·.key)) (kvs.map fun p => keyD p.1) []
      ∧ Vals (kvs.map (·.2)) (ents.map (·.val))
  | _, _, _, .nil, .nil => ⟨.nil, .nil⟩
  | (k, x) :: kvs, (k2, u) :: vs, e :: ents, .cons r rs, .cons p1 p2 ps => by
    obtain ⟨h1, h2⟩ := pairs_read rs ps
    have ek : k = k2 := r.1
    subst ek
    have rv : RelV x u := r.2
    have ev : e.val = u := p2
    have kr : Reads h e.key (keyD k) [] := key_reads p1
    refine ⟨ReadsAll.cons (as := []) (bs := []) kr h1, .cons ?_ h2⟩
    show L2.RelV x e.val
    rw [ev]
    exact rv

mutual
theorem DV.reads {z : Prop} {B : Addr → Prop} (I : Inv X pins σ H s) : ∀ (d : PyData) (v : V)
    (u : Value), DV z B H v d → RelV v u →
    ∃ as, Reads s.heap u d as ∧ (z → ∀ a ∈ as, a ≠ sysModules)
  | .none, _, _, .non, r => by
    cases r
    exact ⟨[], .none, fun _ _ m => nomatch m⟩
  | .bool b, _, _, .bl _, r => by
    cases r
    exact ⟨[], .bool b, fun _ _ m => nomatch m⟩
  | .int i, _, _, .int _, r => by
    obtain ⟨t, rfl⟩ := r
    exact ⟨[], .int i t, fun _ _ m => nomatch m⟩
  | .str x, _, _, .str _, r => by
    obtain ⟨t, rfl⟩ := r
    exact ⟨[], .str x t, fun _ _ m => nomatch m⟩
  | .list ds, _, _, .lst (a := a) (xs := xs) n y e h, r => by
    cases r
    obtain ⟨_, its, m, rv, ho⟩ := (show ObjOk X.prog X.w H s.heap a (.lst xs) from I.hok a _ e)
    obtain ⟨as, q, hq⟩ := DVs.reads I ds _ its h rv
    refine ⟨a :: as, .list ho rfl rfl (by simpa using q), fun hz b hb => ?_⟩
    rcases List.mem_cons.mp hb with rfl | hb
    · exact y hz
    · exact hq hz b hb
  | .tuple ds, _, _, .tup (a := a) (xs := xs) n e h, r => by
    cases r
    obtain ⟨_, its, rv, o, ho, hc, m, hd⟩ :=
      (show ObjOk X.prog X.w H s.heap a (.tup xs) from I.hok a _ e)
    obtain ⟨as, q, hq⟩ := DVs.reads I ds _ its h rv
    exact ⟨as, .tuple ho hc hd (by simpa using q), hq⟩
  | .dict es, _, _, .dic (a := a) (kvs := kvs) n e q h, r => by
    cases r
    obtain ⟨_, ns, vs, rel, o, ents, ep, ho, hx, hd, hK, hP, _⟩ :=
      (show ObjOk X.prog X.w H s.heap a (.dK kvs) from I.hok a _ e)
    obtain ⟨k1, k2⟩ := pairs_read (h := s.heap) rel hP
    obtain ⟨bs, q1, hq⟩ := DVs.reads I (es.map (·.2)) _ _ h k2
    rw [← q] at k1
    refine ⟨a :: [] ++ bs, .dict ho hx.1 hd k1 q1, fun hz b hb => ?_⟩
    rcases List.mem_cons.mp hb with rfl | hb
    · exact beq_eq_false_iff_ne.mp ns
    · exact hq hz b hb
theorem DVs.reads {z : Prop} {B : Addr → Prop} (I : Inv X pins σ H s) : ∀ (ds : List PyData)
    (vs : List V) (us : List Value), DVs z B H vs ds → Vals vs us →
    ∃ as, ReadsAll s.heap us ds as ∧ (z → ∀ a ∈ as, a ≠ sysModules)
  | [], _, _, .nil, r => by
    cases r
    exact ⟨[], .nil, fun _ _ m => nomatch m⟩
  | d :: ds, _, _, .cons h t, .cons r rs => by
    obtain ⟨as, q, hq⟩ := DV.reads I d _ _ h r
    obtain ⟨bs, q1, hq1⟩ := DVs.reads I ds _ _ t rs
    exact ⟨as ++ bs, .cons q q1, fun hz a ha => (List.mem_append.mp ha).elim (hq hz a) (hq1 hz a)⟩
end

/-- repr(x) of small data -/
def rRepr (n : Nat) : List V → Hp → VK → Prop := fun xs H Q => ∃ (x : V) (d : PyData) (z : Prop)
  (B : Addr → Prop), xs = [x] ∧ DV z B H x d ∧ (d.hasDict = true → z) ∧ Gd 1900 n d ∧
  Q (.str d.shown) H
theorem call_repr {n : Nat} (hg : X.A.guards = some []) (hu : X.A.units + (n + 1) < cLine) :
    CallR X (.builtin "repr") (rRepr n) := by
  intro pins s σ H xs us Q I r h
  obtain ⟨x, d, z, B, rfl, hd, hB, g, q⟩ := h
  obtain ⟨u, rfl, ru⟩ := vals1 r
  obtain ⟨as, rd, hq⟩ := DV.reads I d x u hd ru
  have hs := g.showable (Nat.le_refl _)
  have hz := g.fits (Nat.le_refl _)
  have hsm : d.hasDict = true → sysModules ∉ as := fun y m => hq (hB y) _ m rfl
  have hn := g.d
  cases rd with
  | none => exact PySem.P.repr_of_none ⟨.str _, H, I.tok _, ⟨_, rfl⟩, q⟩
  | bool b => exact PySem.P.repr_of_bool ⟨.str _, H, I.tok _, ⟨_, rfl⟩, q⟩
  | int i t =>
    refine PySem.P.repr_of_int ?_ ⟨.str _, H, I.tok _, ⟨_, rfl⟩, q⟩
    simpa [PyData.showable] using hs
  | str y t =>
    exact PySem.P.repr_of_str ⟨.str _, H, I.tok _, ⟨_, rfl⟩, q⟩ (by simpa only [PyData.shown] using hz)
  | list a1 a2 a3 a4 =>
    refine repr_of_reads' (.list a1 a2 a3 a4) hs hsm hg (by omega) (fun _ _ e => e)
      (fun h' y tk hk => ?_) hz
    exact ⟨.str _, H, I.kept hk, ⟨_, rfl⟩, q⟩
  | tuple a1 a2 a3 a4 =>
    refine repr_of_reads' (.tuple a1 a2 a3 a4) hs hsm hg (by omega) (fun _ _ e => e)
      (fun h' y tk hk => ?_) hz
    exact ⟨.str _, H, I.kept hk, ⟨_, rfl⟩, q⟩
  | dict a1 a2 a3 a4 a5 =>
    refine repr_of_reads' (.dict a1 a2 a3 a4 a5) hs hsm hg (by omega) (fun _ _ e => e)
      (fun h' y tk hk => ?_) hz
    exact ⟨.str _, H, I.kept hk, ⟨_, rfl⟩, q⟩
/-- repr of a bool, wherever it stands -/
theorem call_reprB : CallR X (.builtin "repr") (fun xs H Q => ∃ b, xs = [.bl b] ∧
    Q (.str (PyData.bool b).shown) H) := by
  intro pins s σ H xs us Q I r h
  obtain ⟨b, rfl, q⟩ := h
  obtain ⟨u, rfl, ru⟩ := vals1 r
  cases ru
  exact PySem.P.repr_of_bool ⟨.str _, H, I.tok _, ⟨_, rfl⟩, q⟩
end
end Wr

namespace Wr
open PySem PySem.Spec PyProof.Rows L2

section
variable {X : Cx} {e : Expr} {es : List Expr} {te : TE} {t : TA} {pos : Pos}
theorem _root_.L2.PE.weak {t t' : TE} (h : PE X e t) (w : ∀ σ H Q, t' σ H Q → t σ H Q) : PE X e t' :=
  ⟨fun pins s σ H Q I q => h.run pins s σ H Q I (w _ _ _ q)⟩
theorem _root_.L2.PA.weak {t t' : TA} (h : PA X es t) (w : ∀ σ H Q, t' σ H Q → t σ H Q) : PA X es t' :=
  ⟨fun p pins s σ H Q I q => h.run p pins s σ H Q I (w _ _ _ q)⟩

/-! ## displays: the new object lies apart from the table of modules -/
def tTupS (t : TA) : TE := fun σ H Q => t σ H fun xs H1 => xs.length ≤ sizeLine ∧
  ∀ p, H1 p = none → p ≠ sysModules → Q (.ref p) (upd H1 p (.tup xs))
def tLstS (t : TA) : TE := fun σ H Q => t σ H fun xs H1 => xs.length ≤ sizeLine ∧
  ∀ p, H1 p = none → p ≠ sysModules → Q (.ref p) (upd H1 p (.lst xs))
theorem pe_tupS {k} (h : PA X es t) : PE X (.Tuple es k pos) (tTupS t) := by
  refine ⟨fun pins s σ H Q I hq => ?_⟩
  refine wpAny_Tuple_spliced (thn (h.run pos pins s σ H _ I hq) ?_)
  rintro us s1 ⟨xs, H1, I1, r, z, q⟩
  refine ⟨by rw [← r.length]; exact z, ?_⟩
  have hf : H1 s1.heap.objs.size = none := I1.hok.fresh (Nat.le_refl _)
  refine ⟨.ref s1.heap.objs.size, _, I1.laid (t' := s1.toks) (o := .tup xs)
    (fun b u e => Heap.get?_push_of_some _ e) (Nat.le_refl _) ?_, rfl, q _ hf (Nat.ne_of_gt I1.big)⟩
  exact ⟨z, us, r, ⟨_, Heap.get?_push_size _ rfl, rfl, _, rfl⟩⟩
theorem pe_lstS (h : PA X es t) : PE X (.List es pos) (tLstS t) := by
  refine ⟨fun pins s σ H Q I hq => ?_⟩
  refine wpAny_List_spliced (thn (h.run pos pins s σ H _ I hq) ?_)
  rintro us s1 ⟨xs, H1, I1, r, z, q⟩
  refine ⟨by rw [← r.length]; exact z, ?_⟩
  have hf : H1 s1.heap.objs.size = none := I1.hok.fresh (Nat.le_refl _)
  refine ⟨.ref s1.heap.objs.size, _, I1.laid (t' := s1.toks) (o := .lst xs)
    (fun b u e => Heap.get?_push_of_some _ e) (Nat.le_refl _) ?_, rfl, q _ hf (Nat.ne_of_gt I1.big)⟩
  exact ⟨z, us, 0, r, Heap.get?_push_size _ rfl⟩

/-! ## written data -/
def litBy (f : Expr → Option PyData) : List Expr → Option (List PyData)
  | [] => some []
  | e :: es => match f e with
    | some d => match litBy f es with
      | some ds => some (d :: ds)
      | none => none
    | none => none
def lit : Nat → Expr → Option PyData
  | 0, _ => none
  | n + 1, e => match e with
    | .Constant (.int i) _ _ => some (.int i)
    | .Constant (.bool b) _ _ => some (.bool b)
    | .Constant .none _ _ => some .none
    | .Constant (.str x) _ _ => some (.str x)
    | .UnaryOp .USub (.Constant (.int i) _ _) _ => some (.int (-i))
    | .BinOp (.Constant (.int i) _ _) .Pow (.Constant (.int j) _ _) _ =>
      if 0 ≤ j ∧ j ≤ 100 ∧ i.natAbs < 2 ^ 64 then some (.int (i ^ j.toNat)) else none
    | .Tuple es _ _ => if es.length ≤ 1000 then (litBy (lit n) es).map .tuple else none
    | .List es _ => if es.length ≤ 1000 then (litBy (lit n) es).map .list else none
    | .Dict [] [] _ => some (.dict [])
    | .Dict [some (.Constant (.int k) _ _)] [.Constant (.int v) _ _] _ =>
      some (.dict [(.int k, .int v)])
    | _ => none

/-- what is tracked -/
abbrev Tr (H : Hp) : Addr → Prop := fun a => H a ≠ none
def tLit (d : PyData) : TE := fun _ H Q => ∀ v H', Same H H' → DV True (Tr H) H' v d → Q v H'
def tLits (ds : List PyData) : TA := fun _ H Q =>
  ∀ vs H', Same H H' → DVs True (Tr H) H' vs ds → Q vs H'
theorem _root_.L2.Same.tr {H H1 : Hp} (s : Same H H1) : ∀ a, Tr H a → Tr H1 a := fun a h => by
  cases e : H a with
  | none => exact absurd e h
  | some o =>
    have := s a o e
    exact fun z => by rw [this] at z; cases z
theorem DV.back {z : Prop} {H H1 H2 : Hp} {v : V} {d : PyData} (s : Same H H1)
    (h : DV z (Tr H1) H2 v d) : DV z (Tr H) H2 v d :=
  h.less (fun y => y) fun a _ _ n m => n (s.tr a m)
theorem DVs.back {z : Prop} {H H1 H2 : Hp} {v : List V} {d : List PyData} (s : Same H H1)
    (h : DVs z (Tr H1) H2 v d) : DVs z (Tr H) H2 v d :=
  h.less (fun y => y) fun a _ _ n m => n (s.tr a m)
theorem litBy_len {f : Expr → Option PyData} : ∀ {es : List Expr} {ds : List PyData},
    litBy f es = some ds → ds.length = es.length
  | [], ds, h => by
    have : ([] : List PyData) = ds := Option.some.inj h
    subst this
    rfl
  | e :: es, ds, h => by
    unfold litBy at h
    cases q : f e with
    | none => rw [q] at h; cases h
    | some d =>
      rw [q] at h
      cases q2 : litBy f es with
      | none => rw [q2] at h; cases h
      | some r =>
        rw [q2] at h
        have : d :: r = ds := Option.some.inj h
        subst this
        rw [List.length_cons, List.length_cons, litBy_len q2]

theorem lit_star {n : Nat} {env : Env} {d : PyData} (h : lit n e = some d) :
    starEach (e :: es) env = (false, eval e env) :: starEach es env := by
  cases e with
  | Starred v p =>
    cases n with
    | zero => cases h
    | succ n => cases h
  | _ => rfl
theorem pa_lits {n : Nat} (one : ∀ (e : Expr) (d : PyData), lit n e = some d → PE X e (tLit d)) :
    ∀ (es : List Expr) (ds : List PyData), litBy (lit n) es = some ds → PA X es (tLits ds)
  | [], ds, h => by
    have : ([] : List PyData) = ds := Option.some.inj h
    subst this
    exact pa_nil.weak fun σ H Q q => q [] H (Same.refl H) .nil
  | e :: es, ds, h => by
    unfold litBy at h
    cases q : lit n e with
    | none => rw [q] at h; cases h
    | some d =>
      rw [q] at h
      cases q2 : litBy (lit n) es with
      | none => rw [q2] at h; cases h
      | some r =>
        rw [q2] at h
        have : d :: r = ds := Option.some.inj h
        subst this
        refine (pa_cons (one e d q) (pa_lits one es r q2) (lit_star q)).weak fun σ H Q w => ?_
        intro v H1 s1 h1 vs H2 s2 h2
        exact w (v :: vs) H2 (s1.trans s2) (.cons (h1.keep (Keep.same s2)) (h2.back s1))
theorem DV.newTup {z : Prop} {H H1 : Hp} {p : Addr} {xs : List V} {ds : List PyData}
    (s : Same H H1) (np : H1 p = none) (h : DVs z (Tr H) H1 xs ds) :
    DV z (Tr H) (upd H1 p (.tup xs)) (.ref p) (.tuple ds) :=
  .tup (fun m => s.tr p m np) upd_same (h.keep (Keep.new np))
theorem DV.newLst {z : Prop} {H H1 : Hp} {p : Addr} {xs : List V} {ds : List PyData}
    (s : Same H H1) (np : H1 p = none) (ns : z → p ≠ sysModules) (h : DVs z (Tr H) H1 xs ds) :
    DV z (Tr H) (upd H1 p (.lst xs)) (.ref p) (.list ds) :=
  .lst (fun m => s.tr p m np) ns upd_same (h.keep (Keep.new np))
theorem pe_lit : ∀ (n : Nat) (e : Expr) (d : PyData), lit n e = some d → PE X e (tLit d)
  | 0, _, _, h => by cases h
  | n + 1, e, d, h => by
    unfold lit at h
    split at h
    · cases h
      exact pe_int.weak fun σ H Q q => q _ H (Same.refl H) (.int _)
    · cases h
      exact pe_bl.weak fun σ H Q q => q _ H (Same.refl H) (.bl _)
    · cases h
      exact pe_non.weak fun σ H Q q => q _ H (Same.refl H) .non
    · cases h
      exact pe_str.weak fun σ H Q q => q _ H (Same.refl H) (.str _)
    · cases h
      exact (pe_un un_neg pe_int).weak fun σ H Q q => ⟨_, rfl, q _ H (Same.refl H) (.int _)⟩
    · split at h
      · rename_i c
        cases h
        refine (pe_op op_pow pe_int pe_int).weak fun σ H Q q => ?_
        exact ⟨_, _, rfl, rfl, ⟨c.1, by omega, c.2.2⟩, q _ H (Same.refl H) (.int _)⟩
      · cases h
    · rename_i es _ _
      split at h
      · rename_i c
        cases q : litBy (lit n) es with
        | none => rw [q] at h; cases h
        | some ds =>
          rw [q] at h
          cases h
          refine (pe_tupS (pa_lits (pe_lit n) es ds q)).weak fun σ H Q w => ?_
          intro xs H1 s1 h1
          have hl := litBy_len q
          have hl2 := h1.length
          refine ⟨by rw [hl2, hl, sizeLine_eq]; omega, fun p np ns => ?_⟩
          exact w _ _ (s1.trans (Same.new np)) (.newTup s1 np h1)
      · cases h
    · rename_i es _
      split at h
      · rename_i c
        cases q : litBy (lit n) es with
        | none => rw [q] at h; cases h
        | some ds =>
          rw [q] at h
          cases h
          refine (pe_lstS (pa_lits (pe_lit n) es ds q)).weak fun σ H Q w => ?_
          intro xs H1 s1 h1
          have hl := litBy_len q
          have hl2 := h1.length
          refine ⟨by rw [hl2, hl, sizeLine_eq]; omega, fun p np ns => ?_⟩
          exact w _ _ (s1.trans (Same.new np)) (.newLst s1 np (fun _ => ns) h1)
      · cases h
    · cases h
      refine pe_dnewK.weak fun σ H Q w => ?_
      intro p np
      exact w _ _ (Same.new np) (.dic (fun m => m np) upd_same rfl .nil)
    · cases h
      rename_i k _ _ v _ _ _
      refine (pe_disp (pps_cons pe_int pe_int pps_nil) rfl rfl (fun z => by cases z)
        (by show 1 ≤ 15; decide)).weak fun σ H Q w => ?_
      intro p np
      refine ⟨upd_same, [(.inl k, .int v)], rfl, by show 1 ≤ 15; decide, ?_⟩
      rw [upd_upd]
      exact w _ _ (Same.new np) (.dic (fun m => m np) upd_same rfl (.cons (.int v) .nil))
    · cases h
end
end Wr

namespace Mi
open PySem PySem.Spec PyProof.Rows L2

/-! ## data, states -/
/-- a value as a tree; an instance by its number -/
inductive D where
  | non | bl (b : Bool) | int (i : Int) | str (x : Str) | tup (xs : List D) | lst (xs : List D)
  | dic (k v : Int) | dic0 | obj (k : Nat)
  /-- the script -/
  | scr (ns : List Int)
/-- what a name holds: nothing, a value, a list of its own -/
inductive Sl where
  | un | va (d : D) | ow (xs : List D)
/-- a thing that may change: an instance (its class by number, its attributes), a list, a dict -/
inductive Ins where
  | ins (c : Nat) (fs : List (Str × D)) | lst (xs : List D) | dk (ks : List Key) (xs : List D) | dt (ks : List (List Key)) (xs : List D)
structure Sto where
  ρ : List Sl
  S : List Ins
/-- how a piece of code ends: with a value, an error of class c, outside of what is told -/
inductive R (α : Type) where
  | ok (a : α) (st : Sto) | er (c : Nat) (st : Sto) | no
@[inline] def R.bnd {α β : Type} (x : R α) (f : α → Sto → R β) : R β :=
  match x with
  | .ok a st => f a st
  | .er c st => .er c st
  | .no => .no
@[simp] theorem bnd_ok {α β : Type} (a : α) (st : Sto) (f : α → Sto → R β) : (R.ok a st).bnd f = f a st := rfl
@[simp] theorem bnd_er {α β : Type} (c : Nat) (st : Sto) (f : α → Sto → R β) : (R.er c st : R α).bnd f = .er c st := rfl
@[simp] theorem bnd_no {α β : Type} (f : α → Sto → R β) : (R.no : R α).bnd f = .no := rfl
def Sl.d : Sl → D
  | .un => .non
  | .va d => d
  | .ow xs => .lst xs
/-- an operand: a value, or what a name holds when it is used -/
inductive Hd where
  | val (d : D) | slot (i : Nat)
/-- a list that may change, as it is now -/
def rsv (S : List Ins) (d : D) : D :=
  match d with
  | .obj k => match S[k]? with
    | some (.lst xs) => .lst xs
    | _ => d
  | _ => d
def Hd.at (h : Hd) (st : Sto) : Option D :=
  match h with
  | .val d => some (rsv st.S d)
  | .slot i => match st.ρ[i]? with
    | some (.va d) => some (rsv st.S d)
    | some (.ow xs) => some (.lst xs)
    | _ => none

/-! ## values in the heap -/
def KL (K : PySem.W.Frag) (a : Addr) (xs : List V) : Prop :=
  ∃ (o : Obj) (its : Array Value) (n : Nat), K.lookup a = some o ∧ o.cls = .type "list" ∧ o.dict = none ∧ o.data = .seq its n ∧ its.size ≤ sizeLine ∧ Vals xs its.toList
def KT (K : PySem.W.Frag) (a : Addr) (xs : List V) : Prop :=
  ∃ (o : Obj) (its : Array Value) (n : Nat), K.lookup a = some o ∧ o.cls = .type "tuple" ∧ o.data = .seq its n ∧ its.size ≤ sizeLine ∧ Vals xs its.toList

abbrev AP1 := Addr → Prop
mutual
inductive DV (K : PySem.W.Frag) (α : List Addr) (B : AP1) (H : Hp) : V → D → Prop
  | non : DV K α B H .non .non
  | bl (b : Bool) : DV K α B H (.bl b) (.bl b)
  | int (i : Int) : DV K α B H (.int i) (.int i)
  | str (x : Str) : DV K α B H (.str x) (.str x)
  | lst {a : Addr} {xs : List V} {ds : List D} : ¬ B a → H a = some (.lst xs) → DVs K α B H xs ds → DV K α B H (.ref a) (.lst ds)
  | scr {a : Addr} {ns : List Int} : ¬ B a → Rd H a (.lst (ns.map V.int)) → DV K α B H (.ref a) (.scr ns)
  | scrK {a : Addr} {ns : List Int} : KL K a (ns.map V.int) → DV K α B H (.ref a) (.scr ns)
  | tup {a : Addr} {xs : List V} {ds : List D} : ¬ B a → Rd H a (.tup xs) → DVs K α B H xs ds → DV K α B H (.ref a) (.tup ds)
  | tupK {a : Addr} {xs : List V} {ds : List D} : KT K a xs → DVs K α B H xs ds → DV K α B H (.ref a) (.tup ds)
  | dic {a : Addr} {k v : Int} : ¬ B a → H a = some (.dK [(.inl k, .int v)]) → DV K α B H (.ref a) (.dic k v)
  | dic0 {a : Addr} : ¬ B a → H a = some (.dK []) → DV K α B H (.ref a) .dic0
  | obj {a : Addr} {k : Nat} : α[k]? = some a → DV K α B H (.ref a) (.obj k)
inductive DVs (K : PySem.W.Frag) (α : List Addr) (B : AP1) (H : Hp) : List V → List D → Prop
  | nil : DVs K α B H [] []
  | cons {v : V} {vs : List V} {d : D} {ds : List D} : DV K α B H v d → DVs K α B H vs ds → DVs K α B H (v :: vs) (d :: ds)
end

/-- what may stand between two moments: new objects, changes at B, none at F -/
structure Stp (F : AP1) (α : List Addr) (B : AP1) (H : Hp) (α' : List Addr) (B' : AP1) (H' : Hp) : Prop where
  al : ∀ (k : Nat) (a : Addr), α[k]? = some a → α'[k]? = some a
  nb : ∀ a o, H a = some o → ¬ B a → H' a = some o ∧ ¬ B' a
  fr : ∀ a o, F a → H a = some o → H' a = some o

section
variable {K : PySem.W.Frag} {α α' α'' : List Addr} {B B' B'' F F' : AP1} {H H' H'' : Hp}
theorem Stp.refl : Stp F α B H α B H := ⟨fun _ _ h => h, fun _ _ h n => ⟨h, n⟩, fun _ _ _ h => h⟩
theorem Stp.weak (h : ∀ a, B' a → B a) : Stp F α B H α B' H := ⟨fun _ _ h => h, fun _ _ e n => ⟨e, fun z => n (h _ z)⟩, fun _ _ _ h => h⟩
theorem Stp.trans (s : Stp F α B H α' B' H') (t : Stp F α' B' H' α'' B'' H'') : Stp F α B H α'' B'' H'' :=
  ⟨fun k a h => t.al k a (s.al k a h), fun a o e n => t.nb a o (s.nb a o e n).1 (s.nb a o e n).2, fun a o f e => t.fr a o f (s.fr a o f e)⟩
theorem Stp.mono (s : Stp F α B H α' B' H') (h : ∀ a, F' a → F a) : Stp F' α B H α' B' H' :=
  ⟨s.al, s.nb, fun a o f e => s.fr a o (h a f) e⟩
theorem Rd.step {a : Addr} {u : HO} (s : Stp F α B H α' B' H') (n : ¬ B a) (r : Rd H a u) : Rd H' a u ∧ ¬ B' a := by
  rcases r with r | ⟨o, r⟩
  · exact ⟨.inl (s.nb a _ r n).1, (s.nb a _ r n).2⟩
  · exact ⟨.inr ⟨o, (s.nb a _ r n).1⟩, (s.nb a _ r n).2⟩
mutual
theorem DV.step (s : Stp F α B H α' B' H') : ∀ {v : V} {d : D}, DV K α B H v d → DV K α' B' H' v d
  | _, _, .non => .non
  | _, _, .bl b => .bl b
  | _, _, .int i => .int i
  | _, _, .str x => .str x
  | _, _, .lst n r h => .lst (s.nb _ _ r n).2 (s.nb _ _ r n).1 (DVs.step s h)
  | _, _, .scr n r => .scr (Rd.step s n r).2 (Rd.step s n r).1
  | _, _, .scrK r => .scrK r
  | _, _, .tup n r h => .tup (Rd.step s n r).2 (Rd.step s n r).1 (DVs.step s h)
  | _, _, .tupK r h => .tupK r (DVs.step s h)
  | _, _, .dic n r => .dic (s.nb _ _ r n).2 (s.nb _ _ r n).1
  | _, _, .dic0 n r => .dic0 (s.nb _ _ r n).2 (s.nb _ _ r n).1
  | _, _, .obj h => .obj (s.al _ _ h)
theorem DVs.step (s : Stp F α B H α' B' H') : ∀ {vs : List V} {ds : List D}, DVs K α B H vs ds → DVs K α' B' H' vs ds
  | _, _, .nil => .nil
  | _, _, .cons h t => .cons (DV.step s h) (DVs.step s t)
end
theorem DVs.length : ∀ {vs : List V} {ds : List D}, DVs K α B H vs ds → vs.length = ds.length
  | _, _, .nil => rfl
  | _, _, .cons _ t => by rw [List.length_cons, List.length_cons, DVs.length t]
theorem DVs.app : ∀ {vs ws : List V} {ds es : List D}, DVs K α B H vs ds → DVs K α B H ws es → DVs K α B H (vs ++ ws) (ds ++ es)
  | _, _, _, _, .nil, y => y
  | _, _, _, _, .cons h t, y => .cons h (DVs.app t y)
theorem DVs.take : ∀ {vs : List V} {ds : List D} (n : Nat), DVs K α B H vs ds → DVs K α B H (vs.take n) (ds.take n)
  | _, _, 0, _ => .nil
  | _, _, _ + 1, .nil => .nil
  | _, _, n + 1, .cons h t => .cons h (DVs.take n t)
theorem DVs.drop : ∀ {vs : List V} {ds : List D} (n : Nat), DVs K α B H vs ds → DVs K α B H (vs.drop n) (ds.drop n)
  | _, _, 0, h => h
  | _, _, _ + 1, .nil => .nil
  | _, _, n + 1, .cons _ t => DVs.drop n t
theorem DVs.rev : ∀ {vs : List V} {ds : List D}, DVs K α B H vs ds → DVs K α B H vs.reverse ds.reverse
  | _, _, .nil => .nil
  | _, _, .cons h t => by rw [List.reverse_cons, List.reverse_cons]; exact (DVs.rev t).app (.cons h .nil)
theorem DVs.at : ∀ {vs : List V} {ds : List D} {i : Nat} {v : V}, DVs K α B H vs ds → vs[i]? = some v → ∃ d, ds[i]? = some d ∧ DV K α B H v d
  | _, _, 0, _, .cons h _, e => by rw [List.getElem?_cons_zero] at e; cases e; exact ⟨_, rfl, h⟩
  | _, _, i + 1, _, .cons _ t, e => by rw [List.getElem?_cons_succ] at e; obtain ⟨d, h1, h2⟩ := DVs.at t e; exact ⟨d, h1, h2⟩
theorem DVs.at' : ∀ {vs : List V} {ds : List D} {i : Nat} {d : D}, DVs K α B H vs ds → ds[i]? = some d → ∃ v, vs[i]? = some v ∧ DV K α B H v d
  | _, _, 0, _, .cons h _, e => by rw [List.getElem?_cons_zero] at e; cases e; exact ⟨_, rfl, h⟩
  | _, _, i + 1, _, .cons _ t, e => by rw [List.getElem?_cons_succ] at e; obtain ⟨d, h1, h2⟩ := DVs.at' t e; exact ⟨d, h1, h2⟩
theorem DVs.set {v : V} {d : D} (x : DV K α B H v d) : ∀ {vs : List V} {ds : List D} (i : Nat), DVs K α B H vs ds → DVs K α B H (vs.set i v) (ds.set i d)
  | _, _, _, .nil => .nil
  | _, _, 0, .cons _ t => .cons x t
  | _, _, i + 1, .cons h t => .cons h (DVs.set x i t)
theorem DVs.rep {v : V} {d : D} (x : DV K α B H v d) : ∀ n : Nat, DVs K α B H (List.replicate n v) (List.replicate n d)
  | 0 => .nil
  | n + 1 => .cons x (DVs.rep x n)
theorem DVs.flat {vs : List V} {ds : List D} (x : DVs K α B H vs ds) : ∀ n : Nat, DVs K α B H (List.replicate n vs).flatten (List.replicate n ds).flatten
  | 0 => .nil
  | n + 1 => by rw [List.replicate_succ, List.replicate_succ, List.flatten_cons, List.flatten_cons]; exact x.app (DVs.flat x n)
theorem DV.lessB {v : V} {d : D} (h : DV K α B H v d) (w : ∀ a, B' a → B a) : DV K α B' H v d := h.step (Stp.weak (F := fun _ => False) w)
theorem DVs.lessB {v : List V} {d : List D} (h : DVs K α B H v d) (w : ∀ a, B' a → B a) : DVs K α B' H v d := h.step (Stp.weak (F := fun _ => False) w)
theorem DV.sqT {a : Addr} {ds : List D} (h : DV K α B H (.ref a) (.tup ds)) : ∃ vs, SqT K H a vs ∧ DVs K α B H vs ds := by
  cases h with
  | tup n r t => exact ⟨_, .inl r, t⟩
  | tupK r t => exact ⟨_, .inr r, t⟩
theorem DV.scrL {a : Addr} {ns : List Int} (h : DV K α B H (.ref a) (.scr ns)) : SqL K H a (ns.map V.int) := by
  cases h with
  | scr n r => exact .inl r
  | scrK r => exact .inr r
end

/-- a value that may be looked at: one as above, or a list of one's own -/
inductive PV (K : PySem.W.Frag) (α : List Addr) (B : AP1) (H : Hp) : V → D → Prop
  | dv {v : V} {d : D} : DV K α B H v d → PV K α B H v d
  | own {a : Addr} {vs : List V} {ds : List D} : H a = some (.lst vs) → DVs K α B H vs ds → PV K α B H (.ref a) (.lst ds)
section
variable {K : PySem.W.Frag} {α α' α'' : List Addr} {B B' B'' F F' : AP1} {H H' H'' : Hp}
theorem PV.int {v : V} {i : Int} (h : PV K α B H v (.int i)) : v = .int i := by cases h with | dv h => cases h; rfl
theorem PV.bl {v : V} {i : Bool} (h : PV K α B H v (.bl i)) : v = .bl i := by cases h with | dv h => cases h; rfl
theorem PV.str {v : V} {i : Str} (h : PV K α B H v (.str i)) : v = .str i := by cases h with | dv h => cases h; rfl
theorem PV.non {v : V} (h : PV K α B H v .non) : v = .non := by cases h with | dv h => cases h; rfl
theorem PV.tup {v : V} {ds : List D} (h : PV K α B H v (.tup ds)) : ∃ a vs, v = .ref a ∧ SqT K H a vs ∧ DVs K α B H vs ds ∧ DV K α B H v (.tup ds) := by
  cases h with
  | dv h =>
    cases h with
    | tup n r t => exact ⟨_, _, rfl, .inl r, t, .tup n r t⟩
    | tupK r t => exact ⟨_, _, rfl, .inr r, t, .tupK r t⟩
theorem PV.lst {v : V} {ds : List D} (h : PV K α B H v (.lst ds)) : ∃ a vs, v = .ref a ∧ H a = some (.lst vs) ∧ DVs K α B H vs ds := by
  cases h with
  | own e t => exact ⟨_, _, rfl, e, t⟩
  | dv h =>
    cases h with
    | lst n r t => exact ⟨_, _, rfl, r, t⟩
theorem PV.scr {v : V} {ns : List Int} (h : PV K α B H v (.scr ns)) : ∃ a, v = .ref a ∧ SqL K H a (ns.map V.int) := by
  cases h with
  | dv h =>
    cases h with
    | scr n r => exact ⟨_, rfl, .inl r⟩
    | scrK r => exact ⟨_, rfl, .inr r⟩
end

/-! ## what a state holds -/
def SlOk (K : PySem.W.Frag) (α : List Addr) (B : AP1) (H : Hp) : Sl → Option V → List Addr → Prop
  | .un, _, os => os = []
  | .va d, s, os => os = [] ∧ ∃ v, s = some v ∧ DV K α B H v d
  | .ow xs, s, os => ∃ a vs, os = [a] ∧ s = some (.ref a) ∧ H a = some (.lst vs) ∧ DVs K α B H vs xs
inductive SlsOk (K : PySem.W.Frag) (α : List Addr) (B : AP1) (H : Hp) : List Sl → List (Option V) → List (List Addr) → Prop
  | nil : SlsOk K α B H [] [] []
  | cons {x : Sl} {xs : List Sl} {s : Option V} {ss : List (Option V)} {o : List Addr} {os : List (List Addr)} :
    SlOk K α B H x s o → SlsOk K α B H xs ss os → SlsOk K α B H (x :: xs) (s :: ss) (o :: os)
/-- the classes by number -/
structure Tb where
  ic : Nat → Addr
  ec : Nat → Addr
def InsOk (K : PySem.W.Frag) (T : Tb) (α : List Addr) (B : AP1) (H : Hp) (k : Nat) (i : Ins) : Prop :=
  ∃ a, α[k]? = some a ∧ match i with
    | .ins c fs => ∃ dx vs, H a = some (.ins (T.ic c) dx ((fs.map (·.1)).zip vs)) ∧ DVs K α B H vs (fs.map (·.2))
    | .lst xs => ∃ vs, H a = some (.lst vs) ∧ DVs K α B H vs xs
    | .dk ks xs => ∃ vs, H a = some (.dK (ks.zip vs)) ∧ DVs K α B H vs xs ∧ ks.length = xs.length
    | .dt ks xs => ∃ vs, H a = some (.dT (ks.zip vs)) ∧ DVs K α B H vs xs ∧ ks.length = xs.length
structure StoOk (K : PySem.W.Frag) (T : Tb) (α : List Addr) (B : AP1) (H : Hp) (S : List Ins) : Prop where
  at' : ∀ k i, S[k]? = some i → InsOk K T α B H k i
  len : α.length = S.length
  nd : α.Nodup
def BB (F : AP1) (α : List Addr) (os : List (List Addr)) : AP1 := fun a => F a ∨ a ∈ α ∨ a ∈ os.flatten
def FP (F : AP1) (P : List Addr) : AP1 := fun a => F a ∨ a ∈ P
structure Rel (K : PySem.W.Frag) (T : Tb) (F : AP1) (α : List Addr) (os : List (List Addr)) (st : Sto) (σ : List (Option V)) (H : Hp) : Prop where
  sl : SlsOk K α (BB F α os) H st.ρ σ os
  nd : os.flatten.Nodup
  off : ∀ a ∈ os.flatten, ¬ F a ∧ a ∉ α
  so : StoOk K T α (BB F α os) H st.S
  fr : ∀ a, F a → a ∉ α
  has : ∀ a, F a → H a ≠ none

section
variable {K : PySem.W.Frag} {T : Tb} {α α' α'' : List Addr} {B B' B'' F F' : AP1} {H H' H'' : Hp} {os os' : List (List Addr)} {st st' : Sto} {σ σ' : List (Option V)}
theorem FP_nil : FP F [] = F := by funext a; simp [FP]
theorem SlOk.step {x : Sl} {s : Option V} {o : List Addr} (t : Stp F α B H α' B' H') (k : ∀ a ∈ o, ∀ u, H a = some u → H' a = some u) (h : SlOk K α B H x s o) : SlOk K α' B' H' x s o := by
  cases x with
  | un => exact h
  | va d => obtain ⟨e, v, e2, h⟩ := h; exact ⟨e, v, e2, h.step t⟩
  | ow xs =>
    obtain ⟨a, vs, e, e2, e3, h⟩ := h
    exact ⟨a, vs, e, e2, k a (by rw [e]; exact List.mem_singleton.mpr rfl) _ e3, h.step t⟩
theorem SlsOk.step {xs : List Sl} {ss : List (Option V)} (t : Stp F α B H α' B' H') (h : SlsOk K α B H xs ss os) :
    (∀ a ∈ os.flatten, ∀ u, H a = some u → H' a = some u) → SlsOk K α' B' H' xs ss os := by
  induction h with
  | nil => exact fun _ => .nil
  | cons h _ ih => exact fun k => .cons (h.step t fun a m => k a (by rw [List.flatten_cons]; exact List.mem_append_left _ m)) (ih fun a m => k a (by rw [List.flatten_cons]; exact List.mem_append_right _ m))
theorem SlsOk.len {xs : List Sl} {ss : List (Option V)} (h : SlsOk K α B H xs ss os) : xs.length = ss.length ∧ os.length = ss.length := by
  induction h with
  | nil => exact ⟨rfl, rfl⟩
  | cons _ _ ih => exact ⟨by rw [List.length_cons, List.length_cons, ih.1], by rw [List.length_cons, List.length_cons, ih.2]⟩
theorem SlsOk.at {xs : List Sl} {ss : List (Option V)} (h : SlsOk K α B H xs ss os) : ∀ {i : Nat} {x : Sl}, xs[i]? = some x → ∃ s o, ss[i]? = some s ∧ os[i]? = some o ∧ SlOk K α B H x s o := by
  induction h with
  | nil => intro i x e; simp at e
  | cons h _ ih =>
    intro i x e
    cases i with
    | zero => rw [List.getElem?_cons_zero] at e; cases e; exact ⟨_, _, rfl, rfl, h⟩
    | succ i => rw [List.getElem?_cons_succ] at e; obtain ⟨s, o, a, b, c⟩ := ih e; exact ⟨s, o, a, b, c⟩
theorem SlsOk.set {xs : List Sl} {ss : List (Option V)} {x : Sl} {s : Option V} {o : List Addr} (h : SlsOk K α B H xs ss os) (hx : SlOk K α B H x s o) : ∀ i : Nat, SlsOk K α B H (xs.set i x) (ss.set i s) (os.set i o) := by
  induction h with
  | nil => intro i; exact .nil
  | cons h t ih =>
    intro i
    cases i with
    | zero => exact .cons hx t
    | succ i => exact .cons h (ih i)
theorem flatten_set_sub : ∀ (os : List (List Addr)) (i : Nat) (o : List Addr) (a : Addr), a ∈ (os.set i o).flatten → a ∈ os.flatten ∨ a ∈ o
  | [], _, _, _, h => .inl h
  | p :: os, 0, o, a, h => by
    rw [List.set_cons_zero, List.flatten_cons] at h
    rcases List.mem_append.mp h with h | h
    · exact .inr h
    · exact .inl (by rw [List.flatten_cons]; exact List.mem_append_right _ h)
  | p :: os, i + 1, o, a, h => by
    rw [List.set_cons_succ, List.flatten_cons] at h
    rcases List.mem_append.mp h with h | h
    · exact .inl (by rw [List.flatten_cons]; exact List.mem_append_left _ h)
    · rcases flatten_set_sub os i o a h with h | h
      · exact .inl (by rw [List.flatten_cons]; exact List.mem_append_right _ h)
      · exact .inr h
theorem flatten_set_nd : ∀ (os : List (List Addr)) (i : Nat) (o : List Addr), os.flatten.Nodup → o.Nodup → (∀ a ∈ o, a ∉ os.flatten) → (os.set i o).flatten.Nodup
  | [], _, _, _, _, _ => List.nodup_nil
  | p :: os, 0, o, h, ho, d => by
    rw [List.flatten_cons] at h d
    rw [List.set_cons_zero, List.flatten_cons]
    obtain ⟨_, h2, _⟩ := List.nodup_append.mp h
    exact List.nodup_append.mpr ⟨ho, h2, fun a ha b hb e => d a ha (by rw [e]; exact List.mem_append_right _ hb)⟩
  | p :: os, i + 1, o, h, ho, d => by
    rw [List.flatten_cons] at h d
    rw [List.set_cons_succ, List.flatten_cons]
    obtain ⟨h1, h2, h3⟩ := List.nodup_append.mp h
    refine List.nodup_append.mpr ⟨h1, flatten_set_nd os i o h2 ho fun a ha m => d a ha (List.mem_append_right _ m), fun a ha b hb e => ?_⟩
    rcases flatten_set_sub os i o b hb with m | m
    · exact h3 a ha b m e
    · exact d b m (by rw [← e]; exact List.mem_append_left _ ha)
theorem InsOk.step {k : Nat} {i : Ins} (s : Stp F α B H α' B' H') (c : ∀ a, a ∈ α → ∀ u, H a = some u → H' a = some u) (h : InsOk K T α B H k i) : InsOk K T α' B' H' k i := by
  obtain ⟨a, e, h⟩ := h
  refine ⟨a, s.al _ _ e, ?_⟩
  cases i with
  | ins k fs => obtain ⟨dx, vs, e2, h⟩ := h; exact ⟨dx, vs, c a (List.mem_of_getElem? e) _ e2, h.step s⟩
  | lst xs => obtain ⟨vs, e2, h⟩ := h; exact ⟨vs, c a (List.mem_of_getElem? e) _ e2, h.step s⟩
  | dk ks xs => obtain ⟨vs, e2, h, l⟩ := h; exact ⟨vs, c a (List.mem_of_getElem? e) _ e2, h.step s, l⟩
  | dt ks xs => obtain ⟨vs, e2, h, l⟩ := h; exact ⟨vs, c a (List.mem_of_getElem? e) _ e2, h.step s, l⟩
theorem InsOk.there {k : Nat} {i : Ins} (h : InsOk K T α B H k i) : ∃ a, α[k]? = some a ∧ H a ≠ none := by
  obtain ⟨a, e, h⟩ := h
  refine ⟨a, e, ?_⟩
  cases i with
  | ins k fs => obtain ⟨dx, vs, e2, h⟩ := h; rw [e2]; exact nofun
  | lst xs => obtain ⟨vs, e2, h⟩ := h; rw [e2]; exact nofun
  | dk ks xs => obtain ⟨vs, e2, h, l⟩ := h; rw [e2]; exact nofun
  | dt ks xs => obtain ⟨vs, e2, h, l⟩ := h; rw [e2]; exact nofun

/-- an expression's new list, or tuple, is laid -/
theorem bb_new {p : Addr} (np : H p = none) (a : Addr) : BB (FP F [p]) α os a ↔ (BB F α os a ∨ a = p) := by
  simp only [BB, FP, List.mem_singleton]
  constructor
  · rintro ((h | h) | h | h)
    · exact .inl (.inl h)
    · exact .inr h
    · exact .inl (.inr (.inl h))
    · exact .inl (.inr (.inr h))
  · rintro ((h | h | h) | h)
    · exact .inl (.inl h)
    · exact .inr (.inl h)
    · exact .inr (.inr h)
    · exact .inl (.inr h)
theorem stp_new {p : Addr} {o : HO} (np : H p = none) : Stp F α B H α B (upd H p o) :=
  ⟨fun _ _ h => h, fun a u e n => ⟨by rw [upd_ne (ne_of_none e np)]; exact e, n⟩, fun a u _ e => by rw [upd_ne (ne_of_none e np)]; exact e⟩
theorem stp_newP {p : Addr} {o : HO} (np : H p = none) : Stp F α (BB F α os) H α (BB (FP F [p]) α os) (upd H p o) :=
  ⟨fun _ _ h => h, fun a u e n => ⟨by rw [upd_ne (ne_of_none e np)]; exact e, fun z => by
    rcases (bb_new np a).mp z with z | z
    · exact n z
    · exact ne_of_none e np z⟩, fun a u _ e => by rw [upd_ne (ne_of_none e np)]; exact e⟩
/-- ins' addresses hold something -/
theorem StoOk.there {S : List Ins} (h : StoOk K T α B H S) : ∀ a ∈ α, H a ≠ none := fun a m z => by
  obtain ⟨k, hk, e⟩ := List.mem_iff_getElem.mp m
  have hk' : k < S.length := by rw [← h.len]; exact hk
  obtain ⟨a', e1, e2⟩ := (h.at' k S[k] (List.getElem?_eq_getElem hk')).there
  rw [List.getElem?_eq_getElem hk, e] at e1
  cases e1
  exact e2 z
theorem SlsOk.there {xs : List Sl} {ss : List (Option V)} (h : SlsOk K α B H xs ss os) : ∀ a ∈ os.flatten, H a ≠ none := by
  induction h with
  | nil => intro a m; simp at m
  | @cons x xs s ss o os h _ ih =>
    intro a m
    rw [List.flatten_cons] at m
    rcases List.mem_append.mp m with m | m
    · cases x with
      | un => have e : o = [] := h; rw [e] at m; simp at m
      | va d => obtain ⟨e, _⟩ := h; rw [e] at m; simp at m
      | ow xs =>
        obtain ⟨a', vs, e, _, e3, _⟩ := h
        rw [e] at m
        rw [List.mem_singleton.mp m, e3]
        exact fun z => nomatch z
    · exact ih a m
theorem Rel.bThere (r : Rel K T F α os st σ H) : ∀ a, BB F α os a → H a ≠ none := fun a h => by
  rcases h with h | h | h
  · exact r.has a h
  · exact r.so.there a h
  · exact r.sl.there a h
theorem Rel.newP {p : Addr} {o : HO} (r : Rel K T F α os st σ H) (np : H p = none) : Rel K T (FP F [p]) α os st σ (upd H p o) := by
  have s := stp_newP (F := F) (α := α) (os := os) (o := o) np
  have k : ∀ a u, H a = some u → upd H p o a = some u := fun a u e => by rw [upd_ne (ne_of_none e np)]; exact e
  have nin : p ∉ os.flatten := fun m => r.sl.there p m np
  have nal : p ∉ α := fun m => r.so.there p m np
  refine ⟨r.sl.step s fun a _ u e => k a u e, r.nd, fun a m => ⟨fun z => ?_, (r.off a m).2⟩, ⟨fun k' i e => (r.so.at' k' i e).step s fun a _ u e => k a u e, r.so.len, r.so.nd⟩, fun a z m => ?_, fun a z => ?_⟩
  · rcases z with z | z
    · exact (r.off a m).1 z
    · rw [List.mem_singleton.mp z] at m; exact nin m
  · rcases z with z | z
    · exact r.fr a z m
    · rw [List.mem_singleton.mp z] at m; exact nal m
  · rcases z with z | z
    · cases e : H a with
      | none => exact absurd e (r.has a z)
      | some u => rw [k a u e]; exact fun q => nomatch q
    · rw [List.mem_singleton.mp z, upd_same]; exact fun q => nomatch q
theorem Rel.lessF (r : Rel K T F α os st σ H) (w : ∀ a, F' a → F a) : Rel K T F' α os st σ H := by
  have wb : ∀ a, BB F' α os a → BB F α os a := fun a h => by
    rcases h with h | h | h
    · exact .inl (w a h)
    · exact .inr (.inl h)
    · exact .inr (.inr h)
  have s : Stp (fun _ => False) α (BB F α os) H α (BB F' α os) H := Stp.weak wb
  exact ⟨r.sl.step s fun a _ u e => e, r.nd, fun a m => ⟨fun z => (r.off a m).1 (w a z), (r.off a m).2⟩, ⟨fun k i e => (r.so.at' k i e).step s fun a _ u e => e, r.so.len, r.so.nd⟩, fun a z => r.fr a (w a z), fun a z => r.has a (w a z)⟩
theorem Rel.new {p : Addr} {o : HO} (r : Rel K T F α os st σ H) (np : H p = none) : Rel K T F α os st σ (upd H p o) :=
  (r.newP np).lessF fun a h => .inl h
end
end Mi

namespace Mi
open PySem PySem.Spec PyProof.Rows L2

abbrev EX := Nat → L2.St → Hp → Prop
/-- what must hold behind a piece of code that ends as x -/
def Post {β γ : Type} (K : PySem.W.Frag) (T : Tb) (F : AP1) (α : List Addr) (os : List (List Addr)) (σ : L2.St) (H : Hp) (E : EX)
    (RR : List Addr → AP1 → Hp → β → γ → List Addr → Prop) (x : R β) (Q : γ → Hp → Prop) : Prop :=
  match x with
  | .ok r st' => ∀ α' os' H' P v, (∀ a ∈ P, ¬ F a) → Stp F α (BB F α os) H α' (BB (FP F P) α' os') H' → Rel K T (FP F P) α' os' st' σ H' → RR α' (BB (FP F P) α' os') H' r v P → Q v H'
  | .er c st' => ∀ α' os' H', Stp F α (BB F α os) H α' (BB F α' os') H' → Rel K T F α' os' st' σ H' → E c σ H'
  | .no => False
def RV (K : PySem.W.Frag) : List Addr → AP1 → Hp → Sl → V → List Addr → Prop := fun α B H r v P => SlOk K α B H r (some v) P ∧ r ≠ .un
def HdOk (K : PySem.W.Frag) (σ : L2.St) (α : List Addr) (B : AP1) (H : Hp) : Hd → V → Prop
  | .val d, v => DV K α B H v d
  | .slot i, v => σ[i]? = some (some v)
def RH (K : PySem.W.Frag) (σ : L2.St) : List Addr → AP1 → Hp → Hd → V → List Addr → Prop := fun α B H r v P => P = [] ∧ HdOk K σ α B H r v
inductive HdsOk (K : PySem.W.Frag) (σ : L2.St) (α : List Addr) (B : AP1) (H : Hp) : List Hd → List V → Prop
  | nil : HdsOk K σ α B H [] []
  | cons {h v hs vs} : HdOk K σ α B H h v → HdsOk K σ α B H hs vs → HdsOk K σ α B H (h :: hs) (v :: vs)
def RHs (K : PySem.W.Frag) (σ : L2.St) : List Addr → AP1 → Hp → List Hd → List V → List Addr → Prop := fun α B H r v P => P = [] ∧ HdsOk K σ α B H r v
def RB : List Addr → AP1 → Hp → Bool → Bool → List Addr → Prop := fun _ _ _ r v P => P = [] ∧ v = r
def RA (K : PySem.W.Frag) : List Addr → AP1 → Hp → List D → List V → List Addr → Prop := fun α B H r v P => P = [] ∧ DVs K α B H v r

/-! ## readings by the machine itself -/
def semE (X : Cx) (e : Expr) : TE := fun σ H Q => ∀ pins s, Inv X pins σ H s → wpAny (model X.prog X.w) X.A (eval e X.env) (EP X pins σ Q) X.xe s
theorem pe_sem {X : Cx} {e : Expr} : PE X e (semE X e) := ⟨fun pins s σ H Q I h => h pins s I⟩
def semT (X : Cx) (e : Expr) : TT := fun σ H Q => ∀ pins s, Inv X pins σ H s → wpAny (model X.prog X.w) X.A (isTrue e X.env (eval e X.env)) (TP X pins σ Q) X.xe s
theorem pt_sem {X : Cx} {e : Expr} : PT X e (semT X e) := ⟨fun pins s σ H Q I h => h pins s I⟩
def semW (X : Cx) (e : Expr) : TT := fun σ H Q => ∀ whole pins s, Inv X pins σ H s → wpAny (model X.prog X.w) X.A (isTrue e X.env whole) (TP X pins σ Q) X.xe s
theorem pw_sem {X : Cx} {e : Expr} : PW X e (semW X e) := ⟨fun wh pins s σ H Q I h => h wh pins s I⟩
def semA (X : Cx) (es : List Expr) : TA := fun σ H Q => ∀ pos pins s, Inv X pins σ H s → wpAny (model X.prog X.w) X.A (spliced (backTo pos (starEach es X.env))) (AP X pins σ Q) X.xe s
theorem pa_sem {X : Cx} {es : List Expr} : PA X es (semA X es) := ⟨fun pos pins s σ H Q I h => h pos pins s I⟩
theorem _root_.L2.PE.sem {X : Cx} {e : Expr} {t : TE} (h : PE X e t) {σ H Q} (q : t σ H Q) : semE X e σ H Q := fun pins s I => h.run pins s σ H Q I q
theorem _root_.L2.PT.sem {X : Cx} {e : Expr} {t : TT} (h : PT X e t) {σ H Q} (q : t σ H Q) : semT X e σ H Q := fun pins s I => h.run pins s σ H Q I q
theorem _root_.L2.PW.sem {X : Cx} {e : Expr} {t : TT} (h : PW X e t) {σ H Q} (q : t σ H Q) : semW X e σ H Q := fun wh pins s I => h.run wh pins s σ H Q I q
theorem _root_.L2.PA.sem {X : Cx} {es : List Expr} {t : TA} (h : PA X es t) {σ H Q} (q : t σ H Q) : semA X es σ H Q := fun pos pins s I => h.run pos pins s σ H Q I q

abbrev MV := Sto → R Sl
abbrev MH := Sto → R Hd
abbrev MHs := Sto → R (List Hd)
abbrev MB := Sto → R Bool
abbrev MA := Sto → R (List D)
section
variable (X : Cx) (T : Tb) (E : EX)
/-- the expression's run is told by m -/
structure SdV (e : Expr) (m : MV) : Prop where
  run : ∀ F α os st σ H Q, Rel X.K T F α os st σ H → Post X.K T F α os σ H E (RV X.K) (m st) Q → semE X e σ H Q
structure SdH (e : Expr) (m : MH) : Prop where
  run : ∀ F α os st σ H Q, Rel X.K T F α os st σ H → Post X.K T F α os σ H E (RH X.K σ) (m st) Q → semE X e σ H Q
structure SdB (e : Expr) (m : MB) : Prop where
  run : ∀ F α os st σ H Q, Rel X.K T F α os st σ H → Post X.K T F α os σ H E RB (m st) Q → semT X e σ H Q
structure SdW (e : Expr) (m : MB) : Prop where
  run : ∀ F α os st σ H Q, Rel X.K T F α os st σ H → Post X.K T F α os σ H E RB (m st) Q → semW X e σ H Q
/-- arguments as values -/
structure SdA (es : List Expr) (m : MA) : Prop where
  run : ∀ F α os st σ H Q, Rel X.K T F α os st σ H → Post X.K T F α os σ H E (RA X.K) (m st) Q → semA X es σ H Q
/-- .. as operands -/
structure SdHs (es : List Expr) (m : MHs) : Prop where
  run : ∀ F α os st σ H Q, Rel X.K T F α os st σ H → Post X.K T F α os σ H E (RHs X.K σ) (m st) Q → semA X es σ H Q
end

section
variable {X : Cx} {T : Tb} {E : EX} {K : PySem.W.Frag} {F F' : AP1} {α α' : List Addr} {os os' : List (List Addr)} {st st' : Sto} {σ : L2.St} {H H' : Hp}
/-- a value looked at -/
theorem rsv_pv {d : D} {v : V} (r : Rel K T F α os st σ H) (h : DV K α (BB F α os) H v d) : PV K α (BB F α os) H v (rsv st.S d) := by
  cases d with
  | obj k =>
    cases h with
    | obj e =>
      cases q : st.S[k]? with
      | none => simp only [rsv, q]; exact .dv (.obj e)
      | some i =>
        cases i with
        | lst xs =>
          simp only [rsv, q]
          obtain ⟨a, e1, vs, e2, hd⟩ := r.so.at' k _ q
          rw [e] at e1
          cases e1
          exact .own e2 hd
        | ins c fs => simp only [rsv, q]; exact .dv (.obj e)
        | dk ks xs => simp only [rsv, q]; exact .dv (.obj e)
        | dt ks xs => simp only [rsv, q]; exact .dv (.obj e)
  | _ => exact .dv h
/-- an operand is used -/
theorem HdOk.at {h : Hd} {v : V} {d : D} (r : Rel K T F α os st σ H) (k : HdOk K σ α (BB F α os) H h v) (e : h.at st = some d) : PV K α (BB F α os) H v d := by
  cases h with
  | val d' =>
    have e' : rsv st.S d' = d := Option.some.inj e
    subst e'
    exact rsv_pv r k
  | slot i =>
    have k' : σ[i]? = some (some v) := k
    cases q : st.ρ[i]? with
    | none => simp [Hd.at, q] at e
    | some x =>
      obtain ⟨s, o, e1, _, hx⟩ := r.sl.at q
      rw [k'] at e1
      cases e1
      cases x with
      | un => simp [Hd.at, q] at e
      | va d' =>
        have e' : rsv st.S d' = d := by simpa [Hd.at, q] using e
        subst e'
        obtain ⟨_, v', e2, hd⟩ := hx
        cases e2
        exact rsv_pv r hd
      | ow xs =>
        have e' : D.lst xs = d := by simpa [Hd.at, q] using e
        subst e'
        obtain ⟨a, vs, _, e2, e3, hd⟩ := hx
        cases e2
        exact .own e3 hd
theorem HdOk.step {h : Hd} {v : V} {B B' : AP1} (s : Stp F α B H α' B' H') (k : HdOk K σ α B H h v) : HdOk K σ α' B' H' h v := by
  cases h with
  | val d => exact DV.step s k
  | slot i => exact k
theorem HdsOk.step {hs : List Hd} {vs : List V} {B B' : AP1} (s : Stp F α B H α' B' H') (k : HdsOk K σ α B H hs vs) : HdsOk K σ α' B' H' hs vs := by
  induction k with
  | nil => exact .nil
  | cons a _ ih => exact .cons (a.step s) ih

/-- behind a first piece, the second -/
theorem Post.bnd {β γ β' γ' : Type} {RR : List Addr → AP1 → Hp → β → γ → List Addr → Prop} {RR' : List Addr → AP1 → Hp → β' → γ' → List Addr → Prop}
    {x : R β} {f : β → Sto → R β'} {Q : γ' → Hp → Prop} {Q1 : γ → Hp → Prop} (h : Post K T F α os σ H E RR' (x.bnd f) Q)
    (k : ∀ r st1 α1 os1 H1 P v, (∀ a ∈ P, ¬ F a) → Stp F α (BB F α os) H α1 (BB (FP F P) α1 os1) H1 → Rel K T (FP F P) α1 os1 st1 σ H1 → RR α1 (BB (FP F P) α1 os1) H1 r v P → x = .ok r st1 →
      Post K T F α os σ H E RR' (f r st1) Q → Q1 v H1) : Post K T F α os σ H E RR x Q1 := by
  cases x with
  | ok r st1 => exact fun α1 os1 H1 P v nf s R1 hv => k r st1 α1 os1 H1 P v nf s R1 hv rfl h
  | er c st1 => exact h
  | no => exact h
/-- told from a later moment -/
theorem Post.later {β γ : Type} {RR : List Addr → AP1 → Hp → β → γ → List Addr → Prop} {x : R β} {Q : γ → Hp → Prop}
    (s : Stp F α (BB F α os) H α' (BB F α' os') H') (h : Post K T F α os σ H E RR x Q) : Post K T F α' os' σ H' E RR x Q := by
  cases x with
  | ok r st1 => exact fun α1 os1 H1 P v nf s1 R1 hv => h α1 os1 H1 P v nf (s.trans s1) R1 hv
  | er c st1 => exact fun α1 os1 H1 s1 R1 => h α1 os1 H1 (s.trans s1) R1
  | no => exact h
/-- told from a moment with a pending list -/
theorem Post.done {β γ : Type} {RR : List Addr → AP1 → Hp → β → γ → List Addr → Prop} {r : β} {v : γ} {Q : γ → Hp → Prop}
    {α' os' H'} {P : List Addr} (h : Post K T F α os σ H E RR (.ok r st') Q) (nf : ∀ a ∈ P, ¬ F a) (s : Stp F α (BB F α os) H α' (BB (FP F P) α' os') H')
    (R1 : Rel K T (FP F P) α' os' st' σ H') (hv : RR α' (BB (FP F P) α' os') H' r v P) : Q v H' := h α' os' H' P v nf s R1 hv
theorem Post.done0 {β γ : Type} {RR : List Addr → AP1 → Hp → β → γ → List Addr → Prop} {r : β} {v : γ} {Q : γ → Hp → Prop}
    {α' os' H'} (h : Post K T F α os σ H E RR (.ok r st') Q) (s : Stp F α (BB F α os) H α' (BB F α' os') H')
    (R1 : Rel K T F α' os' st' σ H') (hv : RR α' (BB F α' os') H' r v []) : Q v H' := by
  refine h α' os' H' [] v (fun a m => nomatch m) ?_ ?_ ?_
  · rw [FP_nil]; exact s
  · rw [FP_nil]; exact R1
  · rw [FP_nil]; exact hv
theorem BB_FP {P : List Addr} : ∀ a, BB F α os a → BB (FP F P) α os a := fun a h => by
  rcases h with h | h
  · exact .inl (.inl h)
  · exact .inr h
/-- a pending list is let go -/
theorem stp_drop {B : AP1} {P : List Addr} (s : Stp F α B H α' (BB (FP F P) α' os') H') : Stp F α B H α' (BB F α' os') H' :=
  s.trans (Stp.weak BB_FP)
theorem Rel.drop {P : List Addr} (r : Rel K T (FP F P) α os st σ H) : Rel K T F α os st σ H := r.lessF fun a h => .inl h
theorem rv_frz {P : List Addr} {r : Sl} {v : V} (nf : ∀ a ∈ P, ¬ F a) (R1 : Rel K T (FP F P) α os st σ H) (h : RV K α (BB (FP F P) α os) H r v P) : DV K α (BB F α os) H v r.d := by
  obtain ⟨h, n⟩ := h
  cases r with
  | un => exact absurd rfl n
  | va d =>
    obtain ⟨_, v', e, hd⟩ := h
    cases e
    exact hd.lessB BB_FP
  | ow xs =>
    obtain ⟨a, vs, eP, e, e3, hd⟩ := h
    cases e
    have hm : a ∈ P := by rw [eP]; exact List.mem_singleton.mpr rfl
    refine .lst (fun z => ?_) e3 (hd.lessB BB_FP)
    rcases z with z | z | z
    · exact nf a hm z
    · exact R1.fr a (.inr hm) z
    · exact (R1.off a z).1 (.inr hm)
end
end Mi

namespace Mi
open PySem PySem.Spec PyProof.Rows L2

/-! ## data as plain data -/
mutual
def toPy : D → PyData
  | .non => .none
  | .bl b => .bool b
  | .int i => .int i
  | .str x => .str x
  | .tup xs => .tuple (toPys xs)
  | .lst xs => .list (toPys xs)
  | .dic k v => .dict [(.int k, .int v)]
  | .dic0 => .dict []
  | .obj _ => .none
  | .scr ns => .list (ns.map .int)
def toPys : List D → List PyData
  | [] => []
  | d :: ds => toPy d :: toPys ds
end
theorem toPys_map : ∀ ds : List D, toPys ds = ds.map toPy
  | [] => rfl
  | d :: ds => by rw [toPys, toPys_map ds]; rfl
/-- may be compared: no instance, no dict, not too deep -/
def okF : Nat → D → Bool
  | 0, _ => false
  | n + 1, d => match d with
    | .non => true
    | .bl _ => true
    | .int _ => true
    | .str x => PyData.strOk x
    | .tup xs => xs.all (okF n)
    | .lst xs => xs.all (okF n)
    | .dic _ _ => false
    | .dic0 => false
    | .obj _ => false
    | .scr _ => false
theorem okF_depth : ∀ (n : Nat) (d : D), okF n d = true → (toPy d).canLay0 = true ∧ (toPy d).depth ≤ n
  | 0, _, h => by simp [okF] at h
  | n + 1, d, h => by
    have all : ∀ xs : List D, xs.all (okF n) = true → PyData.canLayAll0 (toPys xs) = true ∧ PyData.depthAll (toPys xs) ≤ n := by
      intro xs
      induction xs with
      | nil => exact fun _ => ⟨rfl, Nat.zero_le _⟩
      | cons x xs ih =>
        intro h
        rw [List.all_cons, Bool.and_eq_true] at h
        obtain ⟨h1, h2⟩ := okF_depth n x h.1
        obtain ⟨h3, h4⟩ := ih h.2
        refine ⟨?_, ?_⟩
        · simp only [toPys, PyData.canLayAll0, h1, h3, Bool.and_self]
        · simp only [toPys, PyData.depthAll]; omega
    cases d with
    | non => exact ⟨rfl, Nat.zero_le _⟩
    | bl _ => exact ⟨rfl, Nat.zero_le _⟩
    | int _ => exact ⟨rfl, Nat.zero_le _⟩
    | str x => exact ⟨by simpa [okF, toPy, PyData.canLay0] using h, Nat.zero_le _⟩
    | tup xs =>
      obtain ⟨h1, h2⟩ := all xs h
      exact ⟨by simpa [toPy, PyData.canLay0] using h1, by simp only [toPy, PyData.depth]; omega⟩
    | lst xs =>
      obtain ⟨h1, h2⟩ := all xs h
      exact ⟨by simpa [toPy, PyData.canLay0] using h1, by simp only [toPy, PyData.depth]; omega⟩
    | dic _ _ => simp [okF] at h
    | dic0 => simp [okF] at h
    | obj _ => simp [okF] at h
    | scr _ => simp [okF] at h
theorem okF_shaped {n : Nat} {d : D} (hn : n ≤ 60) (h : okF n d = true) : SeqAt.shaped (toPy d) = true := by
  obtain ⟨h1, h2⟩ := okF_depth n d h
  unfold SeqAt.shaped
  rw [h1, Bool.true_and]
  exact decide_eq_true (by omega)

section
variable {K : PySem.W.Frag} {α : List Addr} {B : AP1} {H : Hp}
mutual
theorem DV.dp : ∀ {n : Nat} {v : V} {d : D}, okF n d = true → DV K α B H v d → Dp K H v (toPy d)
  | _, _, _, _, .non => .non
  | _, _, _, _, .bl b => .bl b
  | _, _, _, _, .int i => .int i
  | _, _, _, _, .str x => .str x
  | 0, _, _, o, .lst _ _ _ => by simp [okF] at o
  | n + 1, _, _, o, .lst _ r t => .lst (.inl (.inl r)) (DVs.dp (n := n) o t)
  | 0, _, _, o, .tup _ _ _ => by simp [okF] at o
  | n + 1, _, _, o, .tup _ r t => .tup (.inl r) (DVs.dp (n := n) o t)
  | 0, _, _, o, .tupK _ _ => by simp [okF] at o
  | n + 1, _, _, o, .tupK r t => .tup (.inr r) (DVs.dp (n := n) o t)
  | 0, _, _, o, .scr _ _ => by simp [okF] at o
  | n + 1, _, _, o, .scr _ _ => by simp [okF] at o
  | 0, _, _, o, .scrK _ => by simp [okF] at o
  | n + 1, _, _, o, .scrK _ => by simp [okF] at o
  | 0, _, _, o, .dic _ _ => by simp [okF] at o
  | n + 1, _, _, o, .dic _ _ => by simp [okF] at o
  | 0, _, _, o, .dic0 _ _ => by simp [okF] at o
  | n + 1, _, _, o, .dic0 _ _ => by simp [okF] at o
  | 0, _, _, o, .obj _ => by simp [okF] at o
  | n + 1, _, _, o, .obj _ => by simp [okF] at o
theorem DVs.dp : ∀ {n : Nat} {vs : List V} {ds : List D}, ds.all (okF n) = true → DVs K α B H vs ds → DpAll K H vs (toPys ds)
  | _, _, _, _, .nil => .nil
  | n, _, _, o, .cons h t => by
    rw [List.all_cons, Bool.and_eq_true] at o
    exact .cons (DV.dp o.1 h) (DVs.dp o.2 t)
end
theorem PV.dp {n : Nat} {v : V} {d : D} (o : okF n d = true) (h : PV K α B H v d) : Dp K H v (toPy d) := by
  cases h with
  | dv h => exact h.dp o
  | own e t =>
    cases n with
    | zero => simp [okF] at o
    | succ n => exact .lst (.inl (.inl e)) (DVs.dp (n := n) o t)
end

/-! ## operators by values -/
/-- what an operator's rule may use of what follows -/
def Want (K : PySem.W.Frag) (α : List Addr) (B : AP1) (H : Hp) : Sl → VK → Prop
  | .un, _ => True
  | .va d, Q => (∀ v, DV K α B H v d → Q v H) ∧ (∀ ds vs, d = .tup ds → DVs K α B H vs ds → ∀ p, H p = none → Q (.ref p) (upd H p (.tup vs)))
  | .ow ds, Q => ∀ vs, DVs K α B H vs ds → ∀ p, H p = none → Q (.ref p) (upd H p (.lst vs))
section
variable {X : Cx} {T : Tb} {E : EX} {K : PySem.W.Frag} {F F' : AP1} {α α' : List Addr} {os os' : List (List Addr)} {st st' : Sto} {σ : L2.St} {H H' : Hp}
theorem want_post {r : Sl} {Q : VK} (R1 : Rel K T F α os st σ H) (h : Post K T F α os σ H E (RV K) (.ok r st) Q) : Want K α (BB F α os) H r Q := by
  cases r with
  | un => trivial
  | va d =>
    refine ⟨fun v hv => h.done0 Stp.refl R1 ⟨⟨rfl, v, rfl, hv⟩, nofun⟩, ?_⟩
    rintro ds vs rfl hd p np
    refine h.done0 (stp_new np) (R1.new np) ⟨⟨rfl, _, rfl, .tup (fun z => R1.bThere p z np) (.inl upd_same) (hd.step (stp_new (F := F) np))⟩, nofun⟩
  | ow ds =>
    intro vs hd p np
    refine h.done (P := [p]) (fun a m z => ?_) (stp_newP np) (R1.newP np) ⟨⟨p, vs, rfl, rfl, upd_same, hd.step (stp_newP (F := F) np)⟩, nofun⟩
    rw [List.mem_singleton.mp m] at z
    exact R1.has p z np
end
structure OpD (X : Cx) (f : Value → Value → Sem Value) (g : D → D → Option Sl) : Prop where
  ex : ∃ r, OpR X f r ∧ ∀ (α : List Addr) (B : AP1) (H : Hp) (x y : V) (d e : D) (res : Sl), PV X.K α B H x d → PV X.K α B H y e → g d e = some res → res ≠ .un →
    ∀ Q, Want X.K α B H res Q → r x y H Q
structure UnD (X : Cx) (f : Value → Sem Value) (g : D → Option Sl) : Prop where
  ex : ∃ r, UnR X f r ∧ ∀ (α : List Addr) (B : AP1) (H : Hp) (x : V) (d : D) (res : Sl), PV X.K α B H x d → g d = some res → res ≠ .un →
    ∀ Q, Want X.K α B H res Q → r x H Q
/-- the value of an option -/
def opt (x : Option Sl) (st : Sto) : R Sl :=
  match x with
  | some .un => .no
  | some r => .ok r st
  | none => .no
theorem opt_ok {x : Option Sl} {st : Sto} {r : Sl} {st' : Sto} (h : opt x st = .ok r st') : x = some r ∧ r ≠ .un ∧ st' = st := by
  cases x with
  | none => cases h
  | some s =>
    cases s with
    | un => cases h
    | va d => cases h; exact ⟨rfl, (fun z => by cases z), rfl⟩
    | ow xs => cases h; exact ⟨rfl, (fun z => by cases z), rfl⟩
def mBin (g : D → D → Option Sl) (ma mb : MH) : MV := fun st => (ma st).bnd fun h1 st1 => (mb st1).bnd fun h2 st2 =>
  match h1.at st2, h2.at st2 with
  | some d, some e => opt (g d e) st2
  | _, _ => .no
def mUn (g : D → Option Sl) (ma : MH) : MV := fun st => (ma st).bnd fun h1 st1 =>
  match h1.at st1 with
  | some d => opt (g d) st1
  | _ => .no

section
variable {X : Cx} {T : Tb} {E : EX} {a b : Expr} {ma mb : MH} {pos : Pos}
/-- two operands, one behind the other -/
theorem two_op {F : AP1} {α : List Addr} {os : List (List Addr)} {st : Sto} {σ : L2.St} {H : Hp} {Q : VK} {g : D → D → Option Sl} {r : R2} {ea eb : Expr}
    (ha : SdH X T E ea ma) (hb : SdH X T E eb mb)
    (hr : ∀ (α : List Addr) (B : AP1) (H : Hp) (x y : V) (d e : D) (res : Sl), PV X.K α B H x d → PV X.K α B H y e → g d e = some res → res ≠ .un → ∀ Q, Want X.K α B H res Q → r x y H Q)
    (R0 : Rel X.K T F α os st σ H) (P : Post X.K T F α os σ H E (RV X.K) (mBin g ma mb st) Q) :
    semE X ea σ H fun x H1 => semE X eb σ H1 fun y H2 => r x y H2 Q := by
  refine ha.run F α os st σ H _ R0 (P.bnd fun h1 st1 α1 os1 H1 P1 v nf s1 R1 hv e1 P => ?_)
  obtain ⟨rfl, k1⟩ := hv
  rw [FP_nil] at s1 R1 k1
  refine hb.run F α1 os1 st1 σ H1 _ R1 ((P.later s1).bnd fun h2 st2 α2 os2 H2 P2 w nf2 s2 R2 hw e2 P => ?_)
  obtain ⟨rfl, k2⟩ := hw
  rw [FP_nil] at s2 R2 k2
  have k1 := k1.step s2
  cases q1 : h1.at st2 with
  | none => simp only [q1] at P; exact P.elim
  | some d =>
    cases q2 : h2.at st2 with
    | none => simp only [q1, q2] at P; exact P.elim
    | some e =>
      simp only [q1, q2] at P
      cases q3 : opt (g d e) st2 with
      | no => rw [q3] at P; exact P.elim
      | er c z => unfold opt at q3; split at q3 <;> cases q3
      | ok res z =>
        obtain ⟨g1, g2, rfl⟩ := opt_ok q3
        rw [q3] at P
        exact hr _ _ _ _ _ _ _ _ (k1.at R2 q1) (k2.at R2 q2) g1 g2 _ (want_post R2 (P.later s2))
theorem sd_bin {op : Operator} {g : D → D → Option Sl} (o : OpD X (binaryOp op) g) (ha : SdH X T E a ma) (hb : SdH X T E b mb) : SdV X T E (.BinOp a op b pos) (mBin g ma mb) := by
  obtain ⟨r, ho, hr⟩ := o.ex
  exact ⟨fun F α os st σ H Q R0 P => (pe_op ho pe_sem pe_sem).sem (two_op ha hb hr R0 P)⟩
theorem sd_cmp {op : CmpOp} {g : D → D → Option Sl} (o : OpD X (compareOp op) g) (ha : SdH X T E a ma) (hb : SdH X T E b mb) (hm : behindInMarks op b = false := by first | exact nobehind _ (by decide) (by decide) | rfl) : SdV X T E (.Compare a [op] [b] pos) (mBin g ma mb) := by
  obtain ⟨r, ho, hr⟩ := o.ex
  exact ⟨fun F α os st σ H Q R0 P => (pe_cmpR ho pe_sem pe_sem hm).sem (two_op ha hb hr R0 P)⟩
theorem sd_un {op : UnaryOp} {g : D → Option Sl} (o : UnD X (unaryOp op) g) (ha : SdH X T E a ma) : SdV X T E (.UnaryOp op a pos) (mUn g ma) := by
  obtain ⟨r, ho, hr⟩ := o.ex
  refine ⟨fun F α os st σ H Q R0 P => (pe_un ho pe_sem).sem ?_⟩
  refine ha.run F α os st σ H _ R0 (P.bnd fun h1 st1 α1 os1 H1 P1 v nf s1 R1 hv e1 P => ?_)
  obtain ⟨rfl, k1⟩ := hv
  rw [FP_nil] at s1 R1 k1
  cases q1 : h1.at st1 with
  | none => simp only [q1] at P; exact P.elim
  | some d =>
    simp only [q1] at P
    cases q3 : opt (g d) st1 with
    | no => rw [q3] at P; exact P.elim
    | er c z => unfold opt at q3; split at q3 <;> cases q3
    | ok res z =>
      obtain ⟨g1, g2, rfl⟩ := opt_ok q3
      rw [q3] at P
      exact hr _ _ _ _ _ _ (k1.at R1 q1) g1 g2 _ (want_post R1 (P.later s1))
end
end Mi

namespace Mi
open PySem PySem.Spec PyProof.Rows L2
theorem tuple_mul1 (l : Addr) (items : Array Value) (n : Nat) (dd : Option Addr) (sl : Array (Option Value)) (u : Tok) :
    Meets (Builtin.«tuple.__mul__» ⟨[.ref l, .int 1 u], []⟩) (fun _ R s => s.heap.get? l = some { cls := .type "tuple", dict := dd, data := .seq items n, slots := sl } ∧
      R (.ok (.ret (Value.ref l))) s) :=
  .of_wp fun prog w A R s h => by
    obtain ⟨hp, g, d, tk, os⟩ := s
    obtain ⟨hl, h⟩ := h
    have f1 := AutoSeq1.idx_int
    wp_walk using wpAny_loadPart' hl
    exact ⟨_, rfl, h⟩
theorem op_rep1 {X : Cx} : OpR X (binaryOp .Mult) (fun x y H Q => ∃ a xs, x = V.ref a ∧ y = V.int 1 ∧ SqT X.K H a xs ∧ Q x H) := by
  intro pins s σ H x y v u Q I rx ry h
  obtain ⟨l, xs, rfl, rfl, hT, q⟩ := h
  cases rx
  obtain ⟨t, rfl⟩ := ry
  obtain ⟨its, r, ⟨⟨cls, dd, data, sl⟩, ho, hc, n, hd⟩, hs⟩ := I.tuple hT
  simp only at hc hd
  subst hc hd
  refine wpAny_binaryOp_repeat_ref (T := "tuple") (U := "int") (by decide) ⟨_, ho, rfl⟩ (fun s' => typeIs_int s' 1 t) noFill_tuple_mul F.fills_int_mul F.slot_int_rmul repeat_tuple F.slot_int_index.lookup
    (call_meets F.slot_int_rmul (typeIs_int s 1 t) F.entry_int_rmul (F.args_int_rmul_2 _ _) (int_rmul_tuple 1 t l its.toArray n dd sl)
      ⟨ho, rfl, ⟨_, ho, rfl⟩, call_meets F.slot_tuple_mul ⟨_, ho, rfl⟩ F.entry_tuple_mul (F.args_tuple_mul_2 _ _) (tuple_mul1 l its.toArray n dd sl t) ⟨ho, ?_⟩⟩)
  exact ⟨.ref l, H, I, rfl, q⟩

/-- x in a tuple of data -/
def rInT (K : PySem.W.Frag) (neg : Bool) : R2 := fun x y H Q => ∃ d ds, Dp K H x d ∧ Dp K H y (.tuple ds) ∧ SeqAt.shaped d = true ∧ SeqAt.shaped (.tuple ds) = true ∧
  Q (.bl (if neg then !ds.any fun z => PyData.eqv z d else ds.any fun z => PyData.eqv z d)) H
theorem op_inT {X : Cx} (hu : X.A.units + 65 < cLine) : OpR X (compareOp .In) (rInT X.K false) := by
  intro pins s σ H x y v u Q I rx ry h
  obtain ⟨d, ds, hd, he, sd, se, q⟩ := h
  obtain ⟨as, r1⟩ := Dp.reads I d x v hd rx
  obtain ⟨bs, r2⟩ := Dp.reads I (.tuple ds) y u he ry
  exact SeqAt.in_tuple_reads r2 r1 (SeqAt.canLay_of_shaped se) (SeqAt.canLay_of_shaped sd) (room_in_shaped sd hu) ⟨.bl _, H, I, rfl, q⟩
theorem op_notInT {X : Cx} (hu : X.A.units + 65 < cLine) : OpR X (compareOp .NotIn) (rInT X.K true) := by
  intro pins s σ H x y v u Q I rx ry h
  obtain ⟨d, ds, hd, he, sd, se, q⟩ := h
  obtain ⟨as, r1⟩ := Dp.reads I d x v hd rx
  obtain ⟨bs, r2⟩ := Dp.reads I (.tuple ds) y u he ry
  exact SeqAt.notIn_tuple_reads r2 r1 (SeqAt.canLay_of_shaped se) (SeqAt.canLay_of_shaped sd) (room_in_shaped sd hu) ⟨.bl _, H, I, rfl, q⟩
end Mi

set_option exponentiation.threshold 100000
namespace Mi
open PySem PySem.Spec PyProof.Rows L2

def LIM : Nat := 1000000
theorem lim_ok : LIM ≤ sizeLine := by rw [sizeLine_eq]; decide
def BIG : Nat := 2 ^ 40000
def mulOk (i j : Int) : Bool := (decide (i.natAbs < 2 ^ 60)) || (decide (j.natAbs < 2 ^ 60)) || (decide (i.natAbs < BIG) && decide (j.natAbs < BIG))

def gAdd : D → D → Option Sl
  | .int i, .int j => some (.va (.int (i + j)))
  | .str x, .str y => if x.length + y.length ≤ LIM then some (.va (.str (x ++ y))) else none
  | .lst xs, .lst ys => if xs.length + ys.length ≤ LIM then some (.ow (xs ++ ys)) else none
  | .tup xs, .tup ys => if xs.length + ys.length ≤ LIM then some (.va (.tup (xs ++ ys))) else none
  | _, _ => none
def gSub : D → D → Option Sl
  | .int i, .int j => some (.va (.int (i - j)))
  | _, _ => none
def gMul : D → D → Option Sl
  | .int i, .int j => if mulOk i j then some (.va (.int (i * j))) else none
  | .lst xs, .int k => if k ≤ LIM ∧ -1000 ≤ k ∧ xs.length * k.toNat ≤ LIM then some (.ow (List.replicate k.toNat xs).flatten) else none
  | .tup (x :: xs), .int k =>
    if k = 1 then some (.va (.tup (x :: xs)))
    else if 2 ≤ k ∧ k ≤ 1000 ∧ xs.length < 1000 then some (.va (.tup (List.replicate k.toNat (x :: xs)).flatten)) else none
  | _, _ => none
def gDiv : D → D → Option Sl
  | .int i, .int j => if 0 < j ∧ j.natAbs < 2 ^ 8000 then some (.va (.int (i / j))) else none
  | _, _ => none
def gMod : D → D → Option Sl
  | .int i, .int j => if 0 < j then some (.va (.int (i % j))) else none
  | _, _ => none
def gPow : D → D → Option Sl
  | .int i, .int j => if 0 ≤ j ∧ j ≤ 1000000 ∧ i.natAbs < 2 ^ 64 then some (.va (.int (i ^ j.toNat))) else none
  | _, _ => none
def gCmp (p : Int → Int → Bool) : D → D → Option Sl
  | .int i, .int j => some (.va (.bl (p i j)))
  | _, _ => none
def gLt := gCmp fun i j => decide (i < j)
def gLe := gCmp fun i j => decide (i ≤ j)
def gGt := gCmp fun i j => decide (j < i)
def gGe := gCmp fun i j => decide (j ≤ i)
def gEq (d e : D) : Option Sl := if okF 40 d && okF 40 e then some (.va (.bl (PyData.eqv (toPy d) (toPy e)))) else none
def gNe (d e : D) : Option Sl := if okF 40 d && okF 40 e then some (.va (.bl (!PyData.eqv (toPy d) (toPy e)))) else none
def memD (d : D) (ds : List D) : Bool := ds.any fun z => PyData.eqv (toPy z) (toPy d)
def memI (d : D) (ds : List D) : Option Bool :=
  if okF 40 d && ds.all (okF 38) then some (memD d ds) else none
def gIn : D → D → Option Sl
  | d, .lst ds => (memI d ds).map fun b => .va (.bl b)
  | d, .tup ds => (memI d ds).map fun b => .va (.bl b)
  | _, _ => none
def gNotIn : D → D → Option Sl
  | d, .lst ds => (memI d ds).map fun b => .va (.bl (!b))
  | d, .tup ds => (memI d ds).map fun b => .va (.bl (!b))
  | _, _ => none
def gIs : D → D → Option Sl
  | .bl a, .bl b => some (.va (.bl (decide (a = b))))
  | _, _ => none
def gIsNot : D → D → Option Sl
  | .bl a, .bl b => some (.va (.bl (!decide (a = b))))
  | _, _ => none
def gNeg : D → Option Sl
  | .int i => some (.va (.int (-i)))
  | _ => none

section
variable {X : Cx}
theorem big_log {i : Int} (h : i.natAbs < BIG) : i.natAbs.log2 < 400001 := by
  by_cases z : i.natAbs = 0
  · rw [z]; decide
  · have := (Nat.log2_lt z).mpr (show i.natAbs < 2 ^ 40000 from h); omega
theorem od_add : OpD X (binaryOp .Add) gAdd := by
  refine ⟨_, OpR.or op_add (OpR.or op_add_str (OpR.or op_cat op_catA)), ?_⟩
  intro α B H x y d e res h1 h2 g nu Q w
  unfold gAdd at g
  split at g
  · cases g
    obtain rfl := h1.int
    obtain rfl := h2.int
    exact .inl ⟨_, _, rfl, rfl, w.1 _ (.int _)⟩
  · split at g
    · rename_i c
      cases g
      obtain rfl := h1.str
      obtain rfl := h2.str
      exact .inr (.inl ⟨_, _, rfl, rfl, Nat.le_trans c lim_ok, w.1 _ (.str _)⟩)
    · cases g
  · split at g
    · rename_i c
      cases g
      obtain ⟨a, vs, rfl, e1, hd1⟩ := h1.lst
      obtain ⟨b, ws, rfl, e2, hd2⟩ := h2.lst
      refine .inr (.inr (.inl ⟨a, b, vs, ws, rfl, rfl, e1, e2, ?_, w _ (hd1.app hd2)⟩))
      have := hd1.length; have := hd2.length; have := lim_ok; omega
    · cases g
  · split at g
    · rename_i c
      cases g
      obtain ⟨a, vs, rfl, e1, hd1, dv1⟩ := h1.tup
      obtain ⟨b, ws, rfl, e2, hd2, dv2⟩ := h2.tup
      have l1 := hd1.length; have l2 := hd2.length; have := lim_ok
      refine .inr (.inr (.inr ⟨a, b, vs, ws, rfl, rfl, e1, e2, by omega, fun z => ?_, fun _ z => ?_, fun _ _ p np => w.2 _ _ rfl (hd1.app hd2) p np⟩))
      · subst z
        cases hd1
        exact w.1 _ dv2
      · subst z
        cases hd2
        refine w.1 _ ?_
        rw [List.append_nil]; exact dv1
    · cases g
  · cases g
theorem od_sub : OpD X (binaryOp .Sub) gSub := by
  refine ⟨_, op_sub, ?_⟩
  intro α B H x y d e res h1 h2 g nu Q w
  unfold gSub at g
  split at g
  · cases g
    obtain rfl := h1.int
    obtain rfl := h2.int
    exact ⟨_, _, rfl, rfl, w.1 _ (.int _)⟩
  · cases g
theorem lt60 {i : Int} (h : i.natAbs < 2 ^ 60) : -(2 ^ 64) < i ∧ i < 2 ^ 64 := by omega
theorem od_mul : OpD X (binaryOp .Mult) gMul := by
  refine ⟨_, OpR.or (OpR.or op_mul op_mulW) (OpR.or op_rep (OpR.or op_repT op_rep1)), ?_⟩
  intro α B H x y d e res h1 h2 g nu Q w
  unfold gMul at g
  split at g
  · split at g
    · rename_i c
      cases g
      obtain rfl := h1.int
      obtain rfl := h2.int
      unfold mulOk at c
      rw [Bool.or_eq_true, Bool.or_eq_true, Bool.and_eq_true] at c
      rcases c with (c | c) | ⟨c, c'⟩
      · exact .inl (.inl ⟨_, _, rfl, rfl, .inl (lt60 (of_decide_eq_true c)), w.1 _ (.int _)⟩)
      · exact .inl (.inl ⟨_, _, rfl, rfl, .inr (lt60 (of_decide_eq_true c)), w.1 _ (.int _)⟩)
      · refine .inl (.inr ⟨_, _, rfl, rfl, ?_, w.1 _ (.int _)⟩)
        have := big_log (of_decide_eq_true c); have := big_log (of_decide_eq_true c')
        show _ + _ < _
        omega
    · cases g
  · split at g
    · rename_i c
      cases g
      obtain ⟨a, vs, rfl, e1, hd1⟩ := h1.lst
      obtain rfl := h2.int
      obtain ⟨c1, c2, c3⟩ := c
      have hl := hd1.length
      refine .inr (.inl ⟨a, _, vs, rfl, rfl, e1, by omega, ?_, ?_, w _ (hd1.flat _)⟩)
      · have : (LIM : Int) < 2 ^ 63 := by decide
        omega
      · rw [hl]; exact Nat.le_trans c3 lim_ok
    · cases g
  · split at g
    · rename_i c
      subst c
      cases g
      obtain ⟨a, vs, rfl, e1, hd1, dv⟩ := h1.tup
      obtain rfl := h2.int
      exact .inr (.inr (.inr ⟨a, vs, rfl, rfl, e1, w.1 _ dv⟩))
    · split at g
      · rename_i c
        cases g
        obtain ⟨a, vs, rfl, e1, hd1, dv⟩ := h1.tup
        obtain rfl := h2.int
        obtain ⟨c1, c2, c3⟩ := c
        have hl := hd1.length
        rw [List.length_cons] at hl
        refine .inr (.inr (.inl ⟨a, _, vs, rfl, rfl, e1, fun z => ?_, c1, c2, by omega, w.2 _ _ rfl (hd1.flat _)⟩))
        subst z; simp at hl
      · cases g
  · cases g
theorem od_div : OpD X (binaryOp .FloorDiv) gDiv := by
  refine ⟨_, op_fdivW, ?_⟩
  intro α B H x y d e res h1 h2 g nu Q w
  unfold gDiv at g
  split at g
  · split at g
    · rename_i c
      cases g
      obtain rfl := h1.int
      obtain rfl := h2.int
      refine ⟨_, _, rfl, rfl, ⟨c.1, ?_⟩, w.1 _ (.int _)⟩
      have := (Nat.log2_lt (show _ ≠ 0 by omega)).mpr c.2
      omega
    · cases g
  · cases g
theorem od_mod : OpD X (binaryOp .Mod) gMod := by
  refine ⟨_, op_mod, ?_⟩
  intro α B H x y d e res h1 h2 g nu Q w
  unfold gMod at g
  split at g
  · split at g
    · rename_i c
      cases g
      obtain rfl := h1.int
      obtain rfl := h2.int
      exact ⟨_, _, rfl, rfl, c, w.1 _ (.int _)⟩
    · cases g
  · cases g
theorem od_pow : OpD X (binaryOp .Pow) gPow := by
  refine ⟨_, op_pow, ?_⟩
  intro α B H x y d e res h1 h2 g nu Q w
  unfold gPow at g
  split at g
  · split at g
    · rename_i c
      cases g
      obtain rfl := h1.int
      obtain rfl := h2.int
      exact ⟨_, _, rfl, rfl, c, w.1 _ (.int _)⟩
    · cases g
  · cases g
theorem od_cmp {op : CmpOp} {p : Int → Int → Bool} (h : OpR X (compareOp op) (rI0 fun i j => .bl (p i j))) : OpD X (compareOp op) (gCmp p) := by
  refine ⟨_, h, ?_⟩
  intro α B H x y d e res h1 h2 g nu Q w
  unfold gCmp at g
  split at g
  · cases g
    obtain rfl := h1.int
    obtain rfl := h2.int
    exact ⟨_, _, rfl, rfl, w.1 _ (.bl _)⟩
  · cases g
theorem od_lt : OpD X (compareOp .Lt) gLt := od_cmp op_lt
theorem od_le : OpD X (compareOp .LtE) gLe := od_cmp op_le
theorem od_gt : OpD X (compareOp .Gt) gGt := od_cmp op_gt
theorem od_ge : OpD X (compareOp .GtE) gGe := od_cmp op_ge
theorem od_eq (hu : X.A.units + 64 < cLine) : OpD X (compareOp .Eq) gEq := by
  refine ⟨_, op_eqD hu, ?_⟩
  intro α B H x y d e res h1 h2 g nu Q w
  unfold gEq at g
  split at g
  · rename_i c
    cases g
    rw [Bool.and_eq_true] at c
    exact ⟨_, _, h1.dp c.1, h2.dp c.2, okF_shaped (by decide) c.1, okF_shaped (by decide) c.2, w.1 _ (.bl _)⟩
  · cases g
theorem od_ne (hu : X.A.units + 64 < cLine) : OpD X (compareOp .NotEq) gNe := by
  refine ⟨_, op_neD hu, ?_⟩
  intro α B H x y d e res h1 h2 g nu Q w
  unfold gNe at g
  split at g
  · rename_i c
    cases g
    rw [Bool.and_eq_true] at c
    exact ⟨_, _, h1.dp c.1, h2.dp c.2, okF_shaped (by decide) c.1, okF_shaped (by decide) c.2, w.1 _ (.bl _)⟩
  · cases g
theorem od_is : OpD X (compareOp .Is) gIs := by
  refine ⟨_, op_isBl, ?_⟩
  intro α B H x y d e res h1 h2 g nu Q w
  unfold gIs at g
  split at g
  · cases g
    obtain rfl := h1.bl
    obtain rfl := h2.bl
    exact ⟨_, _, rfl, rfl, w.1 _ (.bl _)⟩
  · cases g
theorem od_isNot : OpD X (compareOp .IsNot) gIsNot := by
  refine ⟨_, op_notBl, ?_⟩
  intro α B H x y d e res h1 h2 g nu Q w
  unfold gIsNot at g
  split at g
  · cases g
    obtain rfl := h1.bl
    obtain rfl := h2.bl
    exact ⟨_, _, rfl, rfl, w.1 _ (.bl _)⟩
  · cases g
theorem memI_some {d : D} {ds : List D} {b : Bool} (h : memI d ds = some b) : okF 40 d = true ∧ ds.all (okF 38) = true ∧ b = memD d ds := by
  unfold memI at h
  split at h
  · rename_i c
    rw [Bool.and_eq_true] at c
    exact ⟨c.1, c.2, (Option.some.inj h).symm⟩
  · cases h
theorem memD_py {d : D} {ds : List D} : ((toPys ds).any fun z => PyData.eqv z (toPy d)) = memD d ds := by
  rw [toPys_map, List.any_map]; rfl
theorem od_in (hu : X.A.units + 65 < cLine) : OpD X (compareOp .In) gIn := by
  refine ⟨_, OpR.or (op_inD hu) (op_inT hu), ?_⟩
  intro α B H x y d e res h1 h2 g nu Q w
  unfold gIn at g
  split at g
  · rename_i ds
    cases q : memI d ds with
    | none => rw [q] at g; cases g
    | some b =>
      rw [q] at g; cases g
      obtain ⟨o1, o2, rfl⟩ := memI_some q
      have o3 : okF 39 (.lst ds) = true := o2
      refine .inl ⟨_, toPys ds, h1.dp o1, h2.dp o3, okF_shaped (by decide) o1, okF_shaped (by decide) o3, ?_⟩
      rw [memD_py]; exact w.1 _ (.bl _)
  · rename_i ds
    cases q : memI d ds with
    | none => rw [q] at g; cases g
    | some b =>
      rw [q] at g; cases g
      obtain ⟨o1, o2, rfl⟩ := memI_some q
      have o3 : okF 39 (.tup ds) = true := o2
      refine .inr ⟨_, toPys ds, h1.dp o1, h2.dp o3, okF_shaped (by decide) o1, okF_shaped (by decide) o3, ?_⟩
      rw [if_neg (by decide), memD_py]; exact w.1 _ (.bl _)
  · cases g
theorem od_notIn (hu : X.A.units + 65 < cLine) : OpD X (compareOp .NotIn) gNotIn := by
  refine ⟨_, OpR.or (op_notInD hu) (op_notInT hu), ?_⟩
  intro α B H x y d e res h1 h2 g nu Q w
  unfold gNotIn at g
  split at g
  · rename_i ds
    cases q : memI d ds with
    | none => rw [q] at g; cases g
    | some b =>
      rw [q] at g; cases g
      obtain ⟨o1, o2, rfl⟩ := memI_some q
      have o3 : okF 39 (.lst ds) = true := o2
      refine .inl ⟨_, toPys ds, h1.dp o1, h2.dp o3, okF_shaped (by decide) o1, okF_shaped (by decide) o3, ?_⟩
      rw [memD_py]; exact w.1 _ (.bl _)
  · rename_i ds
    cases q : memI d ds with
    | none => rw [q] at g; cases g
    | some b =>
      rw [q] at g; cases g
      obtain ⟨o1, o2, rfl⟩ := memI_some q
      have o3 : okF 39 (.tup ds) = true := o2
      refine .inr ⟨_, toPys ds, h1.dp o1, h2.dp o3, okF_shaped (by decide) o1, okF_shaped (by decide) o3, ?_⟩
      rw [if_pos rfl, memD_py]; exact w.1 _ (.bl _)
  · cases g
theorem ud_neg : UnD X (unaryOp .USub) gNeg := by
  refine ⟨_, un_neg, ?_⟩
  intro α B H x d res h1 g nu Q w
  unfold gNeg at g
  split at g
  · cases g
    obtain rfl := h1.int
    exact ⟨_, rfl, w.1 _ (.int _)⟩
  · cases g
end
end Mi

namespace Mi
open PySem PySem.Spec PyProof.Rows L2

section
variable {X : Cx} {T : Tb} {E : EX} {a b c : Expr} {pos : Pos}

/-! ## names, constants -/
def mNm (i : Nat) : MH := fun st => match st.ρ[i]? with
  | some (.va _) => .ok (.slot i) st
  | some (.ow _) => .ok (.slot i) st
  | _ => .no
theorem Rel.var {K : PySem.W.Frag} {F : AP1} {α : List Addr} {os : List (List Addr)} {st : Sto} {σ : L2.St} {H : Hp} {i : Nat} {x : Sl}
    (R0 : Rel K T F α os st σ H) (e : st.ρ[i]? = some x) (n : x ≠ .un) : ∃ v, σ[i]? = some (some v) := by
  obtain ⟨s, o, e1, _, hx⟩ := R0.sl.at e
  cases x with
  | un => exact absurd rfl n
  | va d => obtain ⟨_, v, e2, _⟩ := hx; exact ⟨v, by rw [e1, e2]⟩
  | ow xs => obtain ⟨a, vs, _, e2, _⟩ := hx; exact ⟨_, by rw [e1, e2]⟩
theorem sd_nm {i : Nat} (h : PE X a (tVar i)) : SdH X T E a (mNm i) := by
  refine ⟨fun F α os st σ H Q R0 P => h.sem ?_⟩
  cases q : st.ρ[i]? with
  | none => simp only [mNm, q] at P; exact P.elim
  | some x =>
    have n : x ≠ .un := fun z => by subst z; simp only [mNm, q] at P; exact P
    obtain ⟨v, hv⟩ := R0.var q n
    have P' : Post X.K T F α os σ H E (RH X.K σ) (.ok (.slot i) st) Q := by
      cases x with
      | un => exact absurd rfl n
      | va d => simpa only [mNm, q] using P
      | ow xs => simpa only [mNm, q] using P
    exact ⟨v, hv, P'.done0 Stp.refl R0 ⟨rfl, hv⟩⟩
/-- a name's value for good: a list of one's own is let go -/
def frzS (st : Sto) (i : Nat) : Sto := match st.ρ[i]? with
  | some (.ow xs) => { st with ρ := st.ρ.set i (.va (.lst xs)) }
  | _ => st
def mNv (i : Nat) : MV := fun st => match st.ρ[i]? with
  | some (.va d) => .ok (.va d) st
  | some (.ow xs) => .ok (.va (.lst xs)) { st with ρ := st.ρ.set i (.va (.lst xs)) }
  | _ => .no
theorem set_same {α : Type} : ∀ {l : List α} {i : Nat} {x : α}, l[i]? = some x → l.set i x = l
  | [], _, _, h => by simp at h
  | _ :: _, 0, _, h => by rw [List.getElem?_cons_zero] at h; cases h; rfl
  | _ :: l, i + 1, _, h => by rw [List.getElem?_cons_succ] at h; rw [List.set_cons_succ, set_same h]
theorem Rel.frz {K : PySem.W.Frag} {F : AP1} {α : List Addr} {os : List (List Addr)} {st : Sto} {σ : L2.St} {H : Hp} {i : Nat} {xs : List D}
    (R0 : Rel K T F α os st σ H) (e : st.ρ[i]? = some (.ow xs)) :
    ∃ os' v, σ[i]? = some (some v) ∧ Stp F α (BB F α os) H α (BB F α os') H ∧ Rel K T F α os' { st with ρ := st.ρ.set i (.va (.lst xs)) } σ H ∧ DV K α (BB F α os') H v (.lst xs) := by
  obtain ⟨s, o, e1, e2, a, vs, rfl, rfl, e3, hd⟩ := R0.sl.at e
  have sub : ∀ b, b ∈ (os.set i []).flatten → b ∈ os.flatten := fun b h => by
    rcases flatten_set_sub os i [] b h with h | h
    · exact h
    · simp at h
  have wb : ∀ b, BB F α (os.set i []) b → BB F α os b := fun b h => by
    rcases h with h | h | h
    · exact .inl h
    · exact .inr (.inl h)
    · exact .inr (.inr (sub b h))
  have am : a ∈ os.flatten := List.mem_flatten.mpr ⟨[a], List.mem_of_getElem? e2, List.mem_singleton.mpr rfl⟩
  have s0 : Stp F α (BB F α os) H α (BB F α (os.set i [])) H := Stp.weak wb
  have off : ∀ (l : List (List Addr)) (j : Nat), l[j]? = some [a] → l.flatten.Nodup → a ∉ (l.set j []).flatten := by
    intro l
    induction l with
    | nil => intro j h _; simp at h
    | cons p l ih =>
      intro j h nd
      rw [List.flatten_cons] at nd
      obtain ⟨n1, n2, n3⟩ := List.nodup_append.mp nd
      cases j with
      | zero =>
        rw [List.getElem?_cons_zero] at h
        cases h
        rw [List.set_cons_zero, List.flatten_cons, List.nil_append]
        exact fun m => n3 a (List.mem_singleton.mpr rfl) a m rfl
      | succ j =>
        rw [List.getElem?_cons_succ] at h
        rw [List.set_cons_succ, List.flatten_cons]
        intro m
        rcases List.mem_append.mp m with m | m
        · exact n3 a m a (List.mem_flatten.mpr ⟨[a], List.mem_of_getElem? h, List.mem_singleton.mpr rfl⟩) rfl
        · exact ih j h n2 m
  have hv : DV K α (BB F α (os.set i [])) H (.ref a) (.lst xs) := by
    refine .lst (fun z => ?_) e3 (hd.lessB wb)
    rcases z with z | z | z
    · exact (R0.off a am).1 z
    · exact (R0.off a am).2 z
    · exact off os i e2 R0.nd z
  refine ⟨os.set i [], .ref a, e1, s0, ⟨?_, ?_, fun b m => R0.off b (sub b m), ⟨fun k ins q => (R0.so.at' k ins q).step s0 fun b _ u q => q, R0.so.len, R0.so.nd⟩, R0.fr, R0.has⟩, hv⟩
  · have h1 := R0.sl.step s0 fun b _ u q => q
    have h2 := h1.set (x := .va (.lst xs)) (s := some (.ref a)) (o := []) ⟨rfl, _, rfl, hv⟩ i
    rw [set_same e1] at h2
    exact h2
  · exact flatten_set_nd os i [] R0.nd List.nodup_nil fun b m => by simp at m
theorem sd_nv {i : Nat} (h : PE X a (tVar i)) : SdV X T E a (mNv i) := by
  refine ⟨fun F α os st σ H Q R0 P => h.sem ?_⟩
  cases q : st.ρ[i]? with
  | none => simp only [mNv, q] at P; exact P.elim
  | some x =>
    cases x with
    | un => simp only [mNv, q] at P; exact P.elim
    | va d =>
      simp only [mNv, q] at P
      obtain ⟨s, o, e1, _, _, v, rfl, hd⟩ := R0.sl.at q
      exact ⟨v, e1, P.done0 Stp.refl R0 ⟨⟨rfl, v, rfl, hd⟩, nofun⟩⟩
    | ow xs =>
      simp only [mNv, q] at P
      obtain ⟨os', v, e1, s, R1, hd⟩ := R0.frz q
      exact ⟨v, e1, P.done0 s R1 ⟨⟨rfl, v, rfl, hd⟩, nofun⟩⟩
/-- a value that needs nothing -/
def mC (d : D) : MV := fun st => .ok (.va d) st
def flatC : V → D → Prop
  | .non, .non => True
  | .bl a, .bl b => a = b
  | .int a, .int b => a = b
  | .str a, .str b => a = b
  | _, _ => False
theorem sd_c {v : V} {d : D} (h : PE X a (tC v)) (f : flatC v d) : SdV X T E a (mC d) := by
  refine ⟨fun F α os st σ H Q R0 P => h.sem ?_⟩
  refine P.done0 Stp.refl R0 ⟨⟨rfl, v, rfl, ?_⟩, nofun⟩
  cases v <;> cases d <;> first | exact f.elim | (obtain rfl := f; first | exact .bl _ | exact .int _ | exact .str _) | exact .non
theorem sd_int {i : Int} {j} : SdV X T E (.Constant (.int i) j pos) (mC (.int i)) := sd_c pe_int rfl
theorem sd_bl {i : Bool} {j} : SdV X T E (.Constant (.bool i) j pos) (mC (.bl i)) := sd_c pe_bl rfl
theorem sd_str {i : Str} {j} : SdV X T E (.Constant (.str i) j pos) (mC (.str i)) := sd_c pe_str rfl
theorem sd_non {j} : SdV X T E (.Constant .none j pos) (mC .non) := sd_c pe_non trivial
/-- an operand from a value -/
def mF (m : MV) : MH := fun st => (m st).bnd fun r st' => .ok (.val r.d) st'
theorem sd_f {m : MV} (h : SdV X T E a m) : SdH X T E a (mF m) := by
  refine ⟨fun F α os st σ H Q R0 P => h.run F α os st σ H Q R0 ?_⟩
  refine P.bnd fun r st1 α1 os1 H1 P1 v nf s1 R1 hv e1 P => ?_
  exact P.done0 (stp_drop s1) R1.drop ⟨rfl, rv_frz nf R1 hv⟩

/-! ## tests -/
def mT (m : MV) : MB := fun st => (m st).bnd fun r st' => match r with
  | .va (.bl k) => .ok k st'
  | _ => .no
theorem post_test {K : PySem.W.Frag} {F : AP1} {α : List Addr} {os : List (List Addr)} {st : Sto} {σ : L2.St} {H : Hp} {m : MV} {Q : Bool → Hp → Prop}
    (P : Post K T F α os σ H E RB (mT m st) Q) : Post K T F α os σ H E (RV K) (m st) (fun x H' => ∃ k, x = .bl k ∧ Q k H') := by
  refine P.bnd fun r st1 α1 os1 H1 P1 v nf s1 R1 hv e1 P => ?_
  obtain ⟨hv, _⟩ := hv
  cases r with
  | un => exact P.elim
  | ow xs => exact P.elim
  | va d =>
    cases d with
    | bl k =>
      obtain ⟨rfl, v', e, hd⟩ := hv
      cases e
      cases hd
      rw [FP_nil] at s1 R1
      exact ⟨k, rfl, P.done0 s1 R1 ⟨rfl, rfl⟩⟩
    | _ => exact P.elim
theorem sd_cmpT {op : CmpOp} {g : D → D → Option Sl} {ma mb : MH} (o : OpD X (compareOp op) g) (ha : SdH X T E a ma) (hb : SdH X T E b mb) (hm : behindInMarks op b = false := by first | exact nobehind _ (by decide) (by decide) | rfl) :
    SdB X T E (.Compare a [op] [b] pos) (mT (mBin g ma mb)) := by
  obtain ⟨r, ho, hr⟩ := o.ex
  exact ⟨fun F α os st σ H Q R0 P => (pt_cmpR ho pe_sem pe_sem hm).sem (two_op ha hb hr R0 (post_test P))⟩
/-- a op b op c, ints -/
def mChain (g g' : D → D → Option Sl) (ma mb mc : MH) : MV := fun st => (ma st).bnd fun h1 st1 => (mb st1).bnd fun h2 st2 =>
  match h1.at st2, h2.at st2 with
  | some d, some e => (match g d e with
    | some (.va (.bl true)) => (mc st2).bnd fun h3 st3 => match h2.at st3, h3.at st3 with
      | some e', some f => opt (g' e' f) st3
      | _, _ => .no
    | some (.va (.bl false)) => .ok (.va (.bl false)) st2
    | _ => .no)
  | _, _ => .no
theorem chain_op {F : AP1} {α : List Addr} {os : List (List Addr)} {st : Sto} {σ : L2.St} {H : Hp} {Q : VK} {g g' : D → D → Option Sl} {r r' : R2} {ma mb mc : MH}
    (ha : SdH X T E a ma) (hb : SdH X T E b mb) (hc : SdH X T E c mc)
    (hr : ∀ (α : List Addr) (B : AP1) (H : Hp) (x y : V) (d e : D) (res : Sl), PV X.K α B H x d → PV X.K α B H y e → g d e = some res → res ≠ .un → ∀ Q, Want X.K α B H res Q → r x y H Q)
    (hr' : ∀ (α : List Addr) (B : AP1) (H : Hp) (x y : V) (d e : D) (res : Sl), PV X.K α B H x d → PV X.K α B H y e → g' d e = some res → res ≠ .un → ∀ Q, Want X.K α B H res Q → r' x y H Q)
    (R0 : Rel X.K T F α os st σ H) (P : Post X.K T F α os σ H E (RV X.K) (mChain g g' ma mb mc st) Q) :
    tChain r r' (semE X a) (semE X b) (semE X c) σ H Q := by
  refine ha.run F α os st σ H _ R0 (P.bnd fun h1 st1 α1 os1 H1 P1 v nf s1 R1 hv e1 P => ?_)
  obtain ⟨rfl, k1⟩ := hv
  rw [FP_nil] at s1 R1 k1
  refine hb.run F α1 os1 st1 σ H1 _ R1 ((P.later s1).bnd fun h2 st2 α2 os2 H2 P2 w nf2 s2 R2 hw e2 P => ?_)
  obtain ⟨rfl, k2⟩ := hw
  rw [FP_nil] at s2 R2 k2
  have k1 := k1.step s2
  cases q1 : h1.at st2 with
  | none => simp only [q1] at P; exact P.elim
  | some d =>
    cases q2 : h2.at st2 with
    | none => simp only [q1, q2] at P; exact P.elim
    | some e =>
      simp only [q1, q2] at P
      cases q3 : g d e with
      | none => simp only [q3] at P; exact P.elim
      | some res =>
        cases res with
        | un => simp only [q3] at P; exact P.elim
        | ow _ => simp only [q3] at P; exact P.elim
        | va z =>
          cases z with
          | bl k =>
            refine hr _ _ _ _ _ _ _ _ (k1.at R2 q1) (k2.at R2 q2) q3 nofun _ ⟨fun v hv => ?_, fun ds vs z => nomatch z⟩
            cases hv
            refine ⟨k, rfl, ?_⟩
            cases k with
            | false =>
              simp only [q3] at P
              rw [if_neg (by decide)]
              exact (P.later s2).done0 Stp.refl R2 ⟨⟨rfl, _, rfl, .bl _⟩, nofun⟩
            | true =>
              simp only [q3] at P
              rw [if_pos rfl]
              refine hc.run F α2 os2 st2 σ H2 _ R2 ((P.later s2).bnd fun h3 st3 α3 os3 H3 P3 w3 nf3 s3 R3 hw3 e3 P => ?_)
              obtain ⟨rfl, k3⟩ := hw3
              rw [FP_nil] at s3 R3 k3
              have k2 := k2.step s3
              cases q4 : h2.at st3 with
              | none => simp only [q4] at P; exact P.elim
              | some e' =>
                cases q5 : h3.at st3 with
                | none => simp only [q4, q5] at P; exact P.elim
                | some f =>
                  simp only [q4, q5] at P
                  cases q6 : opt (g' e' f) st3 with
                  | no => rw [q6] at P; exact P.elim
                  | er c z => unfold opt at q6; split at q6 <;> cases q6
                  | ok res z =>
                    obtain ⟨g1, g2, rfl⟩ := opt_ok q6
                    rw [q6] at P
                    exact hr' _ _ _ _ _ _ _ _ (k2.at R3 q4) (k3.at R3 q5) g1 g2 _ (want_post R3 (P.later s3))
          | _ => simp only [q3] at P; exact P.elim
theorem sd_chain {op op' : CmpOp} {g g' : D → D → Option Sl} {ma mb mc : MH} (o : OpD X (compareOp op) g) (o' : OpD X (compareOp op') g') (ha : SdH X T E a ma) (hb : SdH X T E b mb) (hc : SdH X T E c mc) (hm : lastMarks [op, op'] [b, c] = false := by rfl) :
    SdV X T E (.Compare a [op, op'] [b, c] pos) (mChain g g' ma mb mc) := by
  obtain ⟨r, ho, hr⟩ := o.ex
  obtain ⟨r', ho', hr'⟩ := o'.ex
  exact ⟨fun F α os st σ H Q R0 P => (pe_chain ho ho' pe_sem pe_sem pe_sem (hm := hm)).sem (chain_op ha hb hc hr hr' R0 P)⟩
theorem sd_chainT {op op' : CmpOp} {g g' : D → D → Option Sl} {ma mb mc : MH} (o : OpD X (compareOp op) g) (o' : OpD X (compareOp op') g') (ha : SdH X T E a ma) (hb : SdH X T E b mb) (hc : SdH X T E c mc) (hm : lastMarks [op, op'] [b, c] = false := by rfl) :
    SdB X T E (.Compare a [op, op'] [b, c] pos) (mT (mChain g g' ma mb mc)) := by
  obtain ⟨r, ho, hr⟩ := o.ex
  obtain ⟨r', ho', hr'⟩ := o'.ex
  exact ⟨fun F α os st σ H Q R0 P => (pt_chain ho ho' pe_sem pe_sem pe_sem (hm := hm)).sem (chain_op ha hb hc hr hr' R0 (post_test P))⟩
/-- is None -/
def isNonD : D → Bool
  | .non => true
  | _ => false
def mIsN (k : Bool) (m : MH) : MV := fun st => (m st).bnd fun h st' => match h.at st' with
  | some d => .ok (.va (.bl (isNonD d == k))) st'
  | none => .no
theorem PV.isNon {K : PySem.W.Frag} {α : List Addr} {B : AP1} {H : Hp} {v : V} {d : D} (h : PV K α B H v d) : decide (v = .non) = isNonD d := by
  cases h with
  | dv h => cases h <;> rfl
  | own _ _ => rfl
theorem sd_isN {j : Nat} {p : Pos} {m : MH} (ha : SdH X T E a m) : SdV X T E (.Compare a [.Is] [.Constant .none j p] pos) (mIsN true m) := by
  refine ⟨fun F α os st σ H Q R0 P => (pe_cmp (pc_isN pe_sem)).sem ?_⟩
  refine ha.run F α os st σ H _ R0 (P.bnd fun h1 st1 α1 os1 H1 P1 v nf s1 R1 hv e1 P => ?_)
  obtain ⟨rfl, k1⟩ := hv
  rw [FP_nil] at s1 R1 k1
  cases q1 : h1.at st1 with
  | none => simp only [q1] at P; exact P.elim
  | some d =>
    simp only [q1] at P
    rw [(k1.at R1 q1).isNon]
    have : isNonD d = (isNonD d == true) := by cases isNonD d <;> rfl
    rw [this]
    exact P.done0 s1 R1 ⟨⟨rfl, _, rfl, .bl _⟩, nofun⟩
theorem sd_notN {j : Nat} {p : Pos} {m : MH} (ha : SdH X T E a m) : SdV X T E (.Compare a [.IsNot] [.Constant .none j p] pos) (mIsN false m) := by
  refine ⟨fun F α os st σ H Q R0 P => (pe_cmp (pc_notN pe_sem)).sem ?_⟩
  refine ha.run F α os st σ H _ R0 (P.bnd fun h1 st1 α1 os1 H1 P1 v nf s1 R1 hv e1 P => ?_)
  obtain ⟨rfl, k1⟩ := hv
  rw [FP_nil] at s1 R1 k1
  cases q1 : h1.at st1 with
  | none => simp only [q1] at P; exact P.elim
  | some d =>
    simp only [q1] at P
    rw [(k1.at R1 q1).isNon]
    have : (!isNonD d) = (isNonD d == false) := by cases isNonD d <;> rfl
    rw [this]
    exact P.done0 s1 R1 ⟨⟨rfl, _, rfl, .bl _⟩, nofun⟩
theorem sd_isNT {j : Nat} {p : Pos} {m : MH} (ha : SdH X T E a m) : SdB X T E (.Compare a [.Is] [.Constant .none j p] pos) (mT (mIsN true m)) := by
  refine ⟨fun F α os st σ H Q R0 P => (pt_cmp (pc_isN pe_sem)).sem ?_⟩
  refine ha.run F α os st σ H _ R0 ((post_test P).bnd fun h1 st1 α1 os1 H1 P1 v nf s1 R1 hv e1 P => ?_)
  obtain ⟨rfl, k1⟩ := hv
  rw [FP_nil] at s1 R1 k1
  cases q1 : h1.at st1 with
  | none => simp only [q1] at P; exact P.elim
  | some d =>
    simp only [q1] at P
    rw [(k1.at R1 q1).isNon]
    have : isNonD d = (isNonD d == true) := by cases isNonD d <;> rfl
    rw [this]
    exact P.done0 s1 R1 ⟨⟨rfl, _, rfl, .bl _⟩, nofun⟩
theorem sd_notNT {j : Nat} {p : Pos} {m : MH} (ha : SdH X T E a m) : SdB X T E (.Compare a [.IsNot] [.Constant .none j p] pos) (mT (mIsN false m)) := by
  refine ⟨fun F α os st σ H Q R0 P => (pt_cmp (pc_notN pe_sem)).sem ?_⟩
  refine ha.run F α os st σ H _ R0 ((post_test P).bnd fun h1 st1 α1 os1 H1 P1 v nf s1 R1 hv e1 P => ?_)
  obtain ⟨rfl, k1⟩ := hv
  rw [FP_nil] at s1 R1 k1
  cases q1 : h1.at st1 with
  | none => simp only [q1] at P; exact P.elim
  | some d =>
    simp only [q1] at P
    rw [(k1.at R1 q1).isNon]
    have : (!isNonD d) = (isNonD d == false) := by cases isNonD d <;> rfl
    rw [this]
    exact P.done0 s1 R1 ⟨⟨rfl, _, rfl, .bl _⟩, nofun⟩
/-- truth -/
def truD : D → Option Bool
  | .non => some false
  | .bl b => some b
  | .int i => some (i != 0)
  | .str y => if y.length ≤ LIM then some ((y.length : Int) != 0) else none
  | .tup xs => some (!xs.isEmpty)
  | .lst xs => some (!xs.isEmpty)
  | .dic _ _ => some true
  | .dic0 => some false
  | _ => none
def mTru (m : MH) : MB := fun st => (m st).bnd fun h st' => match h.at st' with
  | some d => (match truD d with
    | some k => .ok k st'
    | none => .no)
  | none => .no
theorem DVs.empty {K : PySem.W.Frag} {α : List Addr} {B : AP1} {H : Hp} {vs : List V} {ds : List D} (h : DVs K α B H vs ds) : vs.isEmpty = ds.isEmpty := by cases h <;> rfl
theorem PV.truV {K : PySem.W.Frag} {α : List Addr} {B : AP1} {H : Hp} {v : V} {d : D} {k : Bool} (h : PV K α B H v d) (e : truD d = some k) : TruV K v H k := by
  cases h with
  | own e3 t =>
    have : k = !_ := (Option.some.inj e).symm
    subst this
    exact .inl ⟨_, .inl (.inl e3), by rw [t.empty]⟩
  | dv h =>
    cases h with
    | non => exact (Option.some.inj e).symm
    | bl b => exact (Option.some.inj e).symm
    | int i => exact (Option.some.inj e).symm
    | str x =>
      simp only [truD] at e
      split at e
      · rename_i c
        exact ⟨Nat.le_trans c lim_ok, (Option.some.inj e).symm⟩
      · cases e
    | lst n r t => exact .inl ⟨_, .inl (.inl r), by rw [t.empty]; exact (Option.some.inj e).symm⟩
    | tup n r t => exact .inr (.inl ⟨_, .inl r, by rw [t.empty]; exact (Option.some.inj e).symm⟩)
    | tupK r t => exact .inr (.inl ⟨_, .inr r, by rw [t.empty]; exact (Option.some.inj e).symm⟩)
    | scr n r => cases e
    | scrK r => cases e
    | dic n r => exact .inr (.inr ⟨_, r, (Option.some.inj e).symm⟩)
    | dic0 n r => exact .inr (.inr ⟨_, r, (Option.some.inj e).symm⟩)
    | obj h => cases e
theorem sd_tru {m : MH} (ha : SdH X T E a m) (he : ∀ whole, isTrue a X.env whole = (do let v ← whole; standAt a.pos; holding [v] (truthy v)) := by intro _; rfl) : SdB X T E a (mTru m) := by
  refine ⟨fun F α os st σ H Q R0 P => (pt_truth pe_sem he).sem ?_⟩
  refine ha.run F α os st σ H _ R0 (P.bnd fun h1 st1 α1 os1 H1 P1 v nf s1 R1 hv e1 P => ?_)
  obtain ⟨rfl, k1⟩ := hv
  rw [FP_nil] at s1 R1 k1
  cases q1 : h1.at st1 with
  | none => simp only [q1] at P; exact P.elim
  | some d =>
    simp only [q1] at P
    cases q2 : truD d with
    | none => simp only [q2] at P; exact P.elim
    | some k =>
      simp only [q2] at P
      exact ⟨k, (k1.at R1 q1).truV q2, P.done0 s1 R1 ⟨rfl, rfl⟩⟩

/-! ## and, or, not -/
def mAnd (m1 m2 : MB) : MB := fun st => (m1 st).bnd fun k st1 => if k then m2 st1 else .ok false st1
def mOr (m1 m2 : MB) : MB := fun st => (m1 st).bnd fun k st1 => if k then .ok true st1 else m2 st1
def mNot (m : MB) : MB := fun st => (m st).bnd fun k st1 => .ok (!k) st1
variable {rest : List Expr} {m m1 m2 : MB}
theorem sd_wT (h : SdW X T E a m) : SdB X T E a m := ⟨fun F α os st σ H Q R0 P => fun pins s I => h.run F α os st σ H Q R0 P _ pins s I⟩
theorem sd_and1 (h : SdB X T E a m) : SdW X T E (.BoolOp .And [a] pos) m := ⟨fun F α os st σ H Q R0 P => (pw_and1 pt_sem).sem (h.run F α os st σ H Q R0 P)⟩
theorem sd_or1 (h : SdB X T E a m) : SdW X T E (.BoolOp .Or [a] pos) m := ⟨fun F α os st σ H Q R0 P => (pw_or1 pt_sem).sem (h.run F α os st σ H Q R0 P)⟩
theorem sd_and (h1 : SdB X T E a m1) (h2 : SdW X T E (.BoolOp .And (b :: rest) pos) m2) : SdW X T E (.BoolOp .And (a :: b :: rest) pos) (mAnd m1 m2) := by
  refine ⟨fun F α os st σ H Q R0 P => (pw_and pt_sem pw_sem).sem ?_⟩
  refine h1.run F α os st σ H _ R0 (P.bnd fun k st1 α1 os1 H1 P1 v nf s1 R1 hv e1 P => ?_)
  obtain ⟨rfl, rfl⟩ := hv
  rw [FP_nil] at s1 R1
  cases v with
  | true => rw [if_pos rfl]; exact h2.run F α1 os1 st1 σ H1 Q R1 (P.later s1)
  | false => rw [if_neg (by decide)]; exact P.done0 s1 R1 ⟨rfl, rfl⟩
theorem sd_or (h1 : SdB X T E a m1) (h2 : SdW X T E (.BoolOp .Or (b :: rest) pos) m2) : SdW X T E (.BoolOp .Or (a :: b :: rest) pos) (mOr m1 m2) := by
  refine ⟨fun F α os st σ H Q R0 P => (pw_or pt_sem pw_sem).sem ?_⟩
  refine h1.run F α os st σ H _ R0 (P.bnd fun k st1 α1 os1 H1 P1 v nf s1 R1 hv e1 P => ?_)
  obtain ⟨rfl, rfl⟩ := hv
  rw [FP_nil] at s1 R1
  cases v with
  | false => rw [if_neg (by decide)]; exact h2.run F α1 os1 st1 σ H1 Q R1 (P.later s1)
  | true => rw [if_pos rfl]; exact P.done0 s1 R1 ⟨rfl, rfl⟩
theorem sd_not (h : SdB X T E a m) : SdB X T E (.UnaryOp .Not a pos) (mNot m) := by
  refine ⟨fun F α os st σ H Q R0 P => (pt_not pt_sem).sem ?_⟩
  refine h.run F α os st σ H _ R0 (P.bnd fun k st1 α1 os1 H1 P1 v nf s1 R1 hv e1 P => ?_)
  obtain ⟨rfl, rfl⟩ := hv
  rw [FP_nil] at s1 R1
  exact P.done0 s1 R1 ⟨rfl, rfl⟩
/-- .. as values: bools -/
def mV (m : MB) : MV := fun st => (m st).bnd fun k st1 => .ok (.va (.bl k)) st1
variable {n n1 n2 : MV}
theorem post_val {K : PySem.W.Frag} {F : AP1} {α : List Addr} {os : List (List Addr)} {x : R Sl} {σ : L2.St} {H : Hp} {Q : VK} {f : Bool → Sto → R Sl}
    (P : Post K T F α os σ H E (RV K) (x.bnd fun r st' => match r with | .va (.bl k) => f k st' | _ => .no) Q) :
    Post K T F α os σ H E (RV K) x (fun v H' => ∃ k, v = .bl k ∧ ∃ st1 α1 os1, Stp F α (BB F α os) H α1 (BB F α1 os1) H' ∧ Rel K T F α1 os1 st1 σ H' ∧ Post K T F α os σ H E (RV K) (f k st1) Q) := by
  refine P.bnd fun r st1 α1 os1 H1 P1 v nf s1 R1 hv e1 P => ?_
  obtain ⟨hv, _⟩ := hv
  cases r with
  | un => exact P.elim
  | ow xs => exact P.elim
  | va d =>
    cases d with
    | bl k =>
      obtain ⟨rfl, v', e, hd⟩ := hv
      cases e
      cases hd
      rw [FP_nil] at s1 R1
      exact ⟨k, rfl, st1, α1, os1, s1, R1, P⟩
    | _ => exact P.elim
def mAndV (n1 n2 : MV) : MV := fun st => (n1 st).bnd fun r st1 => match r with
  | .va (.bl k) => if k then n2 st1 else .ok (.va (.bl false)) st1
  | _ => .no
def mOrV (n1 n2 : MV) : MV := fun st => (n1 st).bnd fun r st1 => match r with
  | .va (.bl k) => if k then .ok (.va (.bl true)) st1 else n2 st1
  | _ => .no
def mNotV (n1 : MV) : MV := fun st => (n1 st).bnd fun r st1 => match r with
  | .va (.bl k) => .ok (.va (.bl (!k))) st1
  | _ => .no
theorem sd_one {op} (h : SdV X T E a n) : SdV X T E (.BoolOp op [a] pos) n := ⟨fun F α os st σ H Q R0 P => (pe_one pe_sem).sem (h.run F α os st σ H Q R0 P)⟩
theorem sd_andV (h1 : SdV X T E a n1) (h2 : SdV X T E (.BoolOp .And (b :: rest) pos) n2) : SdV X T E (.BoolOp .And (a :: b :: rest) pos) (mAndV n1 n2) := by
  refine ⟨fun F α os st σ H Q R0 P => (pe_and pe_sem pe_sem).sem ?_⟩
  refine h1.run F α os st σ H _ R0 ?_
  refine Post.bnd (RR := RV X.K) (f := fun r st' => match r with | .va (.bl k) => (if k then n2 st' else .ok (.va (.bl false)) st') | _ => .no) P fun r st1 α1 os1 H1 P1 v nf s1 R1 hv e1 P => ?_
  obtain ⟨hv, _⟩ := hv
  cases r with
  | un => exact P.elim
  | ow xs => exact P.elim
  | va d =>
    cases d with
    | bl k =>
      obtain ⟨rfl, v', e, hd⟩ := hv
      cases e
      cases hd
      rw [FP_nil] at s1 R1
      refine ⟨k, rfl, ?_⟩
      cases k with
      | true => rw [if_pos rfl]; exact h2.run F α1 os1 st1 σ H1 Q R1 (P.later s1)
      | false => rw [if_neg (by decide)]; exact P.done0 s1 R1 ⟨⟨rfl, _, rfl, .bl _⟩, nofun⟩
    | _ => exact P.elim
theorem sd_orV (h1 : SdV X T E a n1) (h2 : SdV X T E (.BoolOp .Or (b :: rest) pos) n2) : SdV X T E (.BoolOp .Or (a :: b :: rest) pos) (mOrV n1 n2) := by
  refine ⟨fun F α os st σ H Q R0 P => (pe_or pe_sem pe_sem).sem ?_⟩
  refine h1.run F α os st σ H _ R0 ?_
  refine Post.bnd (RR := RV X.K) (f := fun r st' => match r with | .va (.bl k) => (if k then .ok (.va (.bl true)) st' else n2 st') | _ => .no) P fun r st1 α1 os1 H1 P1 v nf s1 R1 hv e1 P => ?_
  obtain ⟨hv, _⟩ := hv
  cases r with
  | un => exact P.elim
  | ow xs => exact P.elim
  | va d =>
    cases d with
    | bl k =>
      obtain ⟨rfl, v', e, hd⟩ := hv
      cases e
      cases hd
      rw [FP_nil] at s1 R1
      refine ⟨k, rfl, ?_⟩
      cases k with
      | false => rw [if_neg (by decide)]; exact h2.run F α1 os1 st1 σ H1 Q R1 (P.later s1)
      | true => rw [if_pos rfl]; exact P.done0 s1 R1 ⟨⟨rfl, _, rfl, .bl _⟩, nofun⟩
    | _ => exact P.elim
theorem sd_notV (h1 : SdV X T E a n1) : SdV X T E (.UnaryOp .Not a pos) (mNotV n1) := by
  refine ⟨fun F α os st σ H Q R0 P => (pe_not pe_sem).sem ?_⟩
  refine h1.run F α os st σ H _ R0 ?_
  refine Post.bnd (RR := RV X.K) (RR' := RV X.K) (f := fun (r : Sl) st' => match r with | .va (.bl k) => R.ok (Sl.va (.bl (!k))) st' | _ => R.no) P fun r st1 α1 os1 H1 P1 v nf s1 R1 hv e1 P => ?_
  obtain ⟨hv, _⟩ := hv
  cases r with
  | un => exact P.elim
  | ow xs => exact P.elim
  | va d =>
    cases d with
    | bl k =>
      obtain ⟨rfl, v', e, hd⟩ := hv
      cases e
      cases hd
      rw [FP_nil] at s1 R1
      exact ⟨k, rfl, P.done0 s1 R1 ⟨⟨rfl, _, rfl, .bl _⟩, nofun⟩⟩
    | _ => exact P.elim
/-- a if t else b -/
def mIf {β : Type} (m : MB) (x y : Sto → R β) : Sto → R β := fun st => (m st).bnd fun k st1 => if k then x st1 else y st1
theorem sd_ifE (h : SdB X T E c m) (h1 : SdV X T E a n1) (h2 : SdV X T E b n2) : SdV X T E (.IfExp c a b pos) (mIf m n1 n2) := by
  refine ⟨fun F α os st σ H Q R0 P => (pe_ifExp pt_sem pe_sem pe_sem).sem ?_⟩
  refine h.run F α os st σ H _ R0 (P.bnd fun k st1 α1 os1 H1 P1 v nf s1 R1 hv e1 P => ?_)
  obtain ⟨rfl, rfl⟩ := hv
  rw [FP_nil] at s1 R1
  cases v with
  | true => rw [if_pos rfl]; exact h1.run F α1 os1 st1 σ H1 Q R1 (P.later s1)
  | false => rw [if_neg (by decide)]; exact h2.run F α1 os1 st1 σ H1 Q R1 (P.later s1)
end
end Mi

namespace Mi
open PySem PySem.Spec PyProof.Rows L2

section
variable {X : Cx} {T : Tb} {E : EX} {a b c : Expr} {es : List Expr} {pos : Pos} {m : MV} {ma mb : MH} {ms : MA} {mhs : MHs}

/-! ## arguments, displays -/
def mAnil : MA := fun st => .ok [] st
def mAcons (m : MV) (ms : MA) : MA := fun st => (m st).bnd fun r st1 => (ms st1).bnd fun ds st2 => .ok (r.d :: ds) st2
def mAstar (m : MH) (ms : MA) : MA := fun st => (m st).bnd fun h st1 => match h.at st1 with
  | some (.tup xs) => (ms st1).bnd fun ds st2 => .ok (xs ++ ds) st2
  | some (.lst xs) => (ms st1).bnd fun ds st2 => .ok (xs ++ ds) st2
  | _ => .no
theorem sd_anil : SdA X T E [] mAnil := ⟨fun F α os st σ H Q R0 P => pa_nil.sem (P.done0 Stp.refl R0 ⟨rfl, .nil⟩)⟩
theorem sd_acons (h : SdV X T E a m) (hs : SdA X T E es ms) (he : starEach (a :: es) X.env = (false, eval a X.env) :: starEach es X.env := by rfl) : SdA X T E (a :: es) (mAcons m ms) := by
  refine ⟨fun F α os st σ H Q R0 P => (pa_cons pe_sem pa_sem he).sem ?_⟩
  refine h.run F α os st σ H _ R0 (P.bnd fun r st1 α1 os1 H1 P1 v nf s1 R1 hv e1 P => ?_)
  have hd := rv_frz nf R1 hv
  have s1 := stp_drop s1
  refine hs.run F α1 os1 st1 σ H1 _ R1.drop ((P.later s1).bnd fun ds st2 α2 os2 H2 P2 w nf2 s2 R2 hw e2 P => ?_)
  obtain ⟨rfl, k2⟩ := hw
  rw [FP_nil] at s2 R2 k2
  exact (P.later s2).done0 Stp.refl R2 ⟨rfl, .cons (hd.step s2) k2⟩
theorem sd_astar {p : Pos} (h : SdH X T E a ma) (hs : SdA X T E es ms) (he : starEach (.Starred a p :: es) X.env = (true, eval a X.env) :: starEach es X.env := by rfl) : SdA X T E (.Starred a p :: es) (mAstar ma ms) := by
  refine ⟨fun F α os st σ H Q R0 P => (StX.pa_star pe_sem pa_sem he).sem ?_⟩
  refine h.run F α os st σ H _ R0 (P.bnd fun r st1 α1 os1 H1 P1 v nf s1 R1 hv e1 P => ?_)
  obtain ⟨rfl, k1⟩ := hv
  rw [FP_nil] at s1 R1 k1
  cases q1 : r.at st1 with
  | none => simp only [q1] at P; exact P.elim
  | some d =>
    simp only [q1] at P
    have pv := k1.at R1 q1
    cases d with
    | tup xs =>
      obtain ⟨p, vs, rfl, hT, hd, _⟩ := pv.tup
      refine ⟨p, vs, rfl, .inl hT, ?_⟩
      refine hs.run F α1 os1 st1 σ H1 _ R1 ((P.later s1).bnd fun ds st2 α2 os2 H2 P2 w nf2 s2 R2 hw e2 P => ?_)
      obtain ⟨rfl, k2⟩ := hw
      rw [FP_nil] at s2 R2 k2
      exact (P.later s2).done0 Stp.refl R2 ⟨rfl, (hd.step s2).app k2⟩
    | lst xs =>
      obtain ⟨p, vs, rfl, hT, hd⟩ := pv.lst
      refine ⟨p, vs, rfl, .inr (.inl (.inl hT)), ?_⟩
      refine hs.run F α1 os1 st1 σ H1 _ R1 ((P.later s1).bnd fun ds st2 α2 os2 H2 P2 w nf2 s2 R2 hw e2 P => ?_)
      obtain ⟨rfl, k2⟩ := hw
      rw [FP_nil] at s2 R2 k2
      exact (P.later s2).done0 Stp.refl R2 ⟨rfl, (hd.step s2).app k2⟩
    | _ => exact P.elim
def mTup (ms : MA) : MV := fun st => (ms st).bnd fun ds st1 => if ds.length ≤ LIM then .ok (.va (.tup ds)) st1 else .no
def mLst (ms : MA) : MV := fun st => (ms st).bnd fun ds st1 => if ds.length ≤ LIM then .ok (.ow ds) st1 else .no
theorem sd_tup {k} (h : SdA X T E es ms) : SdV X T E (.Tuple es k pos) (mTup ms) := by
  refine ⟨fun F α os st σ H Q R0 P => (pe_tup pa_sem).sem ?_⟩
  refine h.run F α os st σ H _ R0 (P.bnd fun ds st1 α1 os1 H1 P1 v nf s1 R1 hv e1 P => ?_)
  obtain ⟨rfl, k1⟩ := hv
  rw [FP_nil] at s1 R1 k1
  split at P
  · rename_i c
    exact ⟨by rw [k1.length]; exact Nat.le_trans c lim_ok, (want_post R1 (P.later s1)).2 _ _ rfl k1⟩
  · exact P.elim
theorem sd_lst (h : SdA X T E es ms) : SdV X T E (.List es pos) (mLst ms) := by
  refine ⟨fun F α os st σ H Q R0 P => (pe_lst pa_sem).sem ?_⟩
  refine h.run F α os st σ H _ R0 (P.bnd fun ds st1 α1 os1 H1 P1 v nf s1 R1 hv e1 P => ?_)
  obtain ⟨rfl, k1⟩ := hv
  rw [FP_nil] at s1 R1 k1
  split at P
  · rename_i c
    exact ⟨by rw [k1.length]; exact Nat.le_trans c lim_ok, want_post R1 (P.later s1) _ k1⟩
  · exact P.elim
/-- {} and {k: v} in data -/
theorem sd_dic0 : SdV X T E (.Dict [] [] pos) (mC .dic0) := by
  refine ⟨fun F α os st σ H Q R0 P => pe_dnewK.sem ?_⟩
  intro p np
  exact P.done0 (stp_new np) (R0.new np) ⟨⟨rfl, _, rfl, .dic0 (fun z => R0.bThere p z np) upd_same⟩, nofun⟩
theorem sd_dic {k v : Int} {i j p q} : SdV X T E (.Dict [some (.Constant (.int k) i p)] [.Constant (.int v) j q] pos) (mC (.dic k v)) := by
  refine ⟨fun F α os st σ H Q R0 P => (pe_disp (pps_cons pe_int pe_int pps_nil) rfl rfl (fun z => by cases z) (by show 1 ≤ 15; decide)).sem ?_⟩
  intro p np
  refine ⟨upd_same, [(.inl k, .int v)], rfl, by show 1 ≤ 15; decide, ?_⟩
  rw [upd_upd]
  exact P.done0 (stp_new np) (R0.new np) ⟨⟨rfl, _, rfl, .dic (fun z => R0.bThere p z np) upd_same⟩, nofun⟩

/-! ## subscripts -/
theorem DVs.atI {K : PySem.W.Frag} {α : List Addr} {B : AP1} {H : Hp} {vs : List V} {ds : List D} {i : Int} {d : D} (h : DVs K α B H vs ds) (e : atI ds i = some d) : ∃ v, atI vs i = some v ∧ DV K α B H v d := by
  unfold L2.atI at e ⊢
  rw [← h.length] at e
  cases q : ixN vs.length i with
  | none => rw [q] at e; cases e
  | some j =>
    rw [q] at e
    obtain ⟨v, h1, h2⟩ := h.at' (show ds[j]? = some d from e)
    exact ⟨v, h1, h2⟩
def gIx : D → D → Option Sl
  | .tup ds, .int i => (atI ds i).map .va
  | .lst ds, .int i => (atI ds i).map .va
  | .scr ns, .int i => (atI ns i).map fun n => .va (.int n)
  | .str z, .int i => if z.length ≤ LIM then (atI z.cps.toList i).map fun c => .va (.str ⟨#[c]⟩) else none
  | _, _ => none
def mIx := mBin gIx
theorem sd_ix (hs : PlainIx b) (ha : SdH X T E a ma) (hb : SdH X T E b mb) : SdV X T E (.Subscript a b pos) (mIx ma mb) := by
  refine ⟨fun F α os st σ H Q R0 P => (pe_ix (IxR.or ix_list (IxR.or ix_tup ix_str)) pe_sem pe_sem hs).sem (two_op (r := fun x y H Q => rIxL X.K x y H Q ∨ rIxT X.K x y H Q ∨ rIxS x y H Q) ha hb ?_ R0 P)⟩
  intro α B H x y d e res h1 h2 g nu Q w
  unfold gIx at g
  split at g
  · rename_i ds i
    obtain ⟨d', q, rfl⟩ := Option.map_eq_some_iff.mp g
    obtain ⟨p, vs, rfl, hT, hd, _⟩ := h1.tup
    obtain rfl := h2.int
    obtain ⟨v, q2, hv⟩ := hd.atI q
    exact .inr (.inl ⟨p, vs, i, v, rfl, rfl, hT, q2, w.1 _ hv⟩)
  · rename_i ds i
    obtain ⟨d', q, rfl⟩ := Option.map_eq_some_iff.mp g
    obtain ⟨p, vs, rfl, hT, hd⟩ := h1.lst
    obtain rfl := h2.int
    obtain ⟨v, q2, hv⟩ := hd.atI q
    exact .inl ⟨p, vs, i, v, rfl, rfl, .inl (.inl hT), q2, w.1 _ hv⟩
  · rename_i ns i
    obtain ⟨n, q, rfl⟩ := Option.map_eq_some_iff.mp g
    obtain ⟨p, rfl, hT⟩ := h1.scr
    obtain rfl := h2.int
    refine .inl ⟨p, _, i, .int n, rfl, rfl, hT, ?_, w.1 _ (.int _)⟩
    unfold L2.atI at q ⊢
    rw [List.length_map]
    cases q2 : ixN ns.length i with
    | none => rw [q2] at q; cases q
    | some j =>
      rw [q2] at q
      show (ns.map V.int)[j]? = _
      rw [List.getElem?_map, show ns[j]? = some n from q]; rfl
  · rename_i z i
    split at g
    · rename_i c
      obtain ⟨k, q, rfl⟩ := Option.map_eq_some_iff.mp g
      obtain rfl := h1.str
      obtain rfl := h2.int
      exact .inr (.inr ⟨z, i, k, rfl, rfl, Nat.le_trans c lim_ok, q, w.1 _ (.str _)⟩)
    · cases g
  · cases g
def cutD {β : Type} (xs : List β) (lo hi : Option Int) : List β := (xs.drop (HT.sIx xs.length 0 lo)).take (HT.sIx xs.length xs.length hi - HT.sIx xs.length 0 lo)
def gSl : D → Option Int → Option Int → Option Sl
  | .tup ds, lo, hi => some (.va (.tup (cutD ds lo hi)))
  | .lst ds, lo, hi => some (.ow (cutD ds lo hi))
  | .scr ns, lo, hi => some (.ow ((cutD ns lo hi).map .int))
  | .str z, lo, hi => if z.length ≤ LIM then some (.va (.str (cutS z lo hi))) else none
  | _, _, _ => none
theorem DVs.cut {K : PySem.W.Frag} {α : List Addr} {B : AP1} {H : Hp} {vs : List V} {ds : List D} {lo hi : Option Int} (h : DVs K α B H vs ds) : DVs K α B H (cutV vs lo hi) (cutD ds lo hi) := by
  unfold L2.cutV cutD
  rw [h.length]
  exact (h.drop _).take _
theorem DVs.ints {K : PySem.W.Frag} {α : List Addr} {B : AP1} {H : Hp} : ∀ ns : List Int, DVs K α B H (ns.map V.int) (ns.map D.int)
  | [] => .nil
  | n :: ns => .cons (.int n) (DVs.ints ns)
theorem cut_all {β : Type} {xs : List β} {lo hi : Option Int} (h : HT.sIx xs.length 0 lo = 0 ∧ HT.sIx xs.length xs.length hi = xs.length) : cutD xs lo hi = xs := by
  unfold cutD
  rw [h.1, h.2, List.drop_zero, Nat.sub_zero, List.take_length]
def mPart (m : MH) : Sto → R (Option Int) := fun st => (m st).bnd fun h st1 => match h.at st1 with
  | some (.int i) => .ok (some i) st1
  | _ => .no
def mNoPart : Sto → R (Option Int) := fun st => .ok none st
/-- a part of a slice -/
structure SdO (X : Cx) (T : Tb) (E : EX) (e : Option Expr) (m : Sto → R (Option Int)) : Prop where
  ex : ∃ t, PO X e t ∧ ∀ F α os st σ H (Q : Option Int → Hp → Prop), Rel X.K T F α os st σ H →
    Post X.K T F α os σ H E (fun _ _ _ (r v : Option Int) P => P = [] ∧ v = r) (m st) Q → t σ H Q
theorem sd_noPart : SdO X T E none mNoPart := ⟨_, po_none, fun F α os st σ H Q R0 P => P.done0 Stp.refl R0 ⟨rfl, rfl⟩⟩
theorem sd_part (h : SdH X T E a ma) : SdO X T E (some a) (mPart ma) := by
  refine ⟨_, po_some pe_sem, fun F α os st σ H Q R0 P => ?_⟩
  refine h.run F α os st σ H _ R0 (P.bnd fun r st1 α1 os1 H1 P1 v nf s1 R1 hv e1 P => ?_)
  obtain ⟨rfl, k1⟩ := hv
  rw [FP_nil] at s1 R1 k1
  cases q1 : r.at st1 with
  | none => simp only [q1] at P; exact P.elim
  | some d =>
    simp only [q1] at P
    have pv := k1.at R1 q1
    cases d with
    | int i => exact ⟨i, pv.int, P.done0 s1 R1 ⟨rfl, rfl⟩⟩
    | _ => exact P.elim
def mSl (m : MH) (ml mh : Sto → R (Option Int)) : MV := fun st => (m st).bnd fun h st1 => (ml st1).bnd fun lo st2 => (mh st2).bnd fun hi st3 => match h.at st3 with
  | some d => opt (gSl d lo hi) st3
  | none => .no
theorem sd_sl {lo hi : Option Expr} {ml mh : Sto → R (Option Int)} {p2 : Pos} (h : SdH X T E a ma) (hl : SdO X T E lo ml) (hh : SdO X T E hi mh) : SdV X T E (.Subscript a (.Slice lo hi none p2) pos) (mSl ma ml mh) := by
  obtain ⟨tl, pl, hl⟩ := hl.ex
  obtain ⟨th, ph, hh⟩ := hh.ex
  refine ⟨fun F α os st σ H Q R0 P => (pe_slice (SlR.or sl_list (SlR.or sl_tupA sl_str)) pe_sem pl ph).sem ?_⟩
  refine h.run F α os st σ H _ R0 (P.bnd fun r st1 α1 os1 H1 P1 v nf s1 R1 hv e1 P => ?_)
  obtain ⟨rfl, k1⟩ := hv
  rw [FP_nil] at s1 R1 k1
  refine hl F α1 os1 st1 σ H1 _ R1 ((P.later s1).bnd fun lo' st2 α2 os2 H2 P2 lo'' nf2 s2 R2 hw e2 P => ?_)
  obtain ⟨rfl, rfl⟩ := hw
  rw [FP_nil] at s2 R2
  refine hh F α2 os2 st2 σ H2 _ R2 ((P.later s2).bnd fun hi' st3 α3 os3 H3 P3 hi'' nf3 s3 R3 hw e3 P => ?_)
  obtain ⟨rfl, rfl⟩ := hw
  rw [FP_nil] at s3 R3
  have k1 := (k1.step s2).step s3
  cases q1 : r.at st3 with
  | none => simp only [q1] at P; exact P.elim
  | some d =>
    simp only [q1] at P
    have pv := k1.at R3 q1
    cases q3 : opt (gSl d lo'' hi'') st3 with
    | no => rw [q3] at P; exact P.elim
    | er c z => unfold opt at q3; split at q3 <;> cases q3
    | ok res z =>
      obtain ⟨g, nu, rfl⟩ := opt_ok q3
      rw [q3] at P
      have w := want_post R3 (P.later s3)
      cases d with
      | tup ds =>
        cases g
        obtain ⟨p, vs, rfl, hT, hd, dv⟩ := pv.tup
        refine .inr (.inl ⟨p, vs, rfl, hT, fun z => ?_, fun _ => w.2 _ _ rfl hd.cut⟩)
        rw [hd.length] at z
        refine w.1 _ ?_
        rw [cut_all z]; exact dv
      | lst ds =>
        cases g
        obtain ⟨p, vs, rfl, hT, hd⟩ := pv.lst
        exact .inl ⟨p, vs, rfl, .inl (.inl hT), w _ hd.cut⟩
      | scr ns =>
        cases g
        obtain ⟨p, rfl, hT⟩ := pv.scr
        refine .inl ⟨p, _, rfl, hT, w _ ?_⟩
        have : cutV (ns.map V.int) lo'' hi'' = (cutD ns lo'' hi'').map V.int := by
          unfold L2.cutV cutD
          rw [List.length_map, List.map_take, List.map_drop]
        rw [this]
        exact DVs.ints _
      | str z =>
        simp only [gSl] at g
        split at g
        · rename_i c
          cases g
          obtain rfl := pv.str
          exact .inr (.inr ⟨_, rfl, Nat.le_trans c lim_ok, w.1 _ (.str _)⟩)
        · cases g
      | _ => cases g

/-! ## operands in a row; built-in functions -/
def mHnil : MHs := fun st => .ok [] st
def mHcons (m : MH) (ms : MHs) : MHs := fun st => (m st).bnd fun r st1 => (ms st1).bnd fun ds st2 => .ok (r :: ds) st2
theorem sd_hnil : SdHs X T E [] mHnil := ⟨fun F α os st σ H Q R0 P => pa_nil.sem (P.done0 Stp.refl R0 ⟨rfl, .nil⟩)⟩
theorem sd_hcons (h : SdH X T E a ma) (hs : SdHs X T E es mhs) (he : starEach (a :: es) X.env = (false, eval a X.env) :: starEach es X.env := by rfl) : SdHs X T E (a :: es) (mHcons ma mhs) := by
  refine ⟨fun F α os st σ H Q R0 P => (pa_cons pe_sem pa_sem he).sem ?_⟩
  refine h.run F α os st σ H _ R0 (P.bnd fun r st1 α1 os1 H1 P1 v nf s1 R1 hv e1 P => ?_)
  obtain ⟨rfl, k1⟩ := hv
  rw [FP_nil] at s1 R1 k1
  refine hs.run F α1 os1 st1 σ H1 _ R1 ((P.later s1).bnd fun ds st2 α2 os2 H2 P2 w nf2 s2 R2 hw e2 P => ?_)
  obtain ⟨rfl, k2⟩ := hw
  rw [FP_nil] at s2 R2 k2
  exact (P.later s2).done0 Stp.refl R2 ⟨rfl, .cons (k1.step s2) k2⟩
def atAll : List Hd → Sto → Option (List D)
  | [], _ => some []
  | h :: hs, st => match h.at st with
    | some d => (match atAll hs st with
      | some ds => some (d :: ds)
      | none => none)
    | none => none
inductive PVs (K : PySem.W.Frag) (α : List Addr) (B : AP1) (H : Hp) : List V → List D → Prop
  | nil : PVs K α B H [] []
  | cons {v vs d ds} : PV K α B H v d → PVs K α B H vs ds → PVs K α B H (v :: vs) (d :: ds)
theorem HdsOk.at {K : PySem.W.Frag} {F : AP1} {α : List Addr} {os : List (List Addr)} {st : Sto} {σ : L2.St} {H : Hp} (r : Rel K T F α os st σ H) :
    ∀ {hs : List Hd} {vs : List V} {ds : List D}, HdsOk K σ α (BB F α os) H hs vs → atAll hs st = some ds → PVs K α (BB F α os) H vs ds
  | [], _, _, .nil, e => by cases e; exact .nil
  | h :: hs, _, _, .cons k ks, e => by
    unfold atAll at e
    cases q : h.at st with
    | none => rw [q] at e; cases e
    | some d =>
      rw [q] at e
      cases q2 : atAll hs st with
      | none => rw [q2] at e; cases e
      | some es =>
        rw [q2] at e
        cases e
        exact .cons (k.at r q) (HdsOk.at r ks q2)
structure CallD (X : Cx) (f : Value) (g : List D → Option Sl) : Prop where
  ex : ∃ r, CallR X f r ∧ ∀ (α : List Addr) (B : AP1) (H : Hp) (vs : List V) (ds : List D) (res : Sl), PVs X.K α B H vs ds → g ds = some res → res ≠ .un →
    ∀ Q, Want X.K α B H res Q → r vs H Q
def mCB (g : List D → Option Sl) (ms : MHs) : MV := fun st => (ms st).bnd fun hs st1 => match atAll hs st1 with
  | some ds => opt (g ds) st1
  | none => .no
theorem callD_run {g : List D → Option Sl} {r : List V → Hp → VK → Prop} {F : AP1} {α : List Addr} {os : List (List Addr)} {st : Sto} {σ : L2.St} {H : Hp} {Q : VK}
    (hr : ∀ (α : List Addr) (B : AP1) (H : Hp) (vs : List V) (ds : List D) (res : Sl), PVs X.K α B H vs ds → g ds = some res → res ≠ .un → ∀ Q, Want X.K α B H res Q → r vs H Q)
    (hs : SdHs X T E es mhs) (R0 : Rel X.K T F α os st σ H) (P : Post X.K T F α os σ H E (RV X.K) (mCB g mhs st) Q) : semA X es σ H fun vs H1 => r vs H1 Q := by
  refine hs.run F α os st σ H _ R0 (P.bnd fun r' st1 α1 os1 H1 P1 v nf s1 R1 hv e1 P => ?_)
  obtain ⟨rfl, k1⟩ := hv
  rw [FP_nil] at s1 R1 k1
  cases q1 : atAll r' st1 with
  | none => simp only [q1] at P; exact P.elim
  | some ds =>
    simp only [q1] at P
    cases q3 : opt (g ds) st1 with
    | no => rw [q3] at P; exact P.elim
    | er c z => unfold opt at q3; split at q3 <;> cases q3
    | ok res z =>
      obtain ⟨g1, g2, rfl⟩ := opt_ok q3
      rw [q3] at P
      exact hr _ _ _ _ _ _ (HdsOk.at R1 k1 q1) g1 g2 _ (want_post R1 (P.later s1))
theorem sd_callB {id : String} {x : Str} {p : Pos} {g : List D → Option Sl} (o : CallD X (.builtin id) g) (hg : Gl X x) (hm : X.mg x = none) (hv : bootBuiltins x = some (.builtin id)) (hs : SdHs X T E (a :: es) mhs)
    (hn : x ≠ "__name__" := by decide) (hdb : (x == ("__debug__" : Str)) = false := by decide)
    (he : starEach (a :: es) X.env = (false, eval a X.env) :: starEach es X.env := by rfl) (hpl : (backTo pos (starEach es X.env)).any (·.1) = false := by rfl) :
    SdV X T E (.Call (.Name x p) (a :: es) [] pos) (mCB g mhs) := by
  obtain ⟨r, ho, hr⟩ := o.ex
  exact ⟨fun F α os st σ H Q R0 P => (pe_callB ho hg hm hv pa_sem hn hdb he hpl).sem (callD_run hr hs R0 P)⟩
theorem sd_callTy {T' : String} {x : Str} {p : Pos} {g : List D → Option Sl} (o : CallD X (.type T') g) (hg : Gl X x) (hm : X.mg x = none) (hv : bootBuiltins x = some (.type T')) (hs : SdHs X T E (a :: es) mhs)
    (hn : x ≠ "__name__" := by decide) (hdb : (x == ("__debug__" : Str)) = false := by decide)
    (he : starEach (a :: es) X.env = (false, eval a X.env) :: starEach es X.env := by rfl) (hpl : (backTo pos (starEach es X.env)).any (·.1) = false := by rfl) :
    SdV X T E (.Call (.Name x p) (a :: es) [] pos) (mCB g mhs) := by
  obtain ⟨r, ho, hr⟩ := o.ex
  exact ⟨fun F α os st σ H Q R0 P => (pe_callTy ho hg hm hv pa_sem hn hdb he hpl).sem (callD_run hr hs R0 P)⟩
end
end Mi

local macro_rules | `(tactic| walk_at "rs") => `(tactic| first
  | refine ⟨_, rfl, ?_⟩
  | refine ⟨_, _, rfl, rfl, ?_⟩
  | refine iteT ?_
  | refine iteF ?_)
namespace Wr
open PySem PySem.Spec PyProof.Rows L2

/-! ## kinds -/
def tyN : PyData → String
  | .none => "NoneType"
  | .bool _ => "bool"
  | .int _ => "int"
  | .str _ => "str"
  | .list _ => "list"
  | .tuple _ => "tuple"
  | .dict _ => "dict"
def isI : PyData → Bool
  | .int _ => true
  | .bool _ => true
  | _ => false
def isB : PyData → Bool
  | .bool _ => true
  | _ => false
def isT : PyData → Bool
  | .tuple _ => true
  | _ => false
def isL : PyData → Bool
  | .list _ => true
  | _ => false
def isS : PyData → Bool
  | .str _ => true
  | _ => false
/-- an int that is no bool -/
def isW : PyData → Bool
  | .int _ => true
  | _ => false
theorem DV.ty {z : Prop} {B : Addr → Prop} {K : PySem.W.Frag} {H : Hp} :
    ∀ {v : V} {d : PyData}, DV z B H v d → TyX K H v (.type (tyN d))
  | _, _, .non => .base .non
  | _, _, .bl b => .base (.bl b)
  | _, _, .int i => .base (.int i)
  | _, _, .str x => .base (.str x)
  | _, _, .lst _ _ e _ => .base (.lst e)
  | _, _, .tup _ e _ => .base (.tup e)
  | _, _, .dic _ e _ _ => .base (.dK e)
/-- isinstance(x, T) of data -/
def rIsD (T : String) (f : PyData → Bool) : List V → Hp → VK → Prop := fun xs H Q =>
  ∃ (v : V) (d : PyData) (z : Prop) (B : Addr → Prop), xs = [v, .ty T] ∧ DV z B H v d ∧ Q (.bl (f d)) H
section
variable {X : Cx}
theorem call_isD {T : String} {f : PyData → Bool}
    (h : ∀ d, kitB (tyN d) T = some (f d)) : CallR X (.builtin "isinstance") (rIsD T f) := by
  intro pins s σ H xs us Q I r q
  obtain ⟨v, d, z, B, rfl, hd, q⟩ := q
  exact call_isi pins s σ H _ us Q I r ⟨v, .ty T, _, _, f d, rfl, .ty T, hd.ty, kit_ty (h d), q⟩
theorem isI_kit (d : PyData) : kitB (tyN d) "int" = some (isI d) := by
  cases d <;> simp only [tyN, isI] <;> decide +kernel
theorem isB_kit (d : PyData) : kitB (tyN d) "bool" = some (isB d) := by
  cases d <;> simp only [tyN, isB] <;> decide +kernel
theorem isT_kit (d : PyData) : kitB (tyN d) "tuple" = some (isT d) := by
  cases d <;> simp only [tyN, isT] <;> decide +kernel
theorem isL_kit (d : PyData) : kitB (tyN d) "list" = some (isL d) := by
  cases d <;> simp only [tyN, isL] <;> decide +kernel
theorem isS_kit (d : PyData) : kitB (tyN d) "str" = some (isS d) := by
  cases d <;> simp only [tyN, isS] <;> decide +kernel
theorem is_int : CallR X (.builtin "isinstance") (rIsD "int" isI) := call_isD isI_kit
theorem is_bool : CallR X (.builtin "isinstance") (rIsD "bool" isB) := call_isD isB_kit
theorem is_tuple : CallR X (.builtin "isinstance") (rIsD "tuple" isT) := call_isD isT_kit
theorem is_list : CallR X (.builtin "isinstance") (rIsD "list" isL) := call_isD isL_kit
theorem is_str : CallR X (.builtin "isinstance") (rIsD "str" isS) := call_isD isS_kit
end
/-- is_whole, is_integer -/
def sp_whole : Sp := fun vs H Q _ => ∃ (v : V) (d : PyData) (z : Prop) (B : Addr → Prop),
  vs = [v] ∧ DV z B H v d ∧ Q (.bl (isW d)) H
theorem whole_of {Q : VK} {H : Hp} {d : PyData} (q : Q (.bl (isW d)) H) :
    if isI d = true then Q (.bl (!isB d)) H else Q (.bl false) H := by
  cases d <;> exact q

/-! ## greatest common divisors -/
theorem gcd_fmod (a b : Int) : Int.gcd b (a.fmod b) = Int.gcd a b := by
  have e : a.fmod b = a - b * a.fdiv b := by
    have := Int.fmod_add_mul_fdiv a b
    omega
  rw [e, Int.gcd_comm a b]
  have e2 : a - b * a.fdiv b = a + b * (-(a.fdiv b)) := by rw [Int.mul_neg]; omega
  rw [e2]
  exact Int.gcd_add_mul_left_right b a (-(a.fdiv b))
theorem nb_int {a b : Int} (e : (!decide (V.int a = V.int b)) = true) : a ≠ b := fun z => by
  subst z
  simp at e
theorem nb_int' {a b : Int} (e : ¬ (!decide (V.int a = V.int b)) = true) : a = b := by
  by_cases h : a = b
  · exact h
  · have : (!decide (V.int a = V.int b)) = true := by simp [h]
    exact absurd this e
theorem yb_int {a b : Int} (e : decide (V.int a = V.int b) = true) : a = b :=
  V.int.inj (of_decide_eq_true e)
theorem yb_int' {a b : Int} (e : ¬ decide (V.int a = V.int b) = true) : a ≠ b := fun z =>
  e (by rw [z]; exact decide_eq_true rfl)
theorem fmod_small (t : Int) {u : Int} (h : u ≠ 0) : (t.fmod u).natAbs < u.natAbs := by
  rcases Int.lt_or_gt_of_ne h with n | p
  · have e := Int.neg_fmod_neg (-t) (-u)
    rw [Int.neg_neg, Int.neg_neg] at e
    have h1 := Int.fmod_nonneg_of_pos (-t) (b := -u) (by omega)
    have h2 := Int.fmod_lt_of_pos (-t) (b := -u) (by omega)
    omega
  · rw [Int.fmod_eq_emod_of_nonneg t (by omega)]
    have h1 := Int.emod_nonneg t h
    have h2 := Int.emod_lt_of_pos t p
    omega
/-- the two ways of reckoning a divisor -/
theorem gcd_zero_abs (a : Int) : (if a < 0 then -a else a) = (Int.gcd a 0 : Nat) := by
  rw [Int.gcd_zero_right]
  split <;> omega
def sp_gcdP : Sp := fun vs H Q _ => ∃ a b : Int, vs = [.int a, .int b] ∧ 0 < b ∧
  Q (.int (Int.gcd a b : Nat)) H
def sp_gcd : Sp := fun vs H Q _ => ∃ a b : Int, vs = [.int a, .int b] ∧
  Q (.int (Int.gcd a b : Nat)) H

/-! ## fractions as data -/
def isFr2 : PyData → PyData → Bool
  | .int t, .int b => decide (1 ≤ b) && decide (Int.gcd t b = 1)
  | _, _ => false
def isFrs : List PyData → Bool
  | [a, b] => isFr2 a b
  | _ => false
def isFrac : PyData → Bool
  | .tuple ds => isFrs ds
  | _ => false
theorem isFrac_len {ds : List PyData} (h : ds.length ≠ 2) : isFrac (.tuple ds) = false := by
  match ds, h with
  | [], _ => rfl
  | [_], _ => rfl
  | [_, _], h => exact absurd rfl h
  | _ :: _ :: _ :: _, _ => rfl
theorem isFrac_no {d : PyData} (h : ¬ isT d = true) : isFrac d = false := by
  cases d <;> first | rfl | exact absurd rfl h
theorem isFrac_w {a b : PyData} (h : isW a = false ∨ isW b = false) :
    isFrac (.tuple [a, b]) = false := by
  cases a <;> cases b <;> first | rfl | (rcases h with h | h <;> cases h)
theorem isW_int {d : PyData} (h : ¬ isW d = false) : ∃ i, d = .int i := by
  cases d <;> first | exact ⟨_, rfl⟩ | exact absurd rfl h
theorem isT_tup {d : PyData} (h : isT d = true) : ∃ ds, d = .tuple ds := by
  cases d <;> first | exact ⟨_, rfl⟩ | cases h
theorem DV.tupI {z : Prop} {B : Addr → Prop} {H : Hp} {v : V} {ds : List PyData}
    (h : DV z B H v (.tuple ds)) : ∃ a xs, v = .ref a ∧ ¬ B a ∧ H a = some (.tup xs) ∧
      DVs z B H xs ds := by
  cases h with
  | tup n e h => exact ⟨_, _, rfl, n, e, h⟩
theorem DV.intI {z : Prop} {B : Addr → Prop} {H : Hp} {v : V} {i : Int}
    (h : DV z B H v (.int i)) : v = .int i := by
  cases h
  rfl
theorem two_of {α : Type} {xs : List α} (h : xs.length = 2) : ∃ a b, xs = [a, b] := by
  match xs, h with
  | [a, b], _ => exact ⟨a, b, rfl⟩
theorem DVs.twoI {z : Prop} {B : Addr → Prop} {H : Hp} {xs : List V} {a b : PyData}
    (h : DVs z B H xs [a, b]) : ∃ x y, xs = [x, y] ∧ DV z B H x a ∧ DV z B H y b := by
  cases h with
  | cons h t => cases t with
    | cons h2 t2 =>
      cases t2
      exact ⟨_, _, rfl, h, h2⟩
def sp_isfrac : Sp := fun vs H Q _ => ∃ (v : V) (d : PyData) (z : Prop) (B : Addr → Prop),
  vs = [v] ∧ DV z B H v d ∧ Q (.bl (isFrac d)) H

/-! ## the supply -/
def Sup (S : Addr) (H : Hp) : Prop := ∃ a b c : Int, H S = some (.lst [.int a, .int b, .int c]) ∧
  0 ≤ a ∧ 0 ≤ b ∧ b < 2147483648
abbrev At (S : Addr) : Addr → Prop := fun a => a = S
theorem Sup.tr {S : Addr} {H : Hp} (h : Sup S H) : H S ≠ none := by
  obtain ⟨a, b, c, e, _⟩ := h
  rw [e]
  exact fun z => nomatch z
theorem Sup.same {S : Addr} {H H' : Hp} (h : Sup S H) (s : Same H H') : Sup S H' := by
  obtain ⟨a, b, c, e, r⟩ := h
  exact ⟨a, b, c, s _ _ e, r⟩
theorem Sup.keep {S : Addr} {B : Addr → Prop} {H H' : Hp} (h : Sup S H) (s : Keep B H H')
    (n : ¬ B S) : Sup S H' := by
  obtain ⟨a, b, c, e, r⟩ := h
  exact ⟨a, b, c, s _ _ n e, r⟩
def sp_cell (K : PySem.W.Frag) : Sp := fun vs H Q _ => ∃ (a : Addr) (ns : List Int) (k : Int),
  vs = [.ref a, .int k] ∧ SqL K H a (ns.map V.int) ∧ 0 ≤ k ∧ ∀ c : Int, Q (.int c) H
def sp_source : Sp := fun vs H Q _ => ∃ c : Int, vs = [.int c] ∧
  ∀ S H', Same H H' → H S = none → Sup S H' → Q (.ref S) H'
def sp_draw : Sp := fun vs H Q _ => ∃ (S : Addr) (m : Int), vs = [.ref S, .int m] ∧ Sup S H ∧
  0 < m ∧ m < 2 ^ 70 ∧
  ∀ r H', Keep (At S) H H' → Sup S H' → 0 ≤ r → r < m → Q (.int r) H'
theorem divW {m : Int} (h0 : 0 < m) (h : m < 2 ^ 70) (i : Int) : CDivW i m :=
  wide_div (b := 70) h0 (by omega) (by decide) (by decide)
/-- an item of a list, by a draw -/
def sp_choose : Sp := fun vs H Q _ => ∃ (S L : Addr) (xs : List V), vs = [.ref S, .ref L] ∧
  Sup S H ∧ H L = some (.lst xs) ∧ 0 < xs.length ∧ xs.length < 1000000 ∧ L ≠ S ∧
  ∀ (i : Nat) (v : V) (H' : Hp), Keep (At S) H H' → Sup S H' → xs[i]? = some v → Q v H'
/-- two data alike -/
def sp_eqB : Sp := fun vs H Q _ => ∃ a b : Bool, vs = [.bl a, .bl b] ∧ Q (.bl (decide (a = b))) H
theorem shown_bool (a b : Bool) :
    decide (V.str (PyData.bool a).shown = V.str (PyData.bool b).shown) = decide (a = b) := by
  cases a <;> cases b <;> decide +kernel
theorem at_int {α : Type} {xs : List α} {k : Int} {v : α} (h0 : 0 ≤ k)
    (h : xs[k.toNat]? = some v) : atI xs k = some v := by
  obtain ⟨n, rfl⟩ : ∃ n : Nat, k = n := ⟨k.toNat, by omega⟩
  exact atI_nat h
theorem Keep.sup {S : Addr} {H : Hp} {o : HO} : Keep (At S) H (upd H S o) :=
  Keep.at (B := At S) rfl

/-! ## fractions reckoned -/
section
variable {X : Cx}
def CDivG (_ j : Int) : Prop := j ≠ 0 ∧ j.natAbs.log2 < 9000
theorem op_fdivG : OpR X (binaryOp .FloorDiv) (rI CDivG fun i j => .int (i.fdiv j)) :=
  opI fun _ _ _ _ _ _ _ hc q => floordiv_int hc.1 q (.inl (PyProof.noPylong_of_log2 hc.2))
end
theorem divG {m : Int} (h0 : m ≠ 0) (h : m.natAbs < 2 ^ 4000) (i : Int) : CDivG i m := by
  refine ⟨h0, ?_⟩
  have : m.natAbs.log2 < 4000 := (Nat.log2_lt (by omega)).mpr h
  omega
def frT (t b : Int) : Int := (if b < 0 then -t else t) / ((Int.gcd t b : Nat) : Int)
def frB (t b : Int) : Int := (if b < 0 then -b else b) / ((Int.gcd t b : Nat) : Int)
theorem gcd_posR {t b : Int} (h : b ≠ 0) : 0 < Int.gcd t b := Int.gcd_pos_of_ne_zero_right t h
theorem gcd_leR {t b : Int} (h : b ≠ 0) : Int.gcd t b ≤ b.natAbs :=
  Nat.le_of_dvd (by omega) (by rw [Int.gcd_comm]; exact Int.gcd_dvd_natAbs_left b t)
theorem fdiv_neg' (a : Int) {g : Int} (h : 0 < g) : a.fdiv (0 - g) = (-a) / g := by
  have e := Int.neg_fdiv_neg (-a) g
  rw [Int.neg_neg] at e
  rw [Int.zero_sub, e, Int.fdiv_eq_ediv_of_nonneg _ (by omega)]
theorem fr_ways {t b g : Int} (h : b ≠ 0) (hg : g = if b < 0 then 0 - ((Int.gcd t b : Nat) : Int)
    else ((Int.gcd t b : Nat) : Int)) : t.fdiv g = frT t b ∧ b.fdiv g = frB t b := by
  have p := gcd_posR (t := t) h
  unfold frT frB
  subst hg
  by_cases n : b < 0
  · rw [if_pos n, if_pos n, if_pos n]
    exact ⟨fdiv_neg' t (by omega), fdiv_neg' b (by omega)⟩
  · rw [if_neg n, if_neg n, if_neg n]
    exact ⟨Int.fdiv_eq_ediv_of_nonneg _ (by omega), Int.fdiv_eq_ediv_of_nonneg _ (by omega)⟩
theorem natAbs_ediv_le (a : Int) {g : Int} (h : 0 < g) : (a / g).natAbs ≤ a.natAbs := by
  rcases Int.lt_or_le a 0 with n | p
  · have h1 : a ≤ a / g := by
      have := Int.mul_ediv_add_emod a g
      have e0 := Int.emod_nonneg a (show g ≠ 0 by omega)
      have e1 := Int.emod_lt_of_pos a h
      rcases Int.lt_or_le (a / g) a with x | x
      · exfalso
        have : g * (a / g) ≤ g * (a - 1) := Int.mul_le_mul_of_nonneg_left (by omega) (by omega)
        have h3 : g * (a - 1) = g * a - g := by rw [Int.mul_sub, Int.mul_one]
        have h4 : g * a ≤ 1 * a := Int.mul_le_mul_of_nonpos_right (by omega) (by omega)
        omega
      · exact x
    have h2 : a / g ≤ 0 := Int.ediv_nonpos_of_nonpos_of_neg (by omega) h
    omega
  · have h1 : 0 ≤ a / g := Int.ediv_nonneg p (by omega)
    have h2 : a / g ≤ a := Int.ediv_le_self g p
    omega
theorem frT_le {t b : Int} (h : b ≠ 0) : (frT t b).natAbs ≤ t.natAbs := by
  have p := gcd_posR (t := t) h
  unfold frT
  refine Nat.le_trans (natAbs_ediv_le _ (by omega)) ?_
  split <;> omega
theorem frB_le {t b : Int} (h : b ≠ 0) : (frB t b).natAbs ≤ b.natAbs := by
  have p := gcd_posR (t := t) h
  unfold frB
  refine Nat.le_trans (natAbs_ediv_le _ (by omega)) ?_
  split <;> omega
def sp_lfrac : Sp := fun vs H Q _ => ∃ t b : Int, vs = [.int t, .int b] ∧ b ≠ 0 ∧
  b.natAbs < 2 ^ 4000 ∧ ∀ p H', Same H H' → H p = none →
    H' p = some (.tup [.int (frT t b), .int (frB t b)]) → Q (.ref p) H'
theorem DVs.pick {z : Prop} {B : Addr → Prop} {H : Hp} {xs : List V} {ds : List PyData} {i : Nat}
    {v : V} {p : PyData → Prop} (h : DVs z B H xs ds) (e : xs[i]? = some v) (a : ∀ d ∈ ds, p d) :
    ∃ d, p d ∧ DV z B H v d := by
  obtain ⟨d, h1, h2⟩ := h.at e
  exact ⟨d, a d (List.mem_of_getElem? h1), h2⟩
/-- the heap stays, but for what is new -/
def sp_isfracL : Sp := fun vs H Q _ => ∃ (v : V) (d : PyData) (z : Prop) (B : Addr → Prop),
  vs = [v] ∧ DV z B H v d ∧ ∀ H', Same H H' → Q (.bl (isFrac d)) H'
def gdB (W D : Nat) (d : PyData) : Bool := decide (d.weight ≤ W) && decide (d.depth ≤ D) && okS d
theorem gd_of {W D : Nat} {d : PyData} (h : gdB W D d = true) : Gd W D d := by
  unfold gdB at h
  simp only [Bool.and_eq_true, decide_eq_true_eq] at h
  exact ⟨h.1.1, h.1.2, h.2⟩
theorem gd_all {W D : Nat} {ds : List PyData} (h : ds.all (gdB W D) = true) : ∀ d ∈ ds, Gd W D d :=
  fun d m => gd_of (List.all_eq_true.mp h d m)
/-- some odd thing -/
def sp_odd : Sp := fun vs H Q _ => ∃ S : Addr, vs = [.ref S] ∧ Sup S H ∧
  ∀ (v : V) (d : PyData) (H' : Hp), Keep (At S) H H' → Sup S H' → DV True (Tr H) H' v d →
    Gd 60 5 d → Q v H'
theorem DV.lstI {z : Prop} {B : Addr → Prop} {H : Hp} {v : V} {ds : List PyData}
    (h : DV z B H v (.list ds)) : ∃ a xs, v = .ref a ∧ ¬ B a ∧ H a = some (.lst xs) ∧
      DVs z B H xs ds := by
  cases h with
  | lst n m e h => exact ⟨_, _, rfl, n, e, h⟩
theorem small1000' {n : Nat} (h : n ≤ 1000) : n ≤ sizeLine := Nat.le_of_lt (small1000 h)
mutual
theorem DV.keepS {z : Prop} {B C : Addr → Prop} {H H' : Hp} (k : Keep C H H')
    (c : ∀ a, C a → B a) : ∀ {v : V} {d : PyData}, DV z B H v d → DV z B H' v d
  | _, _, .non => .non
  | _, _, .bl b => .bl b
  | _, _, .int i => .int i
  | _, _, .str x => .str x
  | _, _, .lst n m e h => .lst n m (k _ _ (fun y => n (c _ y)) e) (DVs.keepS k c h)
  | _, _, .tup n e h => .tup n (k _ _ (fun y => n (c _ y)) e) (DVs.keepS k c h)
  | _, _, .dic n e q h => .dic n (k _ _ (fun y => n (c _ y)) e) q (DVs.keepS k c h)
theorem DVs.keepS {z : Prop} {B C : Addr → Prop} {H H' : Hp} (k : Keep C H H')
    (c : ∀ a, C a → B a) : ∀ {vs : List V} {ds : List PyData}, DVs z B H vs ds → DVs z B H' vs ds
  | _, _, .nil => .nil
  | _, _, .cons h t => .cons (DV.keepS k c h) (DVs.keepS k c t)
end
end Wr

namespace Wr
open PySem PySem.Spec PyProof.Rows L2

/-! ## t[::-1] of a tuple -/
section
variable {prog : Program} {w : World} {A : Around} {E : Value → Shared → Prop} {s : Shared}
theorem places_back (n : Nat) : Builtin.Slice.slicePlaces ((n : Int) - 1) (-1) (-1) = n := by
  unfold Builtin.Slice.slicePlaces
  have z : ¬ ((-1 : Int) > 0) := by decide
  simp only [z, if_false]
  split
  · rw [show (- -1 : Int) = 1 by decide, Int.ediv_one]
    omega
  · omega
theorem adjust_back (n : Nat) :
    Builtin.Slice.sliceAdjust none none (-1) (n : Int) = ((n : Int) - 1, -1) := by
  unfold Builtin.Slice.sliceAdjust
  have z : (-1 : Int) < 0 := by decide
  simp only [z, if_true]
theorem applied_back {sl : Addr} {vk : Value} {n : Nat} {Q : Int × Int × Nat → Shared → Prop}
    (hs : s.heap.IsSliceOf sl .none .none vk) (pk : IsPart vk (some (-1)))
    (h : Q ((n : Int) - 1, -1, n) s) :
    wpAny (model prog w) A (Builtin.Slice.sliceApplied (.ref sl) (pure (n : Int))) Q E s := by
  obtain ⟨ob, hob, hc, hd⟩ := id hs
  unfold Builtin.Slice.sliceApplied Builtin.Slice.sliceFields
  have q : wpAny (model prog w) A (pure (Value.none, Value.none, vk))
      (fun r s' => r = (Value.none, Value.none, vk) ∧ s' = s) E s := wpAny_pure ⟨rfl, rfl⟩
  refine wpAny_bind (wpAny_bind (wpAny_field hob hd (x := .none) rfl ?_))
  refine wpAny_bind (wpAny_field hob hd (x := .none) rfl ?_)
  refine wpAny_bind (wpAny_field hob hd (x := vk) rfl (wpAny_pure ?_))
  refine wpAny_bind (HT.slicePart_ pk ?_)
  show wpAny _ _ (if ((-1 : Int) == 0) = true then _ else _) _ _ s
  rw [if_neg (by decide)]
  refine wpAny_bind (slicePart_none (wpAny_bind (slicePart_none ?_)))
  refine wpAny_bind (wpAny_pure ?_)
  show wpAny _ _ (match Builtin.Slice.sliceAdjust none none (-1) (n : Int) with
    | (lo, hi) => pure (lo, (-1 : Int), Builtin.Slice.slicePlaces lo hi (-1))) _ _ s
  rw [adjust_back n]
  show wpAny _ _ (pure ((n : Int) - 1, (-1 : Int),
    Builtin.Slice.slicePlaces ((n : Int) - 1) (-1) (-1))) _ _ s
  rw [places_back]
  exact wpAny_pure h
theorem fm_congr {α β : Type} {f g : α → Option β} : ∀ {l : List α}, (∀ x ∈ l, f x = g x) →
    l.filterMap f = l.filterMap g
  | [], _ => rfl
  | x :: l, h => by
    rw [List.filterMap_cons, List.filterMap_cons, h x (List.mem_cons_self ..),
      fm_congr fun y hy => h y (List.mem_cons_of_mem _ hy)]
theorem pick_back (xs : Array Value) : ((List.range xs.size).filterMap fun (m : Nat) =>
    xs[(((xs.size : Int) - 1) + (m : Int) * (-1)).toNat]?).toArray = xs.toList.reverse.toArray := by
  have e : ∀ m ∈ List.range xs.size, xs[(((xs.size : Int) - 1) + (m : Int) * (-1)).toNat]?
      = xs[xs.size - 1 - m]? := fun m hm => by
    have := List.mem_range.mp hm
    have h : (((xs.size : Int) - 1) + (m : Int) * (-1)).toNat = xs.size - 1 - m := by omega
    rw [h]
  rw [fm_congr e]
  have e2 : (fun m => xs[xs.size - 1 - m]?) = (fun x => xs[x]?) ∘ (fun k => xs.size - 1 - k) := rfl
  rw [e2, ← List.filterMap_map, PySem.W.krv_range, List.filterMap_reverse, PySem.W.krv_all]
theorem getItem_tuple_back {t sl : Addr} {items : Array Value} {vk : Value}
    {Q : Value → Shared → Prop} (ht : IsTup s.heap t items)
    (hs : s.heap.IsSliceOf sl .none .none vk) (pk : IsPart vk (some (-1)))
    (h : Q (.ref s.heap.objs.size) { s with heap := (s.heap.push
        { cls := .type "tuple", data := .seq items.toList.reverse.toArray }) })
    (hz : items.size ≤ sizeLine) : wpAny (model prog w) A (getItem (.ref t) (.ref sl)) Q E s := by
  have fits : sizeOk (.seq items.toList.reverse.toArray) := by
    show items.toList.reverse.toArray.size ≤ sizeLine
    rw [List.size_toArray, List.length_reverse, Array.length_toList]
    exact hz
  obtain ⟨ob, hob, hc, hd⟩ := id hs
  have hT : s.TypeIs (.ref sl) "slice" := ⟨ob, hob, hc⟩
  unfold getItem
  try with_reducible refine wpAny_holding ?_
  first | refine wpAny_bind (wpAny_pure ?_) | skip
  refine wpAny_bind (wpAny_sequenceKey ht.typeIs (by decide) ?_)
  refine wpAny_bind (wpAny_callSpecial?_slot (name := Str.ofString "__getitem__") ht.typeIs
    PyProof.Rows.slot_tuple_getitem (wpAny_call_entry PyProof.Rows.slot_tuple_getitem ht.typeIs
      entry_tuple_getitem ?_ (args_tuple_getitem _ _)))
  show wpAny _ _ (Builtin.Tuple.tupleItemsOf (.ref t) >>= _) _ _ s
  refine wpAny_bind (tupleItemsOf_ ht (wpAny_bind (wpAny_typeOf hT ?_)))
  rw [if_pos (by decide)]
  refine wpAny_bind (applied_back (n := items.size) hs pk ?_)
  have hno : ¬ ((((items.size : Int) - 1) == 0 && (-1 : Int) == 1 && items.size == items.size) = true) := by
    intro q
    rw [Bool.and_eq_true, Bool.and_eq_true] at q
    exact absurd q.1.2 (by decide)
  show wpAny _ _ (if (((items.size : Int) - 1) == 0 && (-1 : Int) == 1 && items.size == items.size) = true then _ else _) _ _ s
  rw [if_neg hno, pick_back]
  first
    | exact wpAny_bind (m := Builtin.Tuple.tupleExact _)
        (wpAny_newObj_type (wpAny_pure ⟨_, rfl, wpAny_pure h⟩) fits)
    | exact wpAny_bind (m := Builtin.Tuple.tupleExact _)
        (wpAny_newObj_type (wpAny_bind (wpAny_pure (wpAny_pure ⟨_, rfl, wpAny_pure h⟩))) fits)
    | exact wpAny_bind (wpAny_bind (m := Builtin.Tuple.tupleExact _)
        (wpAny_newObj_type (wpAny_pure (wpAny_pure ⟨_, rfl, wpAny_pure h⟩)) fits))
    | exact wpAny_bind (wpAny_bind (m := Builtin.Tuple.tupleExact _)
        (wpAny_newObj_type (wpAny_pure ⟨_, rfl, wpAny_pure h⟩) fits))
end
section
variable {X : Cx}
def tRevT (K : PySem.W.Frag) (te : TE) : TE := fun σ H Q => te σ H fun x H1 => ∃ a xs,
  x = .ref a ∧ SqT K H1 a xs ∧ ∀ p, H1 p = none → Q (.ref p) (upd H1 p (.tup xs.reverse))
theorem pe_revS {e : Expr} {te : TE} {k : Nat} {p1 p2 p3 pos : Pos} (he : PE X e te) :
    PE X (.Subscript e (.Slice none none (some (.UnaryOp .USub (.Constant (.int 1) k p1) p2)) p3) pos)
      (tRevT X.K te) := by
  refine ⟨fun pins s σ H Q I h => Subscript_ (thn (he.run pins s σ H _ I h) ?_)⟩
  rintro v s1 ⟨x, H1, I1, r1, a, xs, rfl, hx, q⟩
  cases r1
  have one : PO X (some (.UnaryOp .USub (.Constant (.int 1) k p1) p2))
      (tPart (tUn (rU fun i => .int (-i)) (tC (.int 1)))) := po_some (pe_un un_neg pe_int)
  refine wpAny_Slice (thn (po_none.run pins s1 σ H1 (fun o H2 => o = none ∧ H2 = H1) I1 ⟨rfl, rfl⟩) ?_)
  rintro vl s2 ⟨l, H2, I2, pl, rfl, rfl⟩
  refine thn (po_none.run pins s2 σ H2 (fun o H3 => o = none ∧ H3 = H2) I2 ⟨rfl, rfl⟩) ?_
  rintro vu s3 ⟨u, H3, I3, pu, rfl, rfl⟩
  refine thn (one.run pins s3 σ H3 (fun o H4 => o = some (-1) ∧ H4 = H3) I3 ⟨1, rfl, -1, rfl, rfl, rfl⟩) ?_
  rintro vs s4 ⟨o, H4, I4, ps, rfl, rfl⟩
  have I5 : Inv X pins σ H4 { s4 with heap := (s4.heap.push
        { cls := .type "slice", data := .fields #[vl, vu, vs] }) } :=
    I4.kept (t' := s4.toks) fun b ob q => Heap.get?_push_of_some _ q
  obtain ⟨its, r, ht, hz⟩ := I5.tuple hx
  have hlen := r.length
  cases pl
  cases pu
  show wpAny (model X.prog X.w) X.A (subscriptTail e (.Slice none none (some (.UnaryOp .USub
    (.Constant (.int 1) k p1) p2)) p3) (.ref a) (.ref s4.heap.objs.size)) (EP X pins σ Q) X.xe _
  refine tail_any (ops := [.ref a, .ref s4.heap.objs.size]) ht.typeIs
    PyProof.Rows.slot_tuple_getitem.lookup ?_ (by with_unfolding_all rfl)
  refine getItem_tuple_back ht (Heap.IsSliceOf.new _ .none .none vs) ps ?_
    (by rw [List.size_toArray]; omega)
  refine ⟨.ref _, _, I5.laid (t' := s4.toks) (o := .tup xs.reverse)
    (fun b ob q => Heap.get?_push_of_some _ q) (Nat.le_refl _) ?_, rfl, q _ (I5.hok.fresh (Nat.le_refl _))⟩
  refine ⟨by rw [List.length_reverse]; exact hz, its.reverse, r.reverse, ⟨_, Heap.get?_push_size _ rfl, rfl, _, rfl⟩⟩
end
end Wr

namespace Wr
open PySem PySem.Spec PyProof.Rows L2

/-! ## sizes of rows -/
theorem wAll_app : ∀ xs ys : List PyData,
    PyData.weightAll (xs ++ ys) = PyData.weightAll xs + PyData.weightAll ys
  | [], ys => by simp only [List.nil_append, PyData.weightAll, Nat.zero_add]
  | x :: xs, ys => by
    rw [List.cons_append]
    simp only [PyData.weightAll, wAll_app xs ys]
    omega
theorem dAll_app : ∀ xs ys : List PyData,
    PyData.depthAll (xs ++ ys) = max (PyData.depthAll xs) (PyData.depthAll ys)
  | [], ys => by simp only [List.nil_append, PyData.depthAll, Nat.zero_max]
  | x :: xs, ys => by
    rw [List.cons_append]
    simp only [PyData.depthAll, dAll_app xs ys]
    omega
theorem okAll_app : ∀ xs ys : List PyData, okSs (xs ++ ys) = (okSs xs && okSs ys)
  | [], ys => by simp only [List.nil_append, okSs, Bool.true_and]
  | x :: xs, ys => by
    rw [List.cons_append]
    simp only [okSs, okAll_app xs ys, Bool.and_assoc]
structure Gs (W D : Nat) (es : List PyData) : Prop where
  w : PyData.weightAll es ≤ W
  d : PyData.depthAll es ≤ D
  s : okSs es = true
theorem Gs.mono {W D W' D' : Nat} {es : List PyData} (g : Gs W D es) (h : W ≤ W') (h' : D ≤ D') :
    Gs W' D' es := ⟨Nat.le_trans g.w h, Nat.le_trans g.d h', g.s⟩
theorem Gs.nil {W D : Nat} : Gs W D [] := ⟨Nat.zero_le _, Nat.zero_le _, rfl⟩
theorem Gs.app {W D W' : Nat} {xs ys : List PyData} (g : Gs W D xs) (h : Gs W' D ys) :
    Gs (W + W') D (xs ++ ys) := by
  refine ⟨?_, ?_, ?_⟩
  · rw [wAll_app]
    exact Nat.add_le_add g.w h.w
  · rw [dAll_app]
    exact Nat.max_le.mpr ⟨g.d, h.d⟩
  · rw [okAll_app, g.s, h.s]
    rfl
theorem Gs.of_app {W D : Nat} {xs ys : List PyData} (g : Gs W D (xs ++ ys)) :
    Gs W D xs ∧ Gs W D ys := by
  have h1 := g.w
  have h2 := g.d
  have h3 := g.s
  rw [wAll_app] at h1
  rw [dAll_app] at h2
  rw [okAll_app, Bool.and_eq_true] at h3
  exact ⟨⟨by omega, by omega, h3.1⟩, ⟨by omega, by omega, h3.2⟩⟩
theorem Gs.take {W D : Nat} {xs : List PyData} (g : Gs W D xs) (n : Nat) : Gs W D (xs.take n) := by
  rw [← List.take_append_drop n xs] at g
  exact g.of_app.1
theorem Gs.drop {W D : Nat} {xs : List PyData} (g : Gs W D xs) (n : Nat) : Gs W D (xs.drop n) := by
  rw [← List.take_append_drop n xs] at g
  exact g.of_app.2
theorem Gs.one {W D : Nat} {x : PyData} (g : Gd W D x) : Gs (W + 1) D [x] := by
  refine ⟨?_, ?_, ?_⟩
  · simp only [PyData.weightAll]
    have := g.w
    omega
  · simp only [PyData.depthAll]
    have := g.d
    omega
  · simp only [okSs, g.s, Bool.and_true]
theorem Gs.rev {W D : Nat} : ∀ {xs : List PyData}, Gs W D xs → Gs W D xs.reverse
  | [], g => g
  | x :: xs, g => by
    have h := Gs.of_app (xs := [x]) (ys := xs) g
    have hw : PyData.weightAll (x :: xs) ≤ W := g.w
    have h2 : Gs (W - PyData.weightAll [x]) D xs := by
      refine ⟨?_, h.2.d, h.2.s⟩
      simp only [PyData.weightAll] at hw ⊢
      omega
    have h3 := Gs.rev h2
    have h1 : Gs (PyData.weightAll [x]) D [x] := ⟨Nat.le_refl _, h.1.d, h.1.s⟩
    rw [List.reverse_cons]
    refine (h3.app h1).mono ?_ (Nat.le_refl _)
    simp only [PyData.weightAll] at hw ⊢
    omega
theorem Gd.tup {W D : Nat} {es : List PyData} (g : Gs W D es) : Gd W (D + 1) (.tuple es) :=
  ⟨by simp only [PyData.weight]; exact g.w, by simp only [PyData.depth]; have := g.d; omega,
    by simp only [okS]; exact g.s⟩
theorem Gd.lst {W D : Nat} {es : List PyData} (g : Gs W D es) : Gd W (D + 1) (.list es) :=
  ⟨by simp only [PyData.weight]; exact g.w, by simp only [PyData.depth]; have := g.d; omega,
    by simp only [okS]; exact g.s⟩
theorem Gd.tupI {W D : Nat} {es : List PyData} (g : Gd W D (.tuple es)) :
    1 ≤ D ∧ Gs W (D - 1) es := by
  have h1 := g.w
  have h2 := g.d
  have h3 := g.s
  simp only [PyData.weight] at h1
  simp only [PyData.depth] at h2
  simp only [okS] at h3
  exact ⟨by omega, h1, by omega, h3⟩
theorem Gd.int {W D : Nat} {i : Int} (h : i.natAbs < 2 ^ W) : Gd W D (.int i) :=
  ⟨int_w_lt h, by simp only [PyData.depth]; exact Nat.zero_le _, rfl⟩
theorem Gd.bool {W D : Nat} {b : Bool} : Gd W D (.bool b) :=
  ⟨by simp only [PyData.weight]; exact Nat.zero_le _, by simp only [PyData.depth]; exact Nat.zero_le _, rfl⟩
/-- the place of an item: what is ahead, what is behind -/
theorem split_at {α : Type} {xs : List α} {i : Nat} {x : α} (h : xs[i]? = some x) :
    xs = xs.take i ++ x :: xs.drop (i + 1) := by
  obtain ⟨hl, e⟩ := List.getElem?_eq_some_iff.mp h
  rw [← e, List.getElem_cons_drop, List.take_append_drop]
theorem Gs.item {W D : Nat} {xs : List PyData} {i : Nat} {x : PyData} (g : Gs W D xs)
    (h : xs[i]? = some x) : Gd W D x ∧ x.weight + 1 + PyData.weightAll (xs.take i)
      + PyData.weightAll (xs.drop (i + 1)) ≤ W := by
  have e := split_at h
  have h1 := g.w
  have g2 := g
  rw [e] at g2
  have g3 := Gs.of_app (xs := [x]) g2.of_app.2
  have g4 := g3.1
  rw [e, wAll_app] at h1
  simp only [PyData.weightAll] at h1
  refine ⟨⟨?_, ?_, ?_⟩, ?_⟩
  · have := g4.w
    simp only [PyData.weightAll] at this
    omega
  · have := g4.d
    simp only [PyData.depthAll] at this
    omega
  · have := g4.s
    simp only [okSs, Bool.and_true] at this
    exact this
  · omega
/-- the text of a number -/
theorem int_text_w {i : Int} {W : Nat} (h : i.natAbs < 2 ^ W) :
    Gd (W + 2) 0 (.str (toString i)) := by
  have h1 := int_shown_le (int_w_lt h)
  refine ⟨?_, by simp only [PyData.depth]; exact Nat.zero_le _, ?_⟩
  · simp only [PyData.weight]
    simp only [PyData.shown] at h1
    exact h1
  · simp only [okS]
    rw [List.all_eq_true]
    intro c hc
    have d : ¬ (c ≠ 45 ∧ (c < 48 ∨ 57 < c)) := fun k => int_text_free' c k i hc
    exact decide_eq_true (by omega)

/-! ## plain data -/
mutual
theorem DV.dp {z : Prop} {B : Addr → Prop} {K : PySem.W.Frag} {H : Hp} : ∀ (d : PyData) (v : V),
    DV z B H v d → d.canLay0 = true → Dp K H v d
  | .none, _, .non, _ => .non
  | .bool b, _, .bl _, _ => .bl b
  | .int i, _, .int _, _ => .int i
  | .str x, _, .str _, _ => .str x
  | .list ds, _, .lst _ _ e h, c => by
    simp only [PyData.canLay0] at c
    exact .lst (.inl (.inl e)) (DVs.dp ds _ h c)
  | .tuple ds, _, .tup _ e h, c => by
    simp only [PyData.canLay0] at c
    exact .tup (.inl (.inl e)) (DVs.dp ds _ h c)
  | .dict es, _, _, c => by simp only [PyData.canLay0] at c; cases c
theorem DVs.dp {z : Prop} {B : Addr → Prop} {K : PySem.W.Frag} {H : Hp} : ∀ (ds : List PyData)
    (vs : List V), DVs z B H vs ds → PyData.canLayAll0 ds = true → DpAll K H vs ds
  | [], _, .nil, _ => .nil
  | d :: ds, _, .cons h t, c => by
    simp only [PyData.canLayAll0, Bool.and_eq_true] at c
    exact .cons (DV.dp d _ h c.1) (DVs.dp ds _ t c.2)
end
theorem shaped_of {d : PyData} (h : d.canLay0 = true) (h' : d.depth ≤ 64) : SeqAt.shaped d = true := by
  unfold SeqAt.shaped
  rw [h, decide_eq_true h']
  rfl
mutual
theorem ok_of_lay : ∀ d : PyData, d.canLay0 = true → okS d = true
  | .none, _ => rfl
  | .bool _, _ => rfl
  | .int _, _ => rfl
  | .str x, h => by
    simp only [PyData.canLay0, PyData.strOk] at h
    simp only [okS]
    rw [List.all_eq_true]
    intro c hc
    have := Array.all_eq_true_iff_forall_mem.mp h c (by simpa using hc)
    have := of_decide_eq_true this
    exact decide_eq_true (by omega)
  | .list xs, h => by
    simp only [PyData.canLay0] at h
    simp only [okS]
    exact ok_of_lays xs h
  | .tuple xs, h => by
    simp only [PyData.canLay0] at h
    simp only [okS]
    exact ok_of_lays xs h
  | .dict _, h => by simp only [PyData.canLay0] at h; cases h
theorem ok_of_lays : ∀ ds : List PyData, PyData.canLayAll0 ds = true → okSs ds = true
  | [], _ => rfl
  | d :: ds, h => by
    simp only [PyData.canLayAll0, Bool.and_eq_true] at h
    simp only [okSs, ok_of_lay d h.1, ok_of_lays ds h.2, Bool.and_self]
end
theorem layAll_at : ∀ {ds : List PyData} {i : Nat} {d : PyData}, PyData.canLayAll0 ds = true →
    ds[i]? = some d → d.canLay0 = true
  | d :: ds, 0, e, h, q => by
    simp only [PyData.canLayAll0, Bool.and_eq_true] at h
    rw [List.getElem?_cons_zero] at q
    cases q
    exact h.1
  | d :: ds, i + 1, e, h, q => by
    simp only [PyData.canLayAll0, Bool.and_eq_true] at h
    rw [List.getElem?_cons_succ] at q
    exact layAll_at h.2 q
theorem eqv_empty (ds : List PyData) : PyData.eqv (.tuple ds) (.tuple []) = ds.isEmpty := by
  cases ds <;> simp only [PyData.eqv, PyData.eqvAll, List.isEmpty]

/-! ## rules over data -/
section
variable {X : Cx}
def cutP (ds : List PyData) (lo hi : Option Int) : List PyData :=
  (ds.drop (HT.sIx ds.length 0 lo)).take (HT.sIx ds.length ds.length hi - HT.sIx ds.length 0 lo)
def rSlD : V → Option Int → Option Int → Hp → VK → Prop := fun x lo hi H Q =>
  ∃ (a : Addr) (xs : List V) (ds : List PyData) (z : Prop) (B : Addr → Prop), x = .ref a ∧ ¬ B a ∧
    H a = some (.tup xs) ∧ DVs z B H xs ds ∧ (∀ b, B b → Tr H b) ∧
    ∀ b ys H', Same H H' → ¬ B b → H' b = some (.tup ys) → DVs z B H' ys (cutP ds lo hi) →
      Q (.ref b) H'
theorem sl_dat : SlR X rSlD := by
  intro pins s σ H x v vl vu lo hi sl Q I rx hs pl pu h
  obtain ⟨a, xs, ds, z, B, rfl, na, e, hx, hB, q⟩ := h
  have hl := hx.length
  refine sl_tupA pins s σ H _ v vl vu lo hi sl Q I rx hs pl pu ⟨a, xs, rfl, .inl (.inl e), fun hw => ?_,
    fun hw p np => ?_⟩
  · refine q a xs H (Same.refl H) na e ?_
    have : cutP ds lo hi = ds := by
      unfold cutP
      rw [← hl, hw.1, hw.2, List.drop_zero, Nat.sub_zero, hl]
      exact List.take_of_length_le (Nat.le_refl _)
    rw [this]
    exact hx
  · refine q p _ _ (Same.new np) (fun m => hB p m np) upd_same ?_
    unfold cutP
    rw [← hl]
    exact ((hx.drop _).take _).keep (Keep.new np)
def rCatD : R2 := fun x y H Q => ∃ (a b : Addr) (xs ys : List V) (ds es : List PyData) (z : Prop)
  (B : Addr → Prop), x = .ref a ∧ y = .ref b ∧ ¬ B a ∧ ¬ B b ∧ H a = some (.tup xs) ∧
    H b = some (.tup ys) ∧ DVs z B H xs ds ∧ DVs z B H ys es ∧ (∀ b, B b → Tr H b) ∧
    ds.length + es.length ≤ sizeLine ∧
    ∀ c zs H', Same H H' → ¬ B c → H' c = some (.tup zs) → DVs z B H' zs (ds ++ es) →
      Q (.ref c) H'
theorem op_catD : OpR X (binaryOp .Add) rCatD := by
  intro pins s σ H x y v u Q I rx ry h
  obtain ⟨a, b, xs, ys, ds, es, z, B, rfl, rfl, na, nb, ea, eb, hx, hy, hB, hz, q⟩ := h
  have l1 := hx.length
  have l2 := hy.length
  refine op_catA pins s σ H _ _ v u Q I rx ry ⟨a, b, xs, ys, rfl, rfl, .inl (.inl ea),
    .inl (.inl eb), by omega, fun e => ?_, fun _ e => ?_, fun _ _ p np => ?_⟩
  · subst e
    cases hx
    exact q b ys H (Same.refl H) nb eb hy
  · subst e
    cases hy
    refine q a xs H (Same.refl H) na ea ?_
    rw [List.append_nil]
    exact hx
  · exact q p _ _ (Same.new np) (fun m => hB p m np) upd_same
      ((hx.app hy).keep (Keep.new np))
theorem call_listS : CallR X (.type "list") (fun xs H Q => ∃ p ys, xs = [.ref p] ∧
    SqT X.K H p ys ∧ ∀ l, H l = none → l ≠ sysModules → Q (.ref l) (upd H l (.lst ys))) := by
  intro pins s σ H xs us Q I r h
  obtain ⟨p, ys, rfl, hq, q⟩ := h
  obtain ⟨u, rfl, rx⟩ := vals1 r
  cases rx
  obtain ⟨its, r2, pl, hz⟩ := I.tuple hq
  have hlen := r2.length
  obtain ⟨o, ho, hc, n, hd⟩ := pl
  refine call_list_seq p (.inr rfl) ho hc hd (fun h2 c2 kp e => ?_)
    (by simp only [List.size_toArray]; omega)
  refine ⟨.ref s.heap.objs.size, _, I.laid (t' := s.toks) (o := .lst ys) kp (Nat.le_refl _) ?_, rfl,
    q _ (I.hok.fresh (Nat.le_refl _)) (Nat.ne_of_gt I.big)⟩
  exact ⟨hz, its, c2, r2, e⟩
end
/-! ## a word between two statements -/
section
variable {X : Cx}
def tMid (t u : TS) : TS := fun D σ H => ∃ R : L2.St → Hp → Prop,
  t { nx := R, rt := D.rt, bk := D.bk, ct := D.ct } σ H ∧ ∀ τ G, R τ G → u D τ G
theorem pss_mid {a : Stmt} {more : List Stmt} {t u : TS} (ha : PS X a t) (hm : PSs X more u) :
    PSs X (a :: more) (tMid t u) := by
  refine ⟨fun pins s σ H D I ⟨R, h1, h2⟩ => wpAny_execs_cons (thn (ha.run pins s σ H _ I h1) ?_)⟩
  intro fl s1 q
  match fl, q with
  | .next, ⟨τ, G, J, r⟩ => exact hm.run pins s1 τ G D J (h2 τ G r)
  | .ret _, q => exact q
  | .brk, q => exact q
  | .cont, q => exact q
end
theorem cutP_to (ds : List PyData) (i : Int) (h : 0 ≤ i) : cutP ds none (some i) = ds.take i.toNat := by
  unfold cutP
  obtain ⟨n, rfl⟩ : ∃ n : Nat, i = n := ⟨i.toNat, by omega⟩
  rw [HT.sIx_none, HT.sIx_nat, List.drop_zero, Nat.sub_zero, Int.toNat_natCast]
  by_cases h : n ≤ ds.length
  · rw [Nat.min_eq_left h]
  · rw [Nat.min_eq_right (by omega), List.take_of_length_le (Nat.le_refl _),
      List.take_of_length_le (by omega)]
theorem cutP_from (ds : List PyData) (i : Int) (h : 0 ≤ i) : cutP ds (some i) none = ds.drop i.toNat := by
  unfold cutP
  obtain ⟨n, rfl⟩ : ∃ n : Nat, i = n := ⟨i.toNat, by omega⟩
  rw [HT.sIx_none, HT.sIx_nat, Int.toNat_natCast]
  by_cases h : n ≤ ds.length
  · rw [Nat.min_eq_left h]
    exact List.take_of_length_le (by rw [List.length_drop]; exact Nat.le_refl _)
  · rw [Nat.min_eq_right (by omega), Nat.sub_self, List.take_zero, List.drop_eq_nil_of_le (by omega)]
/-- a value bent somewhere -/
def sp_bent (n : Nat) : Sp := fun vs H Q _ => ∃ (S : Addr) (v : V) (d : PyData) (W D : Nat)
  (B : Addr → Prop), vs = [.ref S, v, .int n] ∧ Sup S H ∧ (∀ a, B a → Tr H a) ∧ B S ∧
  DV True B H v d ∧ d.canLay0 = true ∧ Gd W D d ∧ W ≤ 1000 ∧ D ≤ 20 ∧
  ∀ (v' : V) (d' : PyData) (H' : Hp), Keep (At S) H H' → Sup S H' → DV True B H' v' d' →
    Gd (2 * W + 70) (D + 6) d' → Q v' H'
/-- a pair of numbers -/
def sp_pair : Sp := fun vs H Q _ => ∃ S : Addr, vs = [.ref S] ∧ Sup S H ∧
  ∀ (p : Addr) (x y : Int) (H' : Hp), Keep (At S) H H' → Sup S H' → H p = none →
    H' p = some (.tup [.int x, .int y]) → x.natAbs < 2 ^ 60 → y.natAbs < 2 ^ 60 → Q (.ref p) H'
theorem Keep.free {S p : Addr} {H H' : Hp} (k : Keep (At S) H H') (h : H' p = none) (n : p ≠ S) :
    H p = none := by
  cases e : H p with
  | none => rfl
  | some o =>
    rw [k p o n e] at h
    cases h
theorem Sup.ne {S p : Addr} {H : Hp} (h : Sup S H) (n : H p = none) : p ≠ S := fun e => h.tr (e ▸ n)
theorem sql_keep {K : PySem.W.Frag} {H H' : Hp} {S a : Addr} {xs : List V} (h : SqL K H a xs)
    (n : H S = none) (k : Keep (At S) H H') : SqL K H' a xs := by
  rcases h with (h | ⟨o, h⟩) | h
  · exact .inl (.inl (k _ _ (ne_of_none h n) h))
  · exact .inl (.inr ⟨o, k _ _ (ne_of_none h n) h⟩)
  · exact .inr h
/-- the law: from the script -/
def sp_law (K : PySem.W.Frag) : Sp := fun vs H Q _ => ∃ (a : Addr) (ns : List Int),
  vs = [.ref a] ∧ SqL K H a (ns.map V.int) ∧ ns.length ≤ 63 ∧ ∀ H', Q (.bl true) H'
theorem law_start (K : PySem.W.Frag) (H : Hp) (a : Addr) (ns : List Int) (hl : ns.length ≤ 63)
    (_ : Only H) (hS : SqL K H a (ns.map V.int)) :
    sp_law K [.ref a] H (fun v _ => v = .bl true) fun _ _ _ => False :=
  ⟨a, ns, rfl, hS, hl, fun _ => rfl⟩

/-! ## errors -/
abbrev veT : List Value := [.type "ValueError", .type "Exception", .type "BaseException", .type "object"]
/-- whether an error of the class at c is one that «except o» names -/
theorem exm_is {K : PySem.W.Frag} {c o : Addr} {r : Bool}
    (h1 : PySem.W.subIn K (.ref o) (.type "BaseException") = some true)
    (h2 : PySem.W.isClsIn K o = true) (h3 : PySem.W.typeIn K (.ref o) = some (.type "type"))
    (h4 : PySem.W.subIn K (.ref c) (.ref o) = some r) :
    PySem.W.exmOne K (.ref c) (.ref o) = some r := by
  have a1 : (PySem.W.subIn K (.ref o) (.type "BaseException") == some true) = true := by rw [h1]; rfl
  have a2 : (PySem.W.clsIn K o).isSome = true := h2
  have a3 : ((PySem.W.clsIn K o).isSome && PySem.W.typeIn K (.ref o) == some (.type "type")) = true := by
    rw [a2, h3]
    rfl
  unfold PySem.W.exmOne
  rw [if_pos a1]
  show (if ((PySem.W.clsIn K o).isSome && PySem.W.typeIn K (.ref o) == some (.type "type")) = true
    then PySem.W.subIn K (.ref c) (.ref o) else none) = some r
  rw [if_pos a3]
  exact h4
/-- two integers, the second not 0 -/
def frOk : PyData → PyData → Bool
  | .int _, .int b => decide (b ≠ 0)
  | _, _ => false
def sp_fraction (C : Addr) : Sp := fun vs H Q E => ∃ (v1 v2 : V) (d1 d2 : PyData) (z1 z2 : Prop)
  (B1 B2 : Addr → Prop), vs = [v1, v2] ∧ DV z1 B1 H v1 d1 ∧ DV z2 B2 H v2 d2 ∧
  (frOk d1 d2 = false → E (.ref C) none H) ∧
  ∀ t b, d1 = .int t → d2 = .int b → b ≠ 0 → b.natAbs < 2 ^ 4000 ∧ ∀ p H', Same H H' → H p = none →
    H' p = some (.tup [.int (frT t b), .int (frB t b)]) → Q (.ref p) H'
def sp_tryfrac : Sp := fun vs H Q _ => ∃ (v1 v2 : V) (d1 d2 : PyData) (z1 z2 : Prop)
  (B1 B2 : Addr → Prop), vs = [v1, v2] ∧ DV z1 B1 H v1 d1 ∧ DV z2 B2 H v2 d2 ∧
  (frOk d1 d2 = false → Q (.str "refused") H) ∧
  ∀ t b, d1 = .int t → d2 = .int b → b ≠ 0 → b.natAbs < 2 ^ 4000 ∧ ∀ p H', Same H H' → H p = none →
    H' p = some (.tup [.int (frT t b), .int (frB t b)]) → Q (.ref p) H'
/-- two readings of one datum -/
def sp_eqR (n : Nat) : Sp := fun vs H Q _ => ∃ (x y : V) (d : PyData) (z1 z2 : Prop)
  (B1 B2 : Addr → Prop), vs = [x, y] ∧ DV z1 B1 H x d ∧ DV z2 B2 H y d ∧
  (d.hasDict = true → z1 ∧ z2) ∧ Gd 1900 n d ∧ Q (.bl true) H
end Wr

namespace Wr
open PySem PySem.Spec PyProof.Rows L2

/-! ## comprehensions that make data -/
abbrev No : Addr → Prop := fun _ => False
theorem DV.no {z z' : Prop} {B : Addr → Prop} {H : Hp} {v : V} {d : PyData} (h : DV z B H v d)
    (hz : z' → z) : DV z' No H v d := h.less hz fun _ _ _ _ n => n
theorem DVs.no {z z' : Prop} {B : Addr → Prop} {H : Hp} {v : List V} {d : List PyData}
    (h : DVs z B H v d) (hz : z' → z) : DVs z' No H v d := h.less hz fun _ _ _ _ n => n
theorem _root_.L2.Same.at {G H : Hp} {D : Addr} {o : HO} (s : Same G H) (n : G D = none) :
    Same G (upd H D o) := fun a u e => by
  rw [upd_ne (ne_of_none e n)]
  exact s a u e
/-- one item more -/
theorem grow {G H2 H3 : Hp} {D : Addr} {acc : List V} {ds : List PyData} {y : V} {d : PyData}
    (nD : G D = none) (s2 : Same G H2) (e2 : H2 D = some (.lst acc))
    (h2 : DVs False (At D) H2 acc ds) (s3 : Same H2 H3) (h3 : DV False (At D) H3 y d) :
    Same G (upd H3 D (.lst (acc ++ [y]))) ∧
      (upd H3 D (.lst (acc ++ [y]))) D = some (.lst (acc ++ [y])) ∧
      DVs False (At D) (upd H3 D (.lst (acc ++ [y]))) (acc ++ [y]) (ds ++ [d]) := by
  have k : Keep (At D) H3 (upd H3 D (.lst (acc ++ [y]))) := Keep.sup
  exact ⟨(s2.trans s3).at nD, upd_same,
    ((h2.keep (Keep.same s3)).keep k).app (.cons (h3.keep k) .nil)⟩
section
variable {te : TE} {vs : List Nat} {σ : L2.St} {G : Hp} {D : Addr} {Qd : Hp → Prop} {k : Nat}
theorem lc_rangeD {lo : Int} {n : Nat} (f : Nat → PyData) (nD : G D = none) (hn : n ≤ 1000)
    (hw : ∀ x, wipe ((wipe σ vs).set k (some x)) vs = wipe σ vs)
    (hel : ∀ (i : Nat) (H2 : Hp) (Q : VK), i < n → Same G H2 → Tr H2 D →
      (∀ y H3, Same H2 H3 → DV False (At D) H3 y (f i) → Q y H3) →
      te ((wipe σ vs).set k (some (.int (lo + i)))) H2 Q)
    (hd : ∀ H' acc, Same G H' → H' D = some (.lst acc) →
      DVs False (At D) H' acc ((List.range n).map f) → Qd H') :
    ∃ W : Nat → Nat → Hp → Prop, (∃ m, W 0 m (upd G D (.lst []))) ∧ ∀ i m H, W i m H →
      ((Itr lo n).stop i H ∧ Qd H) ∨ ((Itr lo n).go i H ∧ ∃ Nx : Hp → Prop,
        (∀ H', Nx H' → ∃ m', m' < m ∧ W (i + 1) m' H') ∧ ∀ x H', (Itr lo n).yld i H x H' →
        gName k x (wipe σ vs) H' fun σ2 H2 => wipe σ2 vs = wipe σ vs ∧ tYes σ2 H2 fun b H3 =>
          if b = true then te σ2 H3 fun y H4 => ∃ acc, H4 D = some (.lst acc) ∧ acc.length < sizeLine ∧
            Nx (upd H4 D (.lst (acc ++ [y]))) else Nx H3) := by
  refine lc_range (fun i H => ∃ acc, Same G H ∧ H D = some (.lst acc) ∧
    DVs False (At D) H acc ((List.range i).map f)) ⟨[], (Same.refl G).at nD, upd_same, .nil⟩
    (fun i H2 hi h => ?_) (fun H2 h => ?_)
  · obtain ⟨acc, s2, e2, h2⟩ := h
    have la := h2.length
    rw [List.length_map, List.length_range] at la
    refine ⟨hw _, hel i H2 _ hi s2 (by rw [Tr, e2]; exact fun z => nomatch z) fun y H3 s3 h3 => ?_⟩
    refine ⟨acc, s3 _ _ e2, small1000 (by omega), acc ++ [y], ?_⟩
    have g := grow nD s2 e2 h2 s3 h3
    refine ⟨g.1, g.2.1, ?_⟩
    rw [List.range_succ, List.map_append]
    exact g.2.2
  · obtain ⟨acc, s2, e2, h2⟩ := h
    exact hd H2 acc s2 e2 h2
end

/-! ## fractions checked -/
def sp_check (C : Addr) : Sp := fun vs H Q E => ∃ (a : Addr) (xs : List V) (ds : List PyData)
  (z : Prop) (B : Addr → Prop), vs = [.ref a] ∧ H a = some (.tup xs) ∧ DVs z B H xs ds ∧
  (ds.all isFrac = false → E (.ref C) none H) ∧ (ds.all isFrac = true → Q .non H)
theorem isFrac_two {d : PyData} (h : isFrac d = true) : ∃ t b : Int, d = .tuple [.int t, .int b] ∧
    1 ≤ b ∧ Int.gcd t b = 1 := by
  cases d with
  | tuple ds =>
    match ds, h with
    | [a, b], h =>
      have h : isFr2 a b = true := h
      match a, b, h with
      | .int t, .int u, h =>
        simp only [isFr2, Bool.and_eq_true, decide_eq_true_eq] at h
        exact ⟨t, u, rfl, h.1, h.2⟩
      | .int _, .none, h => cases h
      | .int _, .bool _, h => cases h
      | .int _, .str _, h => cases h
      | .int _, .list _, h => cases h
      | .int _, .tuple _, h => cases h
      | .int _, .dict _, h => cases h
      | .none, _, h => cases h
      | .bool _, _, h => cases h
      | .str _, _, h => cases h
      | .list _, _, h => cases h
      | .tuple _, _, h => cases h
      | .dict _, _, h => cases h
    | [], h => cases h
    | [_], h => cases h
    | _ :: _ :: _ :: _, h => cases h
  | none => cases h
  | bool _ => cases h
  | int _ => cases h
  | str _ => cases h
  | list _ => cases h
  | dict _ => cases h
theorem Gd.two {W D : Nat} {t b : Int} (g : Gd W D (.tuple [.int t, .int b])) :
    t.natAbs < 2 ^ W ∧ b.natAbs < 2 ^ W := by
  have h := g.w
  simp only [PyData.weight, PyData.weightAll] at h
  have h1 : (PyData.int t).weight ≤ W := by simp only [PyData.weight]; omega
  have h2 : (PyData.int b).weight ≤ W := by simp only [PyData.weight]; omega
  exact ⟨int_lt_w h1, int_lt_w h2⟩
theorem DVs.two {z : Prop} {B : Addr → Prop} {H : Hp} {t b : Int} {v : V}
    (h : DV z B H v (.tuple [.int t, .int b])) :
    ∃ a, v = .ref a ∧ ¬ B a ∧ H a = some (.tup [.int t, .int b]) := by
  obtain ⟨a, xs, rfl, n, e, hx⟩ := h.tupI
  obtain ⟨x, y, rfl, h1, h2⟩ := hx.twoI
  obtain rfl := h1.intI
  obtain rfl := h2.intI
  exact ⟨a, rfl, n, e⟩
/-- a flat datum as a value -/
def toV : PyData → V
  | .bool b => .bl b
  | .int i => .int i
  | .str x => .str x
  | _ => .non
def cmpI (a b c d : Int) : Int := if a * d < c * b then -1 else if c * b < a * d then 1 else 0
def cmpF : PyData → PyData → PyData
  | .tuple [.int a, .int b], .tuple [.int c, .int d] => .int (cmpI a b c d)
  | _, _ => .none
def cmpD (x y : PyData) : PyData := if isFrac x = true ∧ isFrac y = true then cmpF x y else .str "refused"
def sp_compare (C : Addr) : Sp := fun vs H Q E => ∃ (v1 v2 : V) (d1 d2 : PyData) (z1 z2 : Prop)
  (B1 B2 : Addr → Prop), vs = [v1, v2] ∧ DV z1 B1 H v1 d1 ∧ DV z2 B2 H v2 d2 ∧ Gd 400 20 d1 ∧
  Gd 400 20 d2 ∧
  (∀ H', Same H H' → ¬ (isFrac d1 = true ∧ isFrac d2 = true) → E (.ref C) none H') ∧
  (∀ H', Same H H' → isFrac d1 = true ∧ isFrac d2 = true → Q (toV (cmpD d1 d2)) H')
def sp_cmpD : Sp := fun vs H Q _ => ∃ (v1 v2 : V) (d1 d2 : PyData) (z1 z2 : Prop)
  (B1 B2 : Addr → Prop), vs = [v1, v2] ∧ DV z1 B1 H v1 d1 ∧ DV z2 B2 H v2 d2 ∧ Gd 400 20 d1 ∧
  Gd 400 20 d2 ∧ ∀ H', Same H H' → Q (toV (cmpD d1 d2)) H'
theorem cmpD_no {x y : PyData} (h : ¬ (isFrac x = true ∧ isFrac y = true)) :
    cmpD x y = .str "refused" := if_neg h
theorem cmpD_yes {a b c d : Int} (h : isFrac (.tuple [.int a, .int b]) = true ∧
    isFrac (.tuple [.int c, .int d]) = true) :
    cmpD (.tuple [.int a, .int b]) (.tuple [.int c, .int d]) = .int (cmpI a b c d) := if_pos h
theorem sign_of {x y : Int} : (if x < y then (-1 : Int) else if y < x then 1 else 0)
    = if x - y = 0 then 0 else (x - y) / (if x - y < 0 then -(x - y) else x - y) := by
  rcases Int.lt_trichotomy x y with h | h | h
  · rw [if_pos h, if_neg (by omega), if_pos (by omega)]
    have e : x - y = (-(x - y)) * (-1) := by omega
    rw [show (x - y) / -(x - y) = ((-(x - y)) * (-1)) / -(x - y) by rw [← e]]
    rw [Int.mul_ediv_cancel_left _ (by omega)]
  · subst h
    rw [if_neg (Int.lt_irrefl x), if_neg (Int.lt_irrefl x), if_pos (by omega)]
  · rw [if_neg (by omega), if_pos h, if_neg (by omega), if_neg (by omega)]
    rw [Int.ediv_self (by omega)]
theorem cmpD_flat (x y : PyData) : (∃ i : Int, cmpD x y = .int i ∧ (i = -1 ∨ i = 0 ∨ i = 1)) ∨
    cmpD x y = .str "refused" := by
  unfold cmpD
  split
  · rename_i h
    obtain ⟨a, b, rfl, _⟩ := isFrac_two h.1
    obtain ⟨c, d, rfl, _⟩ := isFrac_two h.2
    refine .inl ⟨cmpI a b c d, rfl, ?_⟩
    unfold cmpI
    split
    · exact .inl rfl
    · split
      · exact .inr (.inr rfl)
      · exact .inr (.inl rfl)
  · exact .inr rfl
theorem cmpD_dv {z : Prop} {B : Addr → Prop} {H : Hp} (x y : PyData) :
    DV z B H (toV (cmpD x y)) (cmpD x y) := by
  rcases cmpD_flat x y with ⟨i, e, _⟩ | e
  · rw [e]; exact .int i
  · rw [e]; exact .str _
theorem cmpD_gd (x y : PyData) : Gd 1900 10 (cmpD x y) ∧ (cmpD x y).hasDict = false := by
  rcases cmpD_flat x y with ⟨i, e, h⟩ | e
  · rw [e]
    refine ⟨(Gd.int (W := 2) (D := 0) ?_).mono (by decide) (by decide), rfl⟩
    rcases h with rfl | rfl | rfl <;> decide
  · rw [e]
    exact ⟨gd_of (by decide +kernel), rfl⟩
/-- a value near a fraction -/
def sp_near : Sp := fun vs H Q _ => ∃ (S : Addr) (v : V) (d : PyData) (W D : Nat)
  (B : Addr → Prop), vs = [.ref S, v] ∧ Sup S H ∧ (∀ a, B a → Tr H a) ∧ B S ∧
  DV True B H v d ∧ d.canLay0 = true ∧ Gd W D d ∧ W ≤ 150 ∧ D ≤ 20 ∧
  ∀ (v' : V) (d' : PyData) (H' : Hp), Keep (At S) H H' → Sup S H' → DV True B H' v' d' →
    Gd (2 * W + 70) (D + 6) d' → Q v' H'
theorem pow_big {x : Int} {n : Nat} (h : x.natAbs < n) (hn : n < 2 ^ 60) : x.natAbs < 2 ^ 4000 :=
  Nat.lt_trans (Nat.lt_trans h hn) (Nat.pow_lt_pow_right (by decide) (by decide))
theorem frB_pos {t b : Int} (h : b ≠ 0) : 0 < frB t b := by
  have p := gcd_posR (t := t) h
  have l := gcd_leR (t := t) h
  unfold frB
  refine Int.ediv_pos_of_pos_of_dvd ?_ (by omega) ?_
  · split <;> omega
  · have d : ((Int.gcd t b : Nat) : Int) ∣ b := Int.gcd_dvd_right t b
    split
    · exact Int.dvd_neg.mpr d
    · exact d
end Wr

namespace Wr
open PySem PySem.Spec PyProof.Rows L2

/-! ## labels -/
/-- the number of labels known behind the row -/
def labK : Int → List Int → Int
  | k, [] => k
  | k, x :: xs => labK (max k (x + 1)) xs
def labI : Int → List Int → Bool
  | _, [] => true
  | k, x :: xs => decide (0 ≤ x) && decide (x ≤ k) && labI (max k (x + 1)) xs
def labG : Int → List PyData → Bool
  | _, [] => true
  | k, .int x :: ds => decide (0 ≤ x) && decide (x ≤ k) && labG (max k (x + 1)) ds
  | _, _ :: _ => false
def isLabD : PyData → Bool
  | .tuple ds => decide (1 ≤ ds.length ∧ ds.length ≤ 12) && labG 0 ds
  | _ => false
theorem labG_ints : ∀ (k : Int) (ns : List Int), labG k (ns.map PyData.int) = labI k ns
  | _, [] => rfl
  | k, x :: ns => by
    rw [List.map_cons]
    simp only [labG, labI, labG_ints]
theorem labG_w : ∀ (k : Int) (ds : List PyData), labG k ds = true → ds.all isW = true
  | _, [], _ => rfl
  | k, d :: ds, h => by
    cases d with
    | int x =>
      simp only [labG, Bool.and_eq_true] at h
      rw [List.all_cons, labG_w _ ds h.2]
      rfl
    | _ => simp only [labG] at h; cases h
theorem ints_of : ∀ {ds : List PyData}, ds.all isW = true → ∃ ns : List Int, ds = ns.map PyData.int
  | [], _ => ⟨[], rfl⟩
  | d :: ds, h => by
    rw [List.all_cons, Bool.and_eq_true] at h
    obtain ⟨ns, rfl⟩ := ints_of h.2
    obtain ⟨i, rfl⟩ := isW_int (d := d) (by rw [h.1]; exact fun z => nomatch z)
    exact ⟨i :: ns, rfl⟩
theorem DVs.intsI {z : Prop} {B : Addr → Prop} {H : Hp} : ∀ {xs : List V} {ns : List Int},
    DVs z B H xs (ns.map PyData.int) → xs = ns.map V.int
  | _, [], .nil => rfl
  | _, n :: ns, .cons h t => by
    obtain rfl := h.intI
    rw [DVs.intsI t]
    rfl
theorem labK_le : ∀ (k : Int) (ns : List Int), k ≤ labK k ns
  | k, [] => Int.le_refl k
  | k, x :: ns => by
    have := labK_le (max k (x + 1)) ns
    simp only [labK]
    omega
theorem labK_mem : ∀ (k : Int) (ns : List Int) (y : Int), y ∈ ns → y + 1 ≤ labK k ns
  | k, x :: ns, y, h => by
    simp only [labK]
    rcases List.mem_cons.mp h with rfl | h
    · have := labK_le (max k (y + 1)) ns
      omega
    · exact labK_mem _ ns y h
theorem labI_snoc : ∀ (k : Int) (ns : List Int) (x : Int), labI k ns = true → 0 ≤ x → x ≤ labK k ns →
    labI k (ns ++ [x]) = true
  | k, [], x, _, h0, h1 => by
    simp only [labK] at h1
    simp only [List.nil_append, labI, decide_eq_true h0, decide_eq_true h1, Bool.and_self]
  | k, y :: ns, x, h, h0, h1 => by
    simp only [labI, Bool.and_eq_true] at h
    simp only [labK] at h1
    rw [List.cons_append]
    simp only [labI, h.1.1, h.1.2, labI_snoc _ ns x h.2 h0 h1, Bool.and_self]
theorem labI_mem : ∀ (k : Int) (ns : List Int), labI k ns = true → ∀ y ∈ ns, 0 ≤ y ∧ y < k + ns.length
  | k, x :: ns, h, y, hy => by
    simp only [labI, Bool.and_eq_true, decide_eq_true_eq] at h
    rw [List.length_cons]
    rcases List.mem_cons.mp hy with rfl | hy
    · omega
    · have := labI_mem (max k (x + 1)) ns h.2 y hy
      omega
/-! the row written by first places -/
section
variable {α : Type} [DecidableEq α]
def plc (x : α) : List α → Nat
  | [] => 0
  | y :: ys => if y = x then 0 else plc x ys + 1
def sn (seen : List α) (x : α) : List α := if x ∈ seen then seen else seen ++ [x]
def canL : List α → List α → List Int
  | _, [] => []
  | seen, x :: xs => (plc x (sn seen x) : Int) :: canL (sn seen x) xs
theorem canL_snoc : ∀ (xs : List α) (seen : List α) (x : α),
    canL seen (xs ++ [x]) = canL seen xs ++ [(plc x (sn (xs.foldl sn seen) x) : Int)]
  | [], _, _ => rfl
  | y :: xs, seen, x => by
    rw [List.cons_append]
    simp only [canL, canL_snoc xs, List.foldl_cons, List.cons_append]
theorem canL_len : ∀ (xs seen : List α), (canL seen xs).length = xs.length
  | [], _ => rfl
  | y :: xs, seen => by simp only [canL, List.length_cons, canL_len xs]
theorem sn_len (seen : List α) (x : α) : (sn seen x).length ≤ seen.length + 1 := by
  unfold sn
  split
  · omega
  · rw [List.length_append]; exact Nat.le_refl _
theorem sns_len : ∀ (xs seen : List α), (xs.foldl sn seen).length ≤ seen.length + xs.length
  | [], _ => Nat.le_refl _
  | x :: xs, seen => by
    rw [List.foldl_cons, List.length_cons]
    have h1 := sns_len xs (sn seen x)
    have h2 := sn_len seen x
    omega
theorem sn_mem (seen : List α) (x : α) : x ∈ sn seen x := by
  unfold sn
  split
  · assumption
  · exact List.mem_append_right _ (List.mem_singleton.mpr rfl)
theorem plc_lt {x : α} : ∀ {l : List α}, x ∈ l → plc x l < l.length
  | y :: ys, h => by
    simp only [plc, List.length_cons]
    split
    · omega
    · rename_i n
      rcases List.mem_cons.mp h with rfl | h
      · exact absurd rfl n
      · have := plc_lt h; omega
theorem plc_at {x : α} : ∀ {l : List α}, x ∈ l → l[plc x l]? = some x
  | y :: ys, h => by
    simp only [plc]
    split
    · rename_i e; rw [e]; rfl
    · rename_i n
      rcases List.mem_cons.mp h with rfl | h
      · exact absurd rfl n
      · rw [List.getElem?_cons_succ]; exact plc_at h
theorem plc_no {x : α} : ∀ {l : List α} {m : Nat} {z : α}, m < plc x l → l[m]? = some z → z ≠ x
  | y :: ys, m, z, h, e => by
    simp only [plc] at h
    split at h
    · omega
    · rename_i n
      cases m with
      | zero => rw [List.getElem?_cons_zero] at e; cases e; exact n
      | succ m => rw [List.getElem?_cons_succ] at e; exact plc_no (by omega) e
theorem plc_end {x : α} : ∀ {l : List α}, x ∉ l → plc x (l ++ [x]) = l.length
  | [], _ => by simp only [List.nil_append, plc, if_true, List.length_nil]
  | y :: ys, h => by
    rw [List.cons_append]
    simp only [plc, List.length_cons]
    rw [if_neg (fun e => h (by rw [e]; exact List.mem_cons_self ..)),
      plc_end fun m => h (List.mem_cons_of_mem _ m)]
end
def rng (k : Nat) : List Int := (List.range k).map Int.ofNat
theorem mem_rng {k : Nat} {x : Int} : x ∈ rng k ↔ 0 ≤ x ∧ x < k := by
  unfold rng
  rw [List.mem_map]
  constructor
  · rintro ⟨n, hn, rfl⟩
    have := List.mem_range.mp hn
    exact ⟨Int.natCast_nonneg n, by show (n : Int) < k; omega⟩
  · rintro ⟨h0, h1⟩
    exact ⟨x.toNat, List.mem_range.mpr (by omega), by show ((x.toNat : Nat) : Int) = x; omega⟩
theorem rng_len (k : Nat) : (rng k).length = k := by unfold rng; rw [List.length_map, List.length_range]
theorem rng_succ (k : Nat) : rng (k + 1) = rng k ++ [(k : Int)] := by
  unfold rng; rw [List.range_succ, List.map_append]; rfl
theorem rng_at {k n : Nat} (h : n < k) : (rng k)[n]? = some (n : Int) := by
  unfold rng; rw [List.getElem?_map, List.getElem?_range h]; rfl
theorem plc_rng {k : Nat} {x : Int} (h0 : 0 ≤ x) (h1 : x < k) : (plc x (rng k) : Int) = x := by
  have m := mem_rng.mpr ⟨h0, h1⟩
  have e := plc_at m
  have l := plc_lt m
  rw [rng_len] at l
  rw [rng_at l] at e
  exact Option.some.inj e
/-- a row is written by first places exactly if it is labels -/
theorem can_lab : ∀ (ns : List Int) (k : Nat), canL (rng k) ns = ns ↔ labI k ns = true
  | [], _ => ⟨fun _ => rfl, fun _ => rfl⟩
  | x :: ns, k => by
    simp only [canL, labI, Bool.and_eq_true, decide_eq_true_eq, List.cons.injEq]
    by_cases h : 0 ≤ x ∧ x < k
    · have es : sn (rng k) x = rng k := if_pos (mem_rng.mpr h)
      rw [es, plc_rng h.1 h.2, can_lab ns k]
      have em : max (k : Int) (x + 1) = k := by omega
      rw [em]
      constructor
      · rintro ⟨_, q⟩; exact ⟨⟨h.1, by omega⟩, q⟩
      · rintro ⟨_, q⟩; exact ⟨rfl, q⟩
    · have nm : x ∉ rng k := fun m => h (mem_rng.mp m)
      have es : sn (rng k) x = rng k ++ [x] := if_neg nm
      rw [es, plc_end nm, rng_len]
      by_cases e : x = k
      · subst e
        rw [← rng_succ, can_lab ns (k + 1)]
        have em : max (k : Int) ((k : Int) + 1) = ((k + 1 : Nat) : Int) := by omega
        rw [em]
        constructor
        · rintro ⟨_, q⟩; exact ⟨⟨by omega, by omega⟩, q⟩
        · rintro ⟨_, q⟩; exact ⟨rfl, q⟩
      · constructor
        · rintro ⟨q, _⟩; exact absurd q.symm e
        · rintro ⟨⟨q0, q1⟩, _⟩; exact absurd ⟨q0, by omega⟩ h
theorem eqv_ints : ∀ ms ns : List Int,
    PyData.eqvAll (ms.map PyData.int) (ns.map PyData.int) = decide (ms = ns)
  | [], [] => by simp only [List.map_nil, PyData.eqvAll, decide_true]
  | [], n :: ns => by simp [PyData.eqvAll]
  | m :: ms, [] => by simp [PyData.eqvAll]
  | m :: ms, n :: ns => by
    rw [List.map_cons, List.map_cons]
    simp only [PyData.eqvAll, PyData.eqv, eqv_ints ms ns, List.cons.injEq]
    by_cases h : m = n
    · subst h; simp
    · simp [h]
theorem lay_ints : ∀ ns : List Int, PyData.canLayAll0 (ns.map PyData.int) = true
  | [] => rfl
  | n :: ns => by rw [List.map_cons]; simp only [PyData.canLayAll0, PyData.canLay0, lay_ints ns, Bool.and_self]
theorem depth_ints : ∀ ns : List Int, PyData.depthAll (ns.map PyData.int) = 0
  | [] => rfl
  | n :: ns => by rw [List.map_cons]; simp only [PyData.depthAll, PyData.depth, depth_ints ns, Nat.max_self]
theorem okSs_ints : ∀ ns : List Int, okSs (ns.map PyData.int) = true
  | [] => rfl
  | n :: ns => by rw [List.map_cons]; simp only [okSs, okS, okSs_ints ns, Bool.and_self]
theorem weight_ints {k : Nat} : ∀ ns : List Int, (∀ n ∈ ns, n.natAbs < 2 ^ k) →
    PyData.weightAll (ns.map PyData.int) ≤ ns.length * (k + 1)
  | [], _ => Nat.zero_le _
  | n :: ns, h => by
    have h1 := weight_ints ns fun m hm => h m (List.mem_cons_of_mem _ hm)
    have h2 := int_w_lt (h n (List.mem_cons_self ..))
    rw [List.map_cons, List.length_cons, Nat.succ_mul]
    simp only [PyData.weightAll]
    omega
theorem Gd.ints {k m : Nat} {ns : List Int} (h : ∀ n ∈ ns, n.natAbs < 2 ^ k) (hl : ns.length ≤ m) :
    Gd (m * (k + 1)) 1 (.tuple (ns.map PyData.int)) := by
  refine Gd.tup (D := 0) ⟨Nat.le_trans (weight_ints ns h) (Nat.mul_le_mul_right _ hl), ?_, okSs_ints ns⟩
  rw [depth_ints]
  exact Nat.le_refl _
theorem isLab_ints {ns : List Int} (h : 1 ≤ ns.length ∧ ns.length ≤ 12) :
    isLabD (.tuple (ns.map PyData.int)) = decide (canL [] ns = ns) := by
  show (decide (1 ≤ (ns.map PyData.int).length ∧ (ns.map PyData.int).length ≤ 12) &&
    labG 0 (ns.map PyData.int)) = _
  rw [List.length_map, decide_eq_true h, Bool.true_and, labG_ints]
  have := can_lab ns 0
  rw [show rng 0 = [] from rfl] at this
  by_cases q : canL [] ns = ns
  · rw [decide_eq_true q]; exact this.mp q
  · rw [decide_eq_false q]
    cases e : labI 0 ns with
    | false => rfl
    | true => exact absurd (this.mpr e) q
/-! ## promises -/
def sp_islab : Sp := fun vs H Q _ => ∃ (v : V) (d : PyData) (z : Prop) (B : Addr → Prop),
  vs = [v] ∧ DV z B H v d ∧ Q (.bl (isLabD d)) H
def sp_islabL : Sp := fun vs H Q _ => ∃ (v : V) (d : PyData) (z : Prop) (B : Addr → Prop),
  vs = [v] ∧ DV z B H v d ∧ ∀ H', Same H H' → Q (.bl (isLabD d)) H'
def sp_labels : Sp := fun vs H Q _ => ∃ (S : Addr) (n m : Int), vs = [.ref S, .int n, .int m] ∧
  Sup S H ∧ n ≤ 1000 ∧ 1 ≤ m ∧ m < 2 ^ 60 ∧
  ∀ (p : Addr) (ns : List Int) (H' : Hp), Keep (At S) H H' → Sup S H' → H p = none →
    H' p = some (.tup (ns.map V.int)) → labI 0 ns = true → ns.length = max 1 n.toNat →
    (∀ x ∈ ns, x < m ∨ x = 0) → Q (.ref p) H'
def sp_canT : Sp := fun vs H Q _ => ∃ (a : Addr) (ns : List Int), vs = [.ref a] ∧
  H a = some (.tup (ns.map V.int)) ∧ ns.length ≤ 1000 ∧
  ∀ (p : Addr) (H' : Hp), Same H H' → H p = none →
    H' p = some (.tup ((canL [] ns).map V.int)) → Q (.ref p) H'
theorem Keep.off {B : Addr → Prop} {H G : Hp} {F : Addr} {o : HO} (k : Keep B H G) (n : H F = none) :
    Keep B H (upd G F o) := fun a u nb e => by
  rw [upd_ne (ne_of_none e n)]
  exact k a u nb e
theorem Sup.off {S F : Addr} {G : Hp} {o : HO} (h : Sup S G) (n : F ≠ S) : Sup S (upd G F o) := by
  obtain ⟨a, b, c, e, r⟩ := h
  exact ⟨a, b, c, by rw [upd_ne (Ne.symm n)]; exact e, r⟩
theorem inV_ints {x : Int} : ∀ {l : List Int}, inV (.int x) (l.map V.int) = decide (x ∈ l)
  | [] => by simp [inV]
  | y :: l => by
    have ih := inV_ints (x := x) (l := l)
    unfold inV at ih ⊢
    rw [List.map_cons, List.any_cons, ih]
    show ((y == x) || decide (x ∈ l)) = decide (x ∈ y :: l)
    by_cases h : y = x
    · subst h; simp
    · have : (y == x) = false := beq_eq_false_iff_ne.mpr h
      rw [this, Bool.false_or]
      by_cases m : x ∈ l
      · rw [decide_eq_true m, decide_eq_true (List.mem_cons_of_mem _ m)]
      · rw [decide_eq_false m, decide_eq_false (fun z => (List.mem_cons.mp z).elim (fun e => h e.symm) m)]
theorem flat_ints (l : List Int) : (l.map V.int).all flatV = true := by
  rw [List.all_map, List.all_eq_true]
  intro x _
  rfl
theorem isLab_no {d : PyData} (h : ¬ isT d = true) : isLabD d = false := by
  cases d <;> first | rfl | exact absurd rfl h
theorem isLab_len {ds : List PyData} (h : ¬ (1 ≤ ds.length ∧ ds.length ≤ 12)) :
    isLabD (.tuple ds) = false := by
  show (decide _ && _) = false
  rw [decide_eq_false h]
  rfl
theorem isLab_yes {ds : List PyData} (h : 1 ≤ ds.length ∧ ds.length ≤ 12) :
    isLabD (.tuple ds) = labG 0 ds := by
  show (decide _ && _) = _
  rw [decide_eq_true h]
  rfl
theorem labG_no {d : PyData} {k : Int} {ds : List PyData} (h : isW d = false) : labG k (d :: ds) = false := by
  cases d <;> first | rfl | cases h
theorem _root_.L2.Same.off {H G : Hp} {F : Addr} {o : HO} (k : Same H G) (n : H F = none) :
    Same H (upd G F o) := fun a u e => by
  rw [upd_ne (ne_of_none e n)]
  exact k a u e
theorem DVs.ofInts {z : Prop} {B : Addr → Prop} {H : Hp} : ∀ ns : List Int,
    DVs z B H (ns.map V.int) (ns.map PyData.int)
  | [] => .nil
  | n :: ns => .cons (.int n) (DVs.ofInts ns)
theorem DV.ofInts {z : Prop} {B : Addr → Prop} {H : Hp} {a : Addr} {ns : List Int} (nb : ¬ B a)
    (e : H a = some (.tup (ns.map V.int))) : DV z B H (.ref a) (.tuple (ns.map PyData.int)) :=
  .tup nb e (DVs.ofInts ns)
theorem shaped_ints (ns : List Int) : SeqAt.shaped (.tuple (ns.map PyData.int)) = true :=
  shaped_of (lay_ints ns) (by simp only [PyData.depth, depth_ints]; decide)
theorem dp_ints {K : PySem.W.Frag} {H : Hp} {a : Addr} {ns : List Int}
    (e : H a = some (.tup (ns.map V.int))) : Dp K H (.ref a) (.tuple (ns.map PyData.int)) :=
  (DV.ofInts (z := False) (B := fun _ => False) (fun h => h) e).dp _ _ (lay_ints ns)
end Wr

/-! enumerate and max of a tuple -/
namespace PySem
open Sem (wp)
theorem wr_meets_enum {v : Value} {o : Obj} {H : Heap → Prop} (B : Begins v o H) :
    Meets (Builtin.«enumerate.__new__» ⟨[.type "enumerate", v], []⟩) (fun _ R s => H s.heap ∧
      R (.ok (.ret (.ref (s.heap.push o).objs.size)))
        { s with heap := (s.heap.push o).push { cls := .type "enumerate", data := .fields #[.none, .bool false, .ref s.heap.objs.size, rawInt 0, .none, .none] } }) :=
  .of_wp fun prog w A R s h => by
    obtain ⟨hp, g, d, tk, os⟩ := s; obtain ⟨h1, h⟩ := h
    have hsub := sub_enumerate
    have q1 : ∀ {A' : Around} {E : Value → Shared → Prop} {Q : Value → Shared → Prop},
        Q (.ref hp.objs.size) ⟨hp.push o, g, d, tk, os⟩ → wpAny (model prog w) A' (pyIter v) Q E ⟨hp, g, d, tk, os⟩ :=
      fun q => B.iter prog w _ _ ⟨hp, g, d, tk, os⟩ _ h1 q
    wp_walk using q1
    refine wpAny_stack_any fun st => wpAny_pure ?_
    split
    · rename_i c _ _ _ _ _
      cases (c == Value.type "enumerate")
      · wp_walk using q1
        exact ⟨_, rfl, h⟩
      · wp_walk using q1
        exact ⟨_, rfl, h⟩
    · wp_walk using q1
      exact ⟨_, rfl, h⟩
section
variable {prog : Program} {w : World} {A : Around} {E : Value → Shared → Prop} {s : Shared}
theorem wr_call_enum {v : Value} {o : Obj} {H : Heap → Prop} {Q : Value → Shared → Prop}
    (B : Begins v o H) (h1 : H s.heap)
    (h : ∀ h', IsEnum h' (s.heap.objs.size + 1) s.heap.objs.size 0 .none → h'.get? s.heap.objs.size = some o →
      h'.objs.size = s.heap.objs.size + 2 →
      (∀ b o, s.heap.get? b = some o → h'.get? b = some o) → Q (.ref (s.heap.objs.size + 1)) { s with heap := h' }) :
    wpAny (model prog w) A (call (.type "enumerate") [v]) Q E s := by
  refine callType_new F.called_enumerate (by decide) (F.typeCall_enumerate_1 _) (F.newCall_enumerate_1 _)
    (fun obj => F.args_object_init_2 obj _) F.entry_enumerate_new (wr_meets_enum B) ⟨h1, ?_⟩
  have hz : (s.heap.push o).objs.size = s.heap.objs.size + 1 := Heap.size_push ..
  show _ ∧ _
  rw [hz]
  have he : IsEnum ((s.heap.push o).push { cls := .type "enumerate", data := .fields #[.none, .bool false, .ref s.heap.objs.size, rawInt 0, .none, .none] }) (s.heap.objs.size + 1) s.heap.objs.size 0 .none := by
    have := Heap.get?_push_size (s.heap.push o) (o := { cls := .type "enumerate", data := .fields #[.none, .bool false, .ref s.heap.objs.size, rawInt 0, .none, .none] }) rfl
    rw [hz] at this; exact this
  exact ⟨⟨_, he, rfl⟩, h _ he (Heap.get?_push_of_some _ (Heap.get?_push_size _ B.free)) (by rw [Heap.size_push, hz])
    fun b o x => Heap.get?_push_of_some _ (Heap.get?_push_of_some _ x)⟩
theorem wr_enum_end {e it l : Addr} {c : Int} {i : Nat} {items : Array Value} {old : Value} {Q : Option Value → Shared → Prop}
    (hh : A.handled = none) (he : IsEnum s.heap e it c old) (hit : s.heap.IsTupleIter it l i) (hl : s.heap.IsTuple l items)
    (hx : items[i]? = none)
    (hQ : ∀ h', Heap.ExtBut it s.heap h' → Q none { s with heap := h' }) : wpAny (model prog w) A (pyNext (.ref e)) Q E s := by
  have hT : s.TypeIs (.ref e) "enumerate" := ⟨_, he, rfl⟩
  unfold pyNext
  refine wpAny_bind (wpAny_attempt (wpAny_callSpecial?_slot (name := Str.ofString "__next__") hT F.slot_enumerate_next
    (wpAny_call_entry F.slot_enumerate_next hT F.entry_enumerate_next ?_ (F.args_enumerate_next_1 _))))
  show wpAny _ _ (field (.ref e) 2 >>= _) _ _ _
  refine wpAny_bind (wpAny_field he rfl (x := .ref it) rfl ?_)
  refine wpAny_bind (wpAny_nextOf_tuple_end hh hit hl hx fun h' x he' hx' => ?_)
  obtain ⟨o, ho, hc⟩ := hx'
  refine wpAny_bind (wpAny_isInstance (T := "StopIteration") (b := true) ⟨o, ho, hc⟩ isSubtype_stop ?_)
  exact wpAny_pure (hQ _ he')
theorem wr_max_tup {xs : Array (Int × Tok)} {l : Addr} {Q : Value → Shared → Prop} (hh : A.handled = none)
    (hl : s.heap.IsTuple l (intItems xs)) (hne : 0 < xs.size)
    (h : ∀ v h' tk, (intItems xs)[argBest (fun i j => decide (numAt xs i > numAt xs j)) (xs.size - 1)]? = some v →
      (∀ b o, s.heap.get? b = some o → h'.get? b = some o) → Q v { s with heap := h', toks := tk }) :
    wpAny (model prog w) A (call (.builtin "max") [.ref l]) Q E s := by
  have hlt : l < s.heap.objs.size := by obtain ⟨_, e, _⟩ := hl; exact Heap.lt_size e
  refine call_max_walk (wpAny_pyIter_tuple hl ?_)
  refine ⟨_, _, _, _, _, _, _, rfl, Walks.tuple (A := A.in1) hh _ l (Nat.ne_of_lt hlt) (intItems xs),
    ⟨⟨_, Heap.get?_push_size _ rfl, rfl, rfl⟩, hl.push _⟩, fun b hb => ?_, by simpa [intItems] using hne,
    CmpOf.ints_gt (numAt xs) (fun _ _ => intItems_at), fun v h' tk hP hk => ?_⟩
  · show b < (s.heap.push _).objs.size
    rw [Heap.size_push]
    rcases List.mem_cons.mp hb with rfl | hb
    · exact Nat.lt_succ_self _
    · rcases List.mem_cons.mp hb with rfl | hb
      · exact Nat.lt_succ_of_lt hlt
      · cases hb
  · refine h v h' tk (by simpa [intItems] using hP) fun b o e => ?_
    refine hk b o (fun hm => ?_) (Heap.get?_push_of_some _ e)
    rcases List.mem_cons.mp hm with e1 | hm
    · exact absurd (e1 ▸ Heap.lt_size e) (Nat.lt_irrefl _)
    · cases hm
end
end PySem
namespace Wr
open PySem PySem.Spec PyProof.Rows L2
section
variable {prog : Program} {w : World} {A : Around} {E : Value → Shared → Prop} {s : Shared} {l : Addr} {its : List Value} {ns : List Int} {Q : Value → Shared → Prop}
theorem max_rawT (hh : A.handled = none) (hl : s.heap.IsTuple l its.toArray) (hi : IntsAre its ns) (hne : 0 < ns.length)
    (h : ∀ h' tk M t', (∀ b o, s.heap.get? b = some o → h'.get? b = some o) → M ∈ ns → (∀ a, a ∈ ns → a ≤ M) →
      Q (.int M t') { s with heap := h', toks := tk }) : wpAny (model prog w) A (call (.builtin "max") [.ref l]) Q E s := by
  obtain ⟨xs, e⟩ := hi.allInts.items
  have hn : numsOf (intItems xs).toList = ns := by rw [← e]; exact hi.numsOf
  rw [nums_intItems] at hn
  subst hn
  rw [e] at hl
  have hsz : 0 < xs.size := by simpa using hne
  refine PySem.wr_max_tup hh hl hsz fun v h' tk hv hk => ?_
  obtain ⟨t, rfl⟩ := intItems_at hv
  obtain ⟨h1, h2⟩ := argBest_gt (numAt xs) (xs.size - 1)
  refine h h' tk _ t hk ?_ fun a ha => ?_
  · rw [numAt_eq]; exact PySem.getD_mem (by rw [List.length_map, Array.length_toList]; omega)
  · obtain ⟨j, hj, rfl⟩ := mem_getD ha
    rw [List.length_map, Array.length_toList] at hj
    rw [← numAt_eq]; exact h2 j (by omega)
end
section
variable {X : Cx}
def rMaxT (K : PySem.W.Frag) : List V → Hp → VK → Prop := fun vs H Q => ∃ (a : Addr) (ns : List Int),
  vs = [V.ref a] ∧ SqT K H a (ns.map V.int) ∧ 0 < ns.length ∧
  ∀ m, m ∈ ns → (∀ y, y ∈ ns → y ≤ m) → Q (.int m) H
theorem cr_maxT (hc : X.calm = true) : CallR X (.builtin "max") (rMaxT X.K) := by
  intro pins s σ H vs us Q I r h
  obtain ⟨a, ns, rfl, hs, hne, q⟩ := h
  obtain ⟨its, rv, hl, _⟩ := I.tuple hs
  rw [Vals.ref1 r]
  exact max_rawT (I.ok.hd hc) (show s.heap.IsTuple a its.toArray from hl) rv.ints hne fun h' tk m t' hk h1 h2 =>
    ⟨.int _, H, I.kept hk, ⟨_, rfl⟩, q m h1 h2⟩
end
/-- the tuple at a, each item in a new pair -/
def IteT (K : PySem.W.Frag) (a : Addr) : It :=
  ⟨fun i H => ∃ (xs : List V) (x : V), SqT K H a xs ∧ xs[i]? = some x,
   fun i H v H' => ∃ T x, v = .ref T ∧ H T = none ∧ H' = upd H T (.tup [.int (i : Nat), x]) ∧
     ∀ xs, SqT K H a xs → xs[i]? = some x,
   fun i H => ∃ xs : List V, SqT K H a xs ∧ xs.length ≤ i⟩
theorem tup_ne {h : Heap} {a it : Addr} {items : Array Value} {t : Addr} {i : Nat} (x : h.IsTuple a items)
    (y : h.IsTupleIter it t i) : a ≠ it := fun e => by
  subst e
  obtain ⟨o, ho, hc, _⟩ := x
  obtain ⟨o', ho', hc', _⟩ := y
  rw [ho] at ho'
  cases ho'
  exact absurd (Value.type.inj (hc.symm.trans hc')) (by decide)
theorem tup_ne' {h : Heap} {a e it : Addr} {items : Array Value} {c : Int} {old : Value} (x : h.IsTuple a items)
    (y : IsEnum h e it c old) : e ≠ a := fun z => by
  subst z
  obtain ⟨o, ho, hc, _⟩ := x
  have y' : h.get? e = some _ := y
  rw [ho] at y'
  rw [Option.some.inj y'] at hc
  exact absurd (Value.type.inj hc) (by decide)
theorem turn_enumT {P : Program} {w : World} {K : PySem.W.Frag} {elts : List Expr} {kk : Nat} {tpos : Pos}
    (a e it : Addr) :
    Turn P w K (.Tuple elts kk tpos) (IteT K a) [e, it] e (fun i h => (∃ old, IsEnum h e it ((i : Nat) : Int) old) ∧
      h.IsTupleIter it a i ∧ e ≠ it) where
  mem := by simp
  obj := fun i h st b hb => by
    obtain ⟨⟨old, he⟩, ⟨o, ho, hc, hd⟩, _⟩ := st
    have e' : b = e ∨ b = it := by simpa using hb
    rcases e' with z | z
    · rw [z]; exact ⟨_, he, fun v q => nomatch q⟩
    · rw [z]; exact ⟨o, ho, fun v q => by rw [hd] at q; cases q⟩
  keep := fun i h h' st k => let ⟨⟨old, he⟩, hi, hne⟩ := st; ⟨⟨old, k e (by simp) _ he⟩, hi.at fun o q => k it (by simp) o q, hne⟩
  item := by
    intro X hP hw hK hc i pins s σ H E I hf st hg
    subst hP hw hK
    obtain ⟨⟨old, he⟩, hit, hne⟩ := st
    obtain ⟨xs, x, hq, hx⟩ := hg
    obtain ⟨its, rv, p, hz⟩ := I.tuple hq
    obtain ⟨u, hu, ru⟩ := rv.get hx
    have p' : s.heap.IsTuple a its.toArray := p
    have n1 := tup_ne p' hit
    have n2 := tup_ne' p' he
    have hel : e < s.heap.objs.size := Heap.lt_size he
    have hil : it < s.heap.objs.size := by obtain ⟨_, q, _⟩ := hit; exact Heap.lt_size q
    have hlt : i < its.toArray.size := by
      have := (List.getElem?_eq_some_iff.mp hu).1
      simpa using this
    refine wpAny_pyNext_enum_itemC (Draws.tuple (A := X.A.in1) (I.ok.hd hc) it a n1 its.toArray) he ⟨hit, p'⟩ hlt hne
      (by simp [hne, n2]) fun u' h' tk hu' ho hst' hT hsz hk => ?_
    have eu : u' = u := by
      have : its.toArray[i]? = some u := by simpa using hu
      rw [this] at hu'
      exact (Option.some.inj hu').symm
    subst eu
    have hit' := hst'.1
    refine ⟨_, rfl, wpAny_letOwnedTupleGo_enum (s := { s with heap := h', toks := tk + 1 }) ho fun h'' he' sb => ?_⟩
    have hT2 : h''.get? s.heap.objs.size = some { cls := .type "tuple", data := .seq #[.int i tk, u'] } := (sb.2 _ (Nat.ne_of_gt hel)).trans hT
    have new : ObjOk X.prog X.w (upd H s.heap.objs.size (.tup [.int (i : Nat), x])) h'' s.heap.objs.size (.tup [.int (i : Nat), x]) :=
      ⟨by show 2 ≤ sizeLine; decide, [.int i tk, u'], .cons ⟨_, rfl⟩ (.cons ru .nil), ⟨_, hT2, rfl, _, rfl⟩⟩
    have I1 : Inv X pins σ (upd H s.heap.objs.size (.tup [.int (i : Nat), x])) { s with heap := h'', toks := tk + 1 } :=
      I.turnedNew (ch := [e, it]) (fun b ob hb q => (sb.2 b (fun z => hb (by simp [z]))).trans (hk b ob (fun z => hb (by simp [z])) (fun z => hb (by simp [z])) q)) hf (Nat.le_refl _) new
    refine ⟨.ref s.heap.objs.size, _, I1, rfl, ⟨_, x, rfl, I.hok.fresh (Nat.le_refl _), rfl, fun ys hy => ?_⟩, ⟨⟨u', ?_⟩, hit'.at fun o q => (sb.2 it (Ne.symm hne)).trans q, hne⟩, fun b hb => ?_⟩
    · rw [I.tuple_inj hy hq]; exact hx
    · have e1 : ((i + 1 : Nat) : Int) = (i : Int) + 1 := by omega
      rw [e1]; exact he'
    · have hb' : b < s.heap.objs.size := by
        have e' : b = e ∨ b = it := by simpa using hb
        rcases e' with z | z
        · rw [z]; exact hel
        · rw [z]; exact hil
      rw [upd_ne (Nat.ne_of_lt hb')]
      exact (hf b hb).1
  done := by
    intro X hP hw hK hc i pins s σ H E I hf st hg
    subst hP hw hK
    obtain ⟨⟨old, he⟩, hit, hne⟩ := st
    obtain ⟨xs, hq, hx⟩ := hg
    obtain ⟨its, rv, p, hz⟩ := I.tuple hq
    obtain ⟨f0, f1, f2, f3, f4, f5⟩ := hf it (by simp)
    have hl := rv.length
    have p' : s.heap.IsTuple a its.toArray := p
    exact PySem.wr_enum_end (I.ok.hd hc) he hit p' (by simp; omega) fun h' eb => ⟨rfl, I.turned (t' := s.toks) (fun b o hb q => eb b o hb q) f0 f1 f3 f4 f5⟩
  self := fun A i s Q E st h => let ⟨⟨_, he⟩, _⟩ := st; wpAny_pyIter_enum he h
def iEnumT (K : PySem.W.Frag) (ta : TA) : TI := fun σ H R => ta σ H fun vs H1 =>
  ∃ a xs, vs = [.ref a] ∧ SqT K H1 a xs ∧ R (IteT K a) H1
theorem pi_enumT {X : Cx} {e : Expr} {ta : TA} {p pos tpos : Pos} {elts : List Expr} {kk : Nat} (hg : Gl X "enumerate")
    (hm : X.mg "enumerate" = none) (ha : PA X [e] ta) (hs : starEach [e] X.env = [(false, eval e X.env)] := by rfl) :
    PI X (.Tuple elts kk tpos) (.Call (.Name "enumerate" p) [e] [] pos) (iEnumT X.K ta) := by
  refine ⟨fun pins s σ H R I h => ?_⟩
  refine Call_ (ld_blt I hg hm boot_enumerate (PyProof.Rows.callWith_type1 (thn (ha.run pos pins s σ H _ I h) fun us s1 ⟨vs, H1, I1, r1, q1⟩ => ?_) hs rfl))
  obtain ⟨a, xs, ex, hq, q⟩ := q1
  subst ex
  cases r1 with
  | cons r rr =>
    cases rr
    cases r
    obtain ⟨its, rv, p', hz⟩ := I1.tuple hq
    have p2 : s1.heap.IsTuple a its.toArray := p'
    refine PySem.wr_call_enum (begins_tuple a its.toArray) p2 fun h' he ho hsz hk => wpAny_pyIter_enum he ?_
    have hit : h'.IsTupleIter s1.heap.objs.size a 0 := ⟨_, ho, rfl, rfl⟩
    have I2 : Inv X pins σ H1 { s1 with heap := h' } := I1.kept (t' := s1.toks) hk
    refine ⟨s1.heap.objs.size + 1, [s1.heap.objs.size + 1, s1.heap.objs.size], _, _, H1, rfl, I2, turn_enumT a (s1.heap.objs.size + 1) s1.heap.objs.size, ⟨⟨.none, he⟩, hit, Nat.succ_ne_self _⟩, fun b hb => ?_, q⟩
    have e' : b = s1.heap.objs.size + 1 ∨ b = s1.heap.objs.size := by simpa using hb
    have hle : s1.heap.objs.size ≤ b := by
      rcases e' with z | z
      · rw [z]; exact Nat.le_add_right _ _
      · rw [z]; exact Nat.le_refl _
    exact I1.fpOk hle (I1.hok.fresh hle)
theorem for_enumT {K : PySem.W.Frag} {a : Addr} {xs : List V} {g : TG} {tb : TS} {D : Ends} {σ : L2.St} {H : Hp}
    (Pv : Nat → L2.St → Hp → Prop) (h0 : Pv 0 σ H) (hl : ∀ i σ H, i ≤ xs.length → Pv i σ H → SqT K H a xs)
    (hs : ∀ i x σ H T, xs[i]? = some x → Pv i σ H → H T = none →
      g (.ref T) σ (upd H T (.tup [.int (i : Nat), x])) fun σ2 H2 => tb { D with nx := Pv (i + 1), ct := Pv (i + 1), bk := D.nx } σ2 H2)
    (hd : ∀ σ H, Pv xs.length σ H → D.nx σ H) :
    ∃ W : Nat → Nat → L2.St → Hp → Prop, (∃ m, W 0 m σ H) ∧ ∀ i m σ H, W i m σ H →
      ((IteT K a).stop i H ∧ D.nx σ H) ∨ ((IteT K a).go i H ∧ ∃ N : L2.St → Hp → Prop, (∀ σ' H', N σ' H' → ∃ m', m' < m ∧ W (i + 1) m' σ' H') ∧
        ∀ x H', (IteT K a).yld i H x H' → g x σ H' fun σ2 H2 => tb { D with nx := N, ct := N, bk := D.nx } σ2 H2) := by
  refine ⟨fun i m σ H => m = xs.length - i ∧ i ≤ xs.length ∧ Pv i σ H, ⟨xs.length, by simp, Nat.zero_le _, h0⟩, ?_⟩
  rintro i m σ H ⟨rfl, hi, p⟩
  have q := hl i σ H hi p
  by_cases hlt : i < xs.length
  · refine .inr ⟨⟨xs, xs[i], q, by simp [hlt]⟩, Pv (i + 1), fun σ' H' p' => ⟨xs.length - (i + 1), by omega, rfl, hlt, p'⟩, fun x H' y => ?_⟩
    obtain ⟨T, z, rfl, nT, rfl, hz⟩ := y
    exact hs i z σ H T (hz xs q) p nT
  · exact .inl ⟨⟨xs, q, by omega⟩, hd σ H (by rw [show xs.length = i by omega]; exact p)⟩
end Wr

namespace Mi
open PySem PySem.Spec PyProof.Rows L2

section
variable {X : Cx} {T : Tb} {E : EX} {a b c : Expr} {es : List Expr} {pos : Pos} {m : MV} {ma mb : MH} {ms : MA} {mhs : MHs}
theorem PVs.one {K : PySem.W.Frag} {α : List Addr} {B : AP1} {H : Hp} {vs : List V} {d : D} (h : PVs K α B H vs [d]) : ∃ v, vs = [v] ∧ PV K α B H v d := by
  cases h with
  | cons h t => cases t; exact ⟨_, rfl, h⟩
theorem PVs.two {K : PySem.W.Frag} {α : List Addr} {B : AP1} {H : Hp} {vs : List V} {d e : D} (h : PVs K α B H vs [d, e]) : ∃ v w, vs = [v, w] ∧ PV K α B H v d ∧ PV K α B H w e := by
  cases h with
  | cons h t =>
    obtain ⟨w, rfl, h2⟩ := t.one
    exact ⟨_, _, rfl, h, h2⟩
def gLen : List D → Option Sl
  | [.tup ds] => some (.va (.int ds.length))
  | [.lst ds] => some (.va (.int ds.length))
  | [.scr ds] => some (.va (.int ds.length))
  | [.str z] => if z.length ≤ LIM then some (.va (.int z.length)) else none
  | _ => none
theorem cd_len : CallD X (.builtin "len") gLen := by
  refine ⟨_, call_len, ?_⟩
  intro α B H vs ds res h g nu Q w
  unfold gLen at g
  split at g
  · cases g
    obtain ⟨v, rfl, pv⟩ := h.one
    obtain ⟨p, xs, rfl, hT, hd, _⟩ := pv.tup
    exact ⟨_, _, rfl, .inr ⟨xs, hT, rfl⟩, by rw [hd.length]; exact w.1 _ (.int _)⟩
  · cases g
    obtain ⟨v, rfl, pv⟩ := h.one
    obtain ⟨p, xs, rfl, hT, hd⟩ := pv.lst
    exact ⟨_, _, rfl, .inl ⟨xs, .inl (.inl hT), rfl⟩, by rw [hd.length]; exact w.1 _ (.int _)⟩
  · cases g
    obtain ⟨v, rfl, pv⟩ := h.one
    obtain ⟨p, rfl, hT⟩ := pv.scr
    exact ⟨_, _, rfl, .inl ⟨_, hT, rfl⟩, by rw [List.length_map]; exact w.1 _ (.int _)⟩
  · split at g
    · rename_i c
      cases g
      obtain ⟨v, rfl, pv⟩ := h.one
      obtain rfl := pv.str
      exact ⟨_, _, rfl, ⟨Nat.le_trans c lim_ok, rfl⟩, w.1 _ (.int _)⟩
    · cases g
  · cases g
/-- a list of bools, of ints -/
def blsD : List D → Option (List Bool)
  | [] => some []
  | .bl b :: ds => (blsD ds).map fun bs => b :: bs
  | _ :: _ => none
def intsD : List D → Option (List Int)
  | [] => some []
  | .int b :: ds => (intsD ds).map fun bs => b :: bs
  | _ :: _ => none
theorem blsD_eq : ∀ {ds : List D} {bs : List Bool}, blsD ds = some bs → ds = bs.map .bl
  | [], bs, h => by cases h; rfl
  | .bl b :: ds, bs, h => by
    obtain ⟨cs, q, rfl⟩ := Option.map_eq_some_iff.mp (show (blsD ds).map (fun bs => b :: bs) = some bs from h)
    rw [blsD_eq q]; rfl
  | .non :: _, _, h => by cases h
  | .int _ :: _, _, h => by cases h
  | .str _ :: _, _, h => by cases h
  | .tup _ :: _, _, h => by cases h
  | .lst _ :: _, _, h => by cases h
  | .dic _ _ :: _, _, h => by cases h
  | .dic0 :: _, _, h => by cases h
  | .obj _ :: _, _, h => by cases h
  | .scr _ :: _, _, h => by cases h
theorem intsD_eq : ∀ {ds : List D} {bs : List Int}, intsD ds = some bs → ds = bs.map .int
  | [], bs, h => by cases h; rfl
  | .int b :: ds, bs, h => by
    obtain ⟨cs, q, rfl⟩ := Option.map_eq_some_iff.mp (show (intsD ds).map (fun bs => b :: bs) = some bs from h)
    rw [intsD_eq q]; rfl
  | .non :: _, _, h => by cases h
  | .bl _ :: _, _, h => by cases h
  | .str _ :: _, _, h => by cases h
  | .tup _ :: _, _, h => by cases h
  | .lst _ :: _, _, h => by cases h
  | .dic _ _ :: _, _, h => by cases h
  | .dic0 :: _, _, h => by cases h
  | .obj _ :: _, _, h => by cases h
  | .scr _ :: _, _, h => by cases h
theorem DVs.bls {K : PySem.W.Frag} {α : List Addr} {B : AP1} {H : Hp} : ∀ {vs : List V} {bs : List Bool}, DVs K α B H vs (bs.map .bl) → vs = bs.map V.bl
  | _, [], .nil => rfl
  | _, b :: bs, .cons h t => by cases h; rw [DVs.bls t]; rfl
theorem DVs.intsI {K : PySem.W.Frag} {α : List Addr} {B : AP1} {H : Hp} : ∀ {vs : List V} {bs : List Int}, DVs K α B H vs (bs.map .int) → vs = bs.map V.int
  | _, [], .nil => rfl
  | _, b :: bs, .cons h t => by cases h; rw [DVs.intsI t]; rfl
def gAll : List D → Option Sl
  | [.lst ds] => (blsD ds).map fun bs => .va (.bl (bs.all id))
  | _ => none
def gAny : List D → Option Sl
  | [.lst ds] => (blsD ds).map fun bs => .va (.bl (bs.any id))
  | _ => none
theorem cd_all (hc : X.calm = true) : CallD X (.builtin "all") gAll := by
  refine ⟨_, cr_all hc, ?_⟩
  intro α B H vs ds res h g nu Q w
  unfold gAll at g
  split at g
  · obtain ⟨bs, q, rfl⟩ := Option.map_eq_some_iff.mp g
    obtain rfl := blsD_eq q
    obtain ⟨v, rfl, pv⟩ := h.one
    obtain ⟨p, xs, rfl, hT, hd⟩ := pv.lst
    obtain rfl := hd.bls
    exact ⟨p, bs, rfl, .inl (.inl hT), w.1 _ (.bl _)⟩
  · cases g
theorem cd_any (hc : X.calm = true) : CallD X (.builtin "any") gAny := by
  refine ⟨_, cr_any hc, ?_⟩
  intro α B H vs ds res h g nu Q w
  unfold gAny at g
  split at g
  · obtain ⟨bs, q, rfl⟩ := Option.map_eq_some_iff.mp g
    obtain rfl := blsD_eq q
    obtain ⟨v, rfl, pv⟩ := h.one
    obtain ⟨p, xs, rfl, hT, hd⟩ := pv.lst
    obtain rfl := hd.bls
    exact ⟨p, bs, rfl, .inl (.inl hT), w.1 _ (.bl _)⟩
  · cases g
def gSum : List D → Option Sl
  | [.lst ds] => (intsD ds).map fun bs => .va (.int bs.sum)
  | _ => none
theorem cd_sum (hc : X.calm = true) : CallD X (.builtin "sum") gSum := by
  refine ⟨_, cr_sum hc, ?_⟩
  intro α B H vs ds res h g nu Q w
  unfold gSum at g
  split at g
  · obtain ⟨bs, q, rfl⟩ := Option.map_eq_some_iff.mp g
    obtain rfl := intsD_eq q
    obtain ⟨v, rfl, pv⟩ := h.one
    obtain ⟨p, xs, rfl, hT, hd⟩ := pv.lst
    obtain rfl := hd.intsI
    exact ⟨p, bs, rfl, .inl (.inl hT), w.1 _ (.int _)⟩
  · cases g
/-- the greatest, the least -/
def maxI : Int → List Int → Int
  | m, [] => m
  | m, x :: xs => maxI (if m < x then x else m) xs
def minI : Int → List Int → Int
  | m, [] => m
  | m, x :: xs => minI (if x < m then x else m) xs
theorem maxI_spec : ∀ (xs : List Int) (m : Int), (maxI m xs = m ∨ maxI m xs ∈ xs) ∧ m ≤ maxI m xs ∧ ∀ y ∈ xs, y ≤ maxI m xs
  | [], m => ⟨.inl rfl, Int.le_refl _, nofun⟩
  | x :: xs, m => by
    obtain ⟨h1, h2, h3⟩ := maxI_spec xs (if m < x then x else m)
    unfold maxI
    refine ⟨?_, ?_, ?_⟩
    · rcases h1 with h1 | h1
      · rw [h1]
        split
        · exact .inr (List.mem_cons_self ..)
        · exact .inl rfl
      · exact .inr (List.mem_cons_of_mem _ h1)
    · split at h2 <;> split <;> omega
    · intro y hy
      rcases List.mem_cons.mp hy with rfl | hy
      · split at h2 <;> split <;> omega
      · exact h3 y hy
theorem minI_spec : ∀ (xs : List Int) (m : Int), (minI m xs = m ∨ minI m xs ∈ xs) ∧ minI m xs ≤ m ∧ ∀ y ∈ xs, minI m xs ≤ y
  | [], m => ⟨.inl rfl, Int.le_refl _, nofun⟩
  | x :: xs, m => by
    obtain ⟨h1, h2, h3⟩ := minI_spec xs (if x < m then x else m)
    unfold minI
    refine ⟨?_, ?_, ?_⟩
    · rcases h1 with h1 | h1
      · rw [h1]
        split
        · exact .inr (List.mem_cons_self ..)
        · exact .inl rfl
      · exact .inr (List.mem_cons_of_mem _ h1)
    · split at h2 <;> split <;> omega
    · intro y hy
      rcases List.mem_cons.mp hy with rfl | hy
      · split at h2 <;> split <;> omega
      · exact h3 y hy
theorem maxI_one {x m : Int} {xs : List Int} (h1 : m ∈ x :: xs) (h2 : ∀ y ∈ x :: xs, y ≤ m) : m = maxI x xs := by
  obtain ⟨a, b, c⟩ := maxI_spec xs x
  have h3 : maxI x xs ≤ m := by
    rcases a with a | a
    · rw [a]; exact h2 x (List.mem_cons_self ..)
    · exact h2 _ (List.mem_cons_of_mem _ a)
  rcases List.mem_cons.mp h1 with h1 | h1
  · omega
  · have := c m h1; omega
theorem minI_one {x m : Int} {xs : List Int} (h1 : m ∈ x :: xs) (h2 : ∀ y ∈ x :: xs, m ≤ y) : m = minI x xs := by
  obtain ⟨a, b, c⟩ := minI_spec xs x
  have h3 : m ≤ minI x xs := by
    rcases a with a | a
    · rw [a]; exact h2 x (List.mem_cons_self ..)
    · exact h2 _ (List.mem_cons_of_mem _ a)
  rcases List.mem_cons.mp h1 with h1 | h1
  · omega
  · have := c m h1; omega
def maxL : List Int → Option Sl
  | [] => none
  | x :: xs => some (.va (.int (maxI x xs)))
def minL : List Int → Option Sl
  | [] => none
  | x :: xs => some (.va (.int (minI x xs)))
def gMax : List D → Option Sl
  | [.lst ds] => (intsD ds).bind maxL
  | [.tup ds] => (intsD ds).bind maxL
  | [.int i, .int j] => some (.va (.int (if j > i then j else i)))
  | _ => none
theorem cd_max (hc : X.calm = true) : CallD X (.builtin "max") gMax := by
  refine ⟨_, CallR.or (cr_max hc) (CallR.or (Wr.cr_maxT hc) (call_max2 hc)), ?_⟩
  intro α B H vs ds res h g nu Q w
  unfold gMax at g
  split at g
  · obtain ⟨bs, q, g2⟩ := Option.bind_eq_some_iff.mp g
    clear g
    obtain rfl := intsD_eq q
    obtain ⟨v, rfl, pv⟩ := h.one
    obtain ⟨p, xs, rfl, hT, hd⟩ := pv.lst
    obtain rfl := hd.intsI
    cases bs with
    | nil => cases g2
    | cons x xs =>
      cases g2
      refine .inl ⟨p, x :: xs, rfl, .inl (.inl hT), by simp, fun m h1 h2 => ?_⟩
      rw [maxI_one h1 h2]; exact w.1 _ (.int _)
  · obtain ⟨bs, q, g2⟩ := Option.bind_eq_some_iff.mp g
    clear g
    obtain rfl := intsD_eq q
    obtain ⟨v, rfl, pv⟩ := h.one
    obtain ⟨p, xs, rfl, hT, hd, _⟩ := pv.tup
    obtain rfl := hd.intsI
    cases bs with
    | nil => cases g2
    | cons x xs =>
      cases g2
      refine .inr (.inl ⟨p, x :: xs, rfl, hT, by simp, fun m h1 h2 => ?_⟩)
      rw [maxI_one h1 h2]; exact w.1 _ (.int _)
  · cases g
    obtain ⟨v, u, rfl, p1, p2⟩ := h.two
    obtain rfl := p1.int
    obtain rfl := p2.int
    exact .inr (.inr ⟨_, _, rfl, w.1 _ (.int _)⟩)
  · cases g
def gMin : List D → Option Sl
  | [.lst ds] => (intsD ds).bind minL
  | [.int i, .int j] => some (.va (.int (if j < i then j else i)))
  | _ => none
theorem cd_min (hc : X.calm = true) : CallD X (.builtin "min") gMin := by
  refine ⟨_, CallR.or (cr_min hc) (call_min2 hc), ?_⟩
  intro α B H vs ds res h g nu Q w
  unfold gMin at g
  split at g
  · obtain ⟨bs, q, g2⟩ := Option.bind_eq_some_iff.mp g
    clear g
    obtain rfl := intsD_eq q
    obtain ⟨v, rfl, pv⟩ := h.one
    obtain ⟨p, xs, rfl, hT, hd⟩ := pv.lst
    obtain rfl := hd.intsI
    cases bs with
    | nil => cases g2
    | cons x xs =>
      cases g2
      refine .inl ⟨p, x :: xs, rfl, .inl (.inl hT), by simp, fun m h1 h2 => ?_⟩
      rw [minI_one h1 h2]; exact w.1 _ (.int _)
  · cases g
    obtain ⟨v, u, rfl, p1, p2⟩ := h.two
    obtain rfl := p1.int
    obtain rfl := p2.int
    exact .inr ⟨_, _, rfl, w.1 _ (.int _)⟩
  · cases g
def gAbs : List D → Option Sl
  | [.int i] => some (.va (.int (if i < 0 then -i else i)))
  | _ => none
theorem cd_abs : CallD X (.builtin "abs") gAbs := by
  refine ⟨_, call_abs, ?_⟩
  intro α B H vs ds res h g nu Q w
  unfold gAbs at g
  split at g
  · cases g
    obtain ⟨v, rfl, pv⟩ := h.one
    obtain rfl := pv.int
    exact ⟨_, rfl, w.1 _ (.int _)⟩
  · cases g
def gList : List D → Option Sl
  | [.tup ds] => some (.ow ds)
  | [.lst ds] => some (.ow ds)
  | _ => none
theorem cd_list : CallD X (.type "list") gList := by
  refine ⟨_, call_list_of, ?_⟩
  intro α B H vs ds res h g nu Q w
  unfold gList at g
  split at g
  · cases g
    obtain ⟨v, rfl, pv⟩ := h.one
    obtain ⟨p, xs, rfl, hT, hd, _⟩ := pv.tup
    exact ⟨p, xs, rfl, .inr hT, w _ hd⟩
  · cases g
    obtain ⟨v, rfl, pv⟩ := h.one
    obtain ⟨p, xs, rfl, hT, hd⟩ := pv.lst
    exact ⟨p, xs, rfl, .inl (.inl (.inl hT)), w _ hd⟩
  · cases g
def gTuple : List D → Option Sl
  | [.tup ds] => some (.va (.tup ds))
  | [.lst ds] => some (.va (.tup ds))
  | _ => none
theorem cd_tuple : CallD X (.type "tuple") gTuple := by
  refine ⟨_, call_tuple_of, ?_⟩
  intro α B H vs ds res h g nu Q w
  unfold gTuple at g
  split at g
  · cases g
    obtain ⟨v, rfl, pv⟩ := h.one
    obtain ⟨p, xs, rfl, hT, hd, dv⟩ := pv.tup
    exact ⟨p, xs, rfl, .inr ⟨hT, w.1 _ dv⟩⟩
  · cases g
    obtain ⟨v, rfl, pv⟩ := h.one
    obtain ⟨p, xs, rfl, hT, hd⟩ := pv.lst
    exact ⟨p, xs, rfl, .inl ⟨.inl (.inl hT), w.2 _ _ rfl hd⟩⟩
  · cases g
end
end Mi

namespace Mi
open PySem PySem.Spec PyProof.Rows L2

/-! ## targets -/
abbrev MG := D → List Sl → Option (List Sl)
abbrev MGs := List D → List Sl → Option (List Sl)
def semG (X : Cx) (tg : Expr) : TG := fun v σ H Q => ∀ pins s u, Inv X pins σ H s → RelV v u →
  wpAny (model X.prog X.w) X.A (assign tg X.env u) (fun _ s' => ∃ σ' H', Inv X pins σ' H' s' ∧ Q σ' H') X.xe s
def semGs (X : Cx) (ts : List Expr) : TGs := fun vs σ H Q => ∀ pins s us, Inv X pins σ H s → Vals vs us →
  wpAny (model X.prog X.w) X.A (assignInOrder ((assignEach ts X.env).map (·.2)) us) (fun _ s' => ∃ σ' H', Inv X pins σ' H' s' ∧ Q σ' H') X.xe s
theorem pg_sem {X : Cx} {tg : Expr} : PG X tg (semG X tg) := ⟨fun pins s σ H v u Q I r h => h pins s u I r⟩
theorem pgs_sem {X : Cx} {ts : List Expr} : PGs X ts (semGs X ts) := ⟨fun pins s σ H v u Q I r h => h pins s u I r⟩
theorem _root_.L2.PG.sem {X : Cx} {e : Expr} {t : TG} (h : PG X e t) {v σ H Q} (q : t v σ H Q) : semG X e v σ H Q := fun pins s u I r => h.run pins s σ H v u Q I r q
theorem _root_.L2.PGs.sem {X : Cx} {e : List Expr} {t : TGs} (h : PGs X e t) {v σ H Q} (q : t v σ H Q) : semGs X e v σ H Q := fun pins s u I r => h.run pins s σ H v u Q I r q
/-- only these slots are other ones -/
def OnlyAt (sl : List Nat) (σ σ' : L2.St) : Prop := ∀ vs : List Nat, (∀ i ∈ sl, i ∈ vs) → wipe σ' vs = wipe σ vs
theorem wipe_set {x : Option V} : ∀ {vs : List Nat} {i : Nat} {σ : L2.St}, i ∈ vs → wipe (σ.set i x) vs = wipe σ vs
  | [], _, _, h => by simp at h
  | v :: vs, i, σ, h => by
    unfold L2.wipe
    by_cases hi : i ∈ vs
    · rw [wipe_set hi]
    · have e : i = v := by
        rcases List.mem_cons.mp h with h | h
        · exact h
        · exact absurd h hi
      subst e
      have gen : ∀ (ws : List Nat) (τ : L2.St), i ∉ ws → wipe (τ.set i x) ws = (wipe τ ws).set i x := by
        intro ws
        induction ws with
        | nil => intro τ _; rfl
        | cons w ws ih =>
          intro τ hn
          unfold L2.wipe
          rw [ih τ fun m => hn (List.mem_cons_of_mem _ m), List.set_comm _ _ (fun e => hn (by rw [e]; exact List.mem_cons_self ..))]
      rw [gen vs σ hi, List.set_set]
/-- a target of values that are kept for good; the slots that it changes -/
structure SdG (X : Cx) (T : Tb) (tg : Expr) (sl : List Nat) (m : MG) : Prop where
  run : ∀ F α os st σ H v d ρ' (Q : L2.St → Hp → Prop), Rel X.K T F α os st σ H → DV X.K α (BB F α os) H v d → m d st.ρ = some ρ' →
    (∀ os' σ', Stp F α (BB F α os) H α (BB F α os') H → Rel X.K T F α os' { st with ρ := ρ' } σ' H → OnlyAt sl σ σ' → Q σ' H) → semG X tg v σ H Q
structure SdGs (X : Cx) (T : Tb) (tgs : List Expr) (sl : List Nat) (m : MGs) : Prop where
  run : ∀ F α os st σ H vs ds ρ' (Q : L2.St → Hp → Prop), Rel X.K T F α os st σ H → DVs X.K α (BB F α os) H vs ds → m ds st.ρ = some ρ' →
    (∀ os' σ', Stp F α (BB F α os) H α (BB F α os') H → Rel X.K T F α os' { st with ρ := ρ' } σ' H → OnlyAt sl σ σ' → Q σ' H) → semGs X tgs vs σ H Q
section
variable {X : Cx} {T : Tb} {E : EX} {a b c : Expr} {es : List Expr} {pos : Pos}
theorem SlsOk.setO {K : PySem.W.Frag} {α : List Addr} {B : AP1} {H : Hp} {xs : List Sl} {ss : List (Option V)} {os : List (List Addr)} {x : Sl} {s : Option V} {o : List Addr}
    (h : SlsOk K α B H xs ss os) (hx : SlOk K α B H x s o) (i : Nat) : SlsOk K α B H (xs.set i x) (ss.set i s) (os.set i o) := h.set hx i
/-- a slot is given a value (P: its own list's address, pending till now) -/
theorem Rel.put {K : PySem.W.Frag} {F : AP1} {α : List Addr} {os : List (List Addr)} {st : Sto} {σ : L2.St} {H : Hp} {r : Sl} {v : V} {P : List Addr} {i : Nat}
    (R0 : Rel K T (FP F P) α os st σ H) (nf : ∀ a ∈ P, ¬ F a) (h : RV K α (BB (FP F P) α os) H r v P) (pn : P.Nodup) :
    Stp F α (BB (FP F P) α os) H α (BB F α (os.set i P)) H ∧ Rel K T F α (os.set i P) { st with ρ := st.ρ.set i r } (σ.set i (some v)) H := by
  have wb : ∀ b, BB F α (os.set i P) b → BB (FP F P) α os b := fun b z => by
    rcases z with z | z | z
    · exact .inl (.inl z)
    · exact .inr (.inl z)
    · rcases flatten_set_sub os i P b z with z | z
      · exact .inr (.inr z)
      · exact .inl (.inr z)
  have s : Stp F α (BB (FP F P) α os) H α (BB F α (os.set i P)) H := Stp.weak wb
  refine ⟨s, ?_, ?_, fun b m => ?_, ⟨fun k ins q => (R0.so.at' k ins q).step s fun b _ u q => q, R0.so.len, R0.so.nd⟩, fun b z => R0.fr b (.inl z), fun b z => R0.has b (.inl z)⟩
  · exact (R0.sl.step s fun b _ u q => q).set (h.1.step s fun b _ u q => q) i
  · exact flatten_set_nd os i P R0.nd pn fun b m z => (R0.off b z).1 (.inr m)
  · rcases flatten_set_sub os i P b m with z | z
    · exact ⟨fun q => (R0.off b z).1 (.inl q), (R0.off b z).2⟩
    · exact ⟨nf b z, R0.fr b (.inr z)⟩
theorem RV.nd {K : PySem.W.Frag} {α : List Addr} {B : AP1} {H : Hp} {r : Sl} {v : V} {P : List Addr} (h : RV K α B H r v P) : P.Nodup := by
  obtain ⟨h, n⟩ := h
  cases r with
  | un => exact absurd rfl n
  | va d => rw [h.1]; exact List.nodup_nil
  | ow xs => obtain ⟨a, vs, e, _⟩ := h; rw [e]; exact List.nodup_cons.mpr ⟨by simp, List.nodup_nil⟩
def mgName (i : Nat) : MG := fun d ρ => some (ρ.set i (.va d))
theorem sg_name {i : Nat} (h : PG X a (gName i)) : SdG X T a [i] (mgName i) := by
  refine ⟨fun F α os st σ H v d ρ' Q R0 hv e k => h.sem ?_⟩
  cases e
  have R1 : Rel X.K T (FP F []) α os st σ H := by rw [FP_nil]; exact R0
  obtain ⟨s, R2⟩ := R1.put (r := .va d) (v := v) (i := i) (fun b m => nomatch m) (by rw [FP_nil]; exact ⟨⟨rfl, v, rfl, hv⟩, nofun⟩) List.nodup_nil
  rw [FP_nil] at s
  exact k _ _ s R2 fun vs hvs => wipe_set (hvs i (List.mem_singleton.mpr rfl))
def mgNil : MGs := fun ds ρ => match ds with
  | [] => some ρ
  | _ => none
def mgCons (m : MG) (ms : MGs) : MGs := fun ds ρ => match ds with
  | d :: ds => (match m d ρ with
    | some ρ' => ms ds ρ'
    | none => none)
  | [] => none
theorem sg_nil : SdGs X T [] [] mgNil := by
  refine ⟨fun F α os st σ H vs ds ρ' Q R0 hv e k => pgs_nil.sem ?_⟩
  cases hv with
  | nil => cases e; exact ⟨rfl, k os σ Stp.refl R0 fun _ _ => rfl⟩
  | cons _ _ => cases e
theorem sg_cons {m : MG} {ms : MGs} {s1 s2 : List Nat} (h : SdG X T a s1 m) (hs : SdGs X T es s2 ms)
    (he : (assignEach (a :: es) X.env).map (·.2) = assign a X.env :: (assignEach es X.env).map (·.2) := by rfl) : SdGs X T (a :: es) (s1 ++ s2) (mgCons m ms) := by
  refine ⟨fun F α os st σ H vs ds ρ' Q R0 hv e k => (pgs_cons pg_sem pgs_sem he).sem ?_⟩
  cases hv with
  | nil => cases e
  | @cons v vs d ds hd ht =>
    cases q : m d st.ρ with
    | none => simp only [mgCons, q] at e; cases e
    | some ρ1 =>
      simp only [mgCons, q] at e
      refine ⟨v, vs, rfl, h.run F α os st σ H v d ρ1 _ R0 hd q fun os' σ' s R1 o1 => ?_⟩
      refine hs.run F α os' { st with ρ := ρ1 } σ' H vs ds ρ' Q R1 (ht.step s) e fun os2 σ2 s2 R2 o2 => k os2 σ2 (s.trans s2) R2 fun ws hw => ?_
      rw [o2 ws fun i m => hw i (List.mem_append_right _ m), o1 ws fun i m => hw i (List.mem_append_left _ m)]
def mgTup (n : Nat) (ms : MGs) : MG := fun d ρ => match d with
  | .tup ds => if ds.length = n then ms ds ρ else none
  | _ => none
theorem sg_tup {k n : Nat} {sl : List Nat} {ms : MGs} (hc : X.calm = true) (h : SdGs X T es sl ms) (hn : (assignEach es X.env).length = n := by rfl)
    (hst : (assignEach es X.env).findIdx? (·.1) = none := by rfl) : SdG X T (.Tuple es k pos) sl (mgTup n ms) := by
  refine ⟨fun F α os st σ H v d ρ' Q R0 hv e k => (pg_tup hc pgs_sem hn hst).sem ?_⟩
  cases d with
  | tup ds =>
    simp only [mgTup] at e
    split at e
    · rename_i hl
      obtain ⟨p, vs, rfl, hT, hd, _⟩ := (PV.dv hv).tup
      exact ⟨p, vs, rfl, hT, by rw [hd.length]; exact hl, h.run F α os st σ H vs ds ρ' Q R0 hd e k⟩
    · cases e
  | _ => cases e
end

/-! ## walks -/
/-- the walk J goes through these items -/
structure Wk (K : PySem.W.Frag) (J : It) (α : List Addr) (B : AP1) (H : Hp) (items : List D) : Prop where
  stop : ∀ α2 B2 H2, Stp (fun _ => False) α B H α2 B2 H2 → J.stop items.length H2
  go : ∀ α2 B2 H2 i, Stp (fun _ => False) α B H α2 B2 H2 → i < items.length → J.go i H2
  yld : ∀ α2 B2 H2 i x H3, Stp (fun _ => False) α B H α2 B2 H2 → i < items.length → J.yld i H2 x H3 → ∃ d, items[i]? = some d ∧
    ((H3 = H2 ∧ DV K α2 B2 H2 x d) ∨ ∃ p ds vs, H2 p = none ∧ x = .ref p ∧ H3 = upd H2 p (.tup vs) ∧ d = .tup ds ∧ DVs K α2 B2 H2 vs ds)
abbrev MI := Sto → R (List D)
def RI (K : PySem.W.Frag) : List Addr → AP1 → Hp → List D → It → List Addr → Prop := fun α B H items J P => P = [] ∧ Wk K J α B H items
structure SdI (X : Cx) (T : Tb) (E : EX) (tg iter : Expr) (m : MI) : Prop where
  ex : ∃ wi, PI X tg iter wi ∧ ∀ F α os st σ H (Q : It → Hp → Prop), Rel X.K T F α os st σ H → Post X.K T F α os σ H E (RI X.K) (m st) Q → wi σ H Q
section
variable {X : Cx} {T : Tb} {E : EX} {a b c tg : Expr} {es : List Expr} {pos : Pos}
/-- a list or a tuple -/
def iSeq (X : Cx) (l : Expr) : TI := fun σ H R => semE X l σ H fun x H1 => ∃ a, x = .ref a ∧ ((∃ xs, SqL X.K H1 a xs) ∧ R (Itl X.K a) H1 ∨ (∃ xs, SqT X.K H1 a xs) ∧ R (Itt X.K a) H1)
theorem pi_seq {l : Expr} : PI X tg l (iSeq X l) := by
  refine ⟨fun pins s σ H R I h => ?_⟩
  refine thn (h pins s I) fun v s1 ⟨x, H1, I1, r1, q1⟩ => ?_
  obtain ⟨a, e, q⟩ := q1
  subst e
  cases r1
  rcases q with ⟨⟨xs, hq⟩, q⟩ | ⟨⟨xs, hq⟩, q⟩
  · obtain ⟨its, rv, p, hz⟩ := I1.list hq
    refine wpAny_pyIter_list p.isList ?_
    refine ⟨s1.heap.objs.size, [s1.heap.objs.size], _, _, H1, rfl, I1.kept (t' := s1.toks) fun b o e => Heap.get?_push_of_some _ e, turn_list a _, ⟨_, Heap.get?_push_size _ rfl, rfl, rfl⟩, fun b hb => ?_, q⟩
    have e : b = s1.heap.objs.size := by simpa using hb
    subst e
    exact I1.fpOk (Nat.le_refl _) (I1.hok.fresh (Nat.le_refl _))
  · obtain ⟨its, rv, p, hz⟩ := I1.tuple hq
    refine wpAny_pyIter_tuple (show s1.heap.IsTuple a its.toArray from p) ?_
    refine ⟨s1.heap.objs.size, [s1.heap.objs.size], _, _, H1, rfl, I1.kept (t' := s1.toks) fun b o e => Heap.get?_push_of_some _ e, turn_tuple a _, ⟨_, Heap.get?_push_size _ rfl, rfl, rfl⟩, fun b hb => ?_, q⟩
    have e : b = s1.heap.objs.size := by simpa using hb
    subst e
    exact I1.fpOk (Nat.le_refl _) (I1.hok.fresh (Nat.le_refl _))
theorem SqL.inj {K : PySem.W.Frag} {H : Hp} {a : Addr} {xs : List V} (h : H a = some (.lst xs)) : SqL K H a xs := .inl (.inl h)
/-- what is read at an address that does not change -/
theorem DV.wkL {K : PySem.W.Frag} {α : List Addr} {B : AP1} {H : Hp} {a : Addr} {ds : List D} (h : DV K α B H (.ref a) (.lst ds)) : Wk K (Itl K a) α B H ds := by
  refine ⟨fun α2 B2 H2 s => ?_, fun α2 B2 H2 i s hi => ?_, fun α2 B2 H2 i x H3 s hi y => ?_⟩
  · obtain ⟨p, vs, e, hT, hd⟩ := (PV.dv (h.step s)).lst
    cases e
    exact ⟨vs, .inl (.inl hT), by rw [hd.length]; exact Nat.le_refl _⟩
  · obtain ⟨p, vs, e, hT, hd⟩ := (PV.dv (h.step s)).lst
    cases e
    obtain ⟨v, q, _⟩ := hd.at' (List.getElem?_eq_getElem hi)
    exact ⟨vs, v, .inl (.inl hT), q⟩
  · obtain ⟨p, vs, e, hT, hd⟩ := (PV.dv (h.step s)).lst
    cases e
    obtain ⟨rfl, q⟩ := y
    obtain ⟨d, e1, e2⟩ := hd.at (q vs (.inl (.inl hT)))
    exact ⟨d, e1, .inl ⟨rfl, e2⟩⟩
theorem DV.wkT {K : PySem.W.Frag} {α : List Addr} {B : AP1} {H : Hp} {a : Addr} {ds : List D} (h : DV K α B H (.ref a) (.tup ds)) : Wk K (Itt K a) α B H ds := by
  refine ⟨fun α2 B2 H2 s => ?_, fun α2 B2 H2 i s hi => ?_, fun α2 B2 H2 i x H3 s hi y => ?_⟩
  · obtain ⟨p, vs, e, hT, hd, _⟩ := (PV.dv (h.step s)).tup
    cases e
    exact ⟨vs, hT, by rw [hd.length]; exact Nat.le_refl _⟩
  · obtain ⟨p, vs, e, hT, hd, _⟩ := (PV.dv (h.step s)).tup
    cases e
    obtain ⟨v, q, _⟩ := hd.at' (List.getElem?_eq_getElem hi)
    exact ⟨vs, v, hT, q⟩
  · obtain ⟨p, vs, e, hT, hd, _⟩ := (PV.dv (h.step s)).tup
    cases e
    obtain ⟨rfl, q⟩ := y
    obtain ⟨d, e1, e2⟩ := hd.at (q vs hT)
    exact ⟨d, e1, .inl ⟨rfl, e2⟩⟩
theorem DV.wkS {K : PySem.W.Frag} {α : List Addr} {B : AP1} {H : Hp} {a : Addr} {ns : List Int} (h : DV K α B H (.ref a) (.scr ns)) : Wk K (Itl K a) α B H (ns.map .int) := by
  refine ⟨fun α2 B2 H2 s => ?_, fun α2 B2 H2 i s hi => ?_, fun α2 B2 H2 i x H3 s hi y => ?_⟩
  · exact ⟨_, (h.step s).scrL, by simp⟩
  · have hi' : i < (ns.map V.int).length := by simpa using hi
    exact ⟨_, _, (h.step s).scrL, List.getElem?_eq_getElem hi'⟩
  · obtain ⟨rfl, q⟩ := y
    have e := q _ (h.step s).scrL
    rw [List.getElem?_map] at e
    obtain ⟨n, e1, rfl⟩ := Option.map_eq_some_iff.mp e
    exact ⟨.int n, by rw [List.getElem?_map, e1]; rfl, .inl ⟨rfl, .int n⟩⟩
def mItems (m : MV) : MI := fun st => (m st).bnd fun r st1 => match r.d with
  | .tup ds => .ok ds st1
  | .lst ds => .ok ds st1
  | .scr ns => .ok (ns.map .int) st1
  | _ => .no
theorem si_val {m : MV} (h : SdV X T E a m) : SdI X T E tg a (mItems m) := by
  refine ⟨_, pi_seq, fun F α os st σ H Q R0 P => ?_⟩
  refine h.run F α os st σ H _ R0 (P.bnd fun r st1 α1 os1 H1 P1 v nf s1 R1 hv e1 P => ?_)
  have hd := rv_frz nf R1 hv
  have s1 := stp_drop s1
  have R1 := R1.drop
  generalize r.d = d at hd P
  cases d with
  | tup ds =>
    obtain ⟨p, vs, rfl, hT, _, _⟩ := (PV.dv hd).tup
    exact ⟨p, rfl, .inr ⟨⟨vs, hT⟩, P.done0 s1 R1 ⟨rfl, hd.wkT⟩⟩⟩
  | lst ds =>
    obtain ⟨p, vs, rfl, hT, _⟩ := (PV.dv hd).lst
    exact ⟨p, rfl, .inl ⟨⟨vs, .inl (.inl hT)⟩, P.done0 s1 R1 ⟨rfl, hd.wkL⟩⟩⟩
  | scr ns =>
    obtain ⟨p, rfl, hT⟩ := (PV.dv hd).scr
    exact ⟨p, rfl, .inl ⟨⟨_, hT⟩, P.done0 s1 R1 ⟨rfl, hd.wkS⟩⟩⟩
  | _ => exact P.elim
/-- range -/
def rngD (lo : Int) (n : Nat) : List D := (List.range n).map fun i => .int (lo + (i : Nat))
theorem wkR {K : PySem.W.Frag} {α : List Addr} {B : AP1} {H : Hp} (lo : Int) (n : Nat) : Wk K (Itr lo n) α B H (rngD lo n) := by
  have hl : (rngD lo n).length = n := by simp [rngD]
  refine ⟨fun α2 B2 H2 s => ?_, fun α2 B2 H2 i s hi => ?_, fun α2 B2 H2 i x H3 s hi y => ?_⟩
  · rw [hl]; exact Nat.le_refl _
  · rw [hl] at hi; exact hi
  · rw [hl] at hi
    obtain ⟨rfl, rfl⟩ := y
    exact ⟨.int (lo + (i : Nat)), by simp [rngD, hi], .inl ⟨rfl, .int _⟩⟩
def RNG : Int := 4000000000000000000
def mRng1 (ms : MHs) : MI := fun st => (ms st).bnd fun hs st1 => match atAll hs st1 with
  | some [.int j] => if -RNG ≤ j ∧ j ≤ RNG then .ok (rngD 0 j.toNat) st1 else .no
  | _ => .no
def mRng2 (ms : MHs) : MI := fun st => (ms st).bnd fun hs st1 => match atAll hs st1 with
  | some [.int i, .int j] => if (-RNG ≤ i ∧ i ≤ RNG) ∧ (-RNG ≤ j ∧ j ≤ RNG) then .ok (rngD i (j - i).toNat) st1 else .no
  | _ => .no
theorem si_rng1 {ms : MHs} {p : Pos} (h : SdHs X T E [a] ms) (hg : Gl X "range") (hm : X.mg "range" = none) (hs : starEach [a] X.env = [(false, eval a X.env)] := by rfl) : SdI X T E tg (.Call (.Name "range" p) [a] [] pos) (mRng1 ms) := by
  refine ⟨_, pi_range1 hg hm pa_sem hs, fun F α os st σ H Q R0 P => ?_⟩
  refine h.run F α os st σ H _ R0 (P.bnd fun r st1 α1 os1 H1 P1 v nf s1 R1 hv e1 P => ?_)
  obtain ⟨rfl, k1⟩ := hv
  rw [FP_nil] at s1 R1 k1
  cases q1 : atAll r st1 with
  | none => simp only [q1] at P; exact P.elim
  | some ds =>
    have pv := HdsOk.at R1 k1 q1
    simp only [q1] at P
    split at P
    · rename_i j e
      cases e
      obtain ⟨v, rfl, pv1⟩ := pv.one
      obtain rfl := pv1.int
      split at P
      · rename_i c
        unfold RNG at c
        exact ⟨j, rfl, by omega, by omega, P.done0 s1 R1 ⟨rfl, wkR 0 _⟩⟩
      · exact P.elim
    · exact P.elim
theorem si_rng2 {ms : MHs} {p : Pos} (h : SdHs X T E [a, b] ms) (hg : Gl X "range") (hm : X.mg "range" = none) (hs : starEach [a, b] X.env = [(false, eval a X.env), (false, eval b X.env)] := by rfl)
    (hs2 : starEach [b] X.env = [(false, eval b X.env)] := by rfl) : SdI X T E tg (.Call (.Name "range" p) [a, b] [] pos) (mRng2 ms) := by
  refine ⟨_, pi_range2 hg hm pa_sem hs hs2, fun F α os st σ H Q R0 P => ?_⟩
  refine h.run F α os st σ H _ R0 (P.bnd fun r st1 α1 os1 H1 P1 v nf s1 R1 hv e1 P => ?_)
  obtain ⟨rfl, k1⟩ := hv
  rw [FP_nil] at s1 R1 k1
  cases q1 : atAll r st1 with
  | none => simp only [q1] at P; exact P.elim
  | some ds =>
    have pv := HdsOk.at R1 k1 q1
    simp only [q1] at P
    split at P
    · rename_i i j e
      cases e
      obtain ⟨v, u, rfl, p1, p2⟩ := pv.two
      obtain rfl := p1.int
      obtain rfl := p2.int
      split at P
      · rename_i c
        unfold RNG at c
        exact ⟨i, j, rfl, ⟨by omega, by omega, by omega, by omega⟩, P.done0 s1 R1 ⟨rfl, wkR i _⟩⟩
      · exact P.elim
    · exact P.elim
/-- enumerate of a tuple -/
def enumD : Nat → List D → List D
  | _, [] => []
  | i, d :: ds => .tup [.int (i : Nat), d] :: enumD (i + 1) ds
theorem enumD_len : ∀ (ds : List D) (i : Nat), (enumD i ds).length = ds.length
  | [], _ => rfl
  | d :: ds, i => by unfold enumD; rw [List.length_cons, List.length_cons, enumD_len ds]
theorem enumD_at : ∀ (ds : List D) (i j : Nat) (d : D), ds[j]? = some d → (enumD i ds)[j]? = some (.tup [.int ((i + j : Nat) : Int), d])
  | [], _, _, _, h => by simp at h
  | d :: ds, i, 0, e, h => by rw [List.getElem?_cons_zero] at h; cases h; rfl
  | d :: ds, i, j + 1, e, h => by
    rw [List.getElem?_cons_succ] at h
    unfold enumD
    rw [List.getElem?_cons_succ, enumD_at ds (i + 1) j e h]
    congr 5
    omega
theorem DV.wkET {K : PySem.W.Frag} {α : List Addr} {B : AP1} {H : Hp} {a : Addr} {ds : List D} (h : DV K α B H (.ref a) (.tup ds)) : Wk K (Wr.IteT K a) α B H (enumD 0 ds) := by
  have hl := enumD_len ds 0
  refine ⟨fun α2 B2 H2 s => ?_, fun α2 B2 H2 i s hi => ?_, fun α2 B2 H2 i x H3 s hi y => ?_⟩
  · obtain ⟨p, vs, e, hT, hd, _⟩ := (PV.dv (h.step s)).tup
    cases e
    exact ⟨vs, hT, by rw [hd.length, hl]; exact Nat.le_refl _⟩
  · obtain ⟨p, vs, e, hT, hd, _⟩ := (PV.dv (h.step s)).tup
    cases e
    rw [hl] at hi
    obtain ⟨v, q, _⟩ := hd.at' (List.getElem?_eq_getElem hi)
    exact ⟨vs, v, hT, q⟩
  · obtain ⟨p, vs, e, hT, hd, _⟩ := (PV.dv (h.step s)).tup
    cases e
    obtain ⟨Tn, z, rfl, nT, rfl, q⟩ := y
    obtain ⟨d, e1, e2⟩ := hd.at (q vs hT)
    refine ⟨_, enumD_at ds 0 i d e1, .inr ⟨Tn, [.int ((0 + i : Nat) : Int), d], _, nT, rfl, rfl, rfl, .cons ?_ (.cons e2 .nil)⟩⟩
    rw [Nat.zero_add]; exact .int _
def mEnum (ms : MA) : MI := fun st => (ms st).bnd fun ds st1 => match ds with
  | [.tup xs] => .ok (enumD 0 xs) st1
  | _ => .no
theorem si_enumT {ms : MA} {p tpos : Pos} {elts : List Expr} {kk : Nat} (h : SdA X T E [a] ms) (hg : Gl X "enumerate") (hm : X.mg "enumerate" = none) (hs : starEach [a] X.env = [(false, eval a X.env)] := by rfl) :
    SdI X T E (.Tuple elts kk tpos) (.Call (.Name "enumerate" p) [a] [] pos) (mEnum ms) := by
  refine ⟨_, Wr.pi_enumT hg hm pa_sem hs, fun F α os st σ H Q R0 P => ?_⟩
  refine h.run F α os st σ H _ R0 (P.bnd fun r st1 α1 os1 H1 P1 v nf s1 R1 hv e1 P => ?_)
  obtain ⟨rfl, k1⟩ := hv
  rw [FP_nil] at s1 R1 k1
  cases k1 with
  | nil => exact P.elim
  | @cons v vs d ds hd ht =>
    cases ht with
    | cons _ _ => cases d <;> exact P.elim
    | nil =>
      cases d with
      | tup xs =>
        obtain ⟨p, vs, rfl, hT, _, _⟩ := (PV.dv hd).tup
        exact ⟨p, vs, rfl, hT, P.done0 s1 R1 ⟨rfl, hd.wkET⟩⟩
      | _ => exact P.elim
end
end Mi

namespace Mi
open PySem PySem.Spec PyProof.Rows L2

/-! ## slots laid aside and taken up again -/
def wipeS : List Nat → List Sl → List Sl
  | [], ρ => ρ
  | i :: is, ρ => (wipeS is ρ).set i .un
def vaOf : Option Sl → Sl
  | some (.va d) => .va d
  | _ => .un
/-- the slots as they were -/
def rst : List Nat → List Sl → List Sl → List Sl
  | [], _, ρ => ρ
  | i :: is, ρ0, ρ => (rst is ρ0 ρ).set i (vaOf ρ0[i]?)
def rO : List Nat → List (List Addr) → List (List Addr)
  | [], os => os
  | i :: is, os => (rO is os).set i []
def rσ : List Nat → L2.St → L2.St → L2.St
  | [], _, τ => τ
  | i :: is, σ, τ => (rσ is σ τ).set i (σ[i]?.getD none)
section
variable {K : PySem.W.Frag} {T : Tb} {F : AP1} {α : List Addr} {os : List (List Addr)} {st : Sto} {σ τ : L2.St} {H : Hp} {B : AP1}
theorem rO_sub : ∀ (is : List Nat) (os : List (List Addr)) (a : Addr), a ∈ (rO is os).flatten → a ∈ os.flatten
  | [], _, _, h => h
  | i :: is, os, a, h => by
    rcases flatten_set_sub _ i [] a h with h | h
    · exact rO_sub is os a h
    · simp at h
theorem rO_nd : ∀ (is : List Nat) (os : List (List Addr)), os.flatten.Nodup → (rO is os).flatten.Nodup
  | [], _, h => h
  | i :: is, os, h => flatten_set_nd _ i [] (rO_nd is os h) List.nodup_nil fun b m => by simp at m
theorem rO_rO : ∀ (is : List Nat) (os : List (List Addr)), (rO is os).length = os.length
  | [], _ => rfl
  | i :: is, os => by unfold rO; rw [List.length_set, rO_rO is os]
theorem wipe_ok : ∀ {is : List Nat} {ρ : List Sl}, SlsOk K α B H ρ σ os → SlsOk K α B H (wipeS is ρ) (wipe σ is) (rO is os)
  | [], _, h => h
  | i :: is, ρ, h => (wipe_ok (is := is) h).set (x := .un) (s := none) (o := []) rfl i
theorem bb_rO (is : List Nat) : ∀ a, BB F α (rO is os) a → BB F α os a := fun a h => by
  rcases h with h | h | h
  · exact .inl h
  · exact .inr (.inl h)
  · exact .inr (.inr (rO_sub is os a h))
theorem Rel.wipe (is : List Nat) (R0 : Rel K T F α os st σ H) :
    Stp F α (BB F α os) H α (BB F α (rO is os)) H ∧ Rel K T F α (rO is os) { st with ρ := wipeS is st.ρ } (L2.wipe σ is) H := by
  have s : Stp F α (BB F α os) H α (BB F α (rO is os)) H := Stp.weak (bb_rO is)
  exact ⟨s, wipe_ok (R0.sl.step s fun b _ u q => q), rO_nd is os R0.nd, fun b m => R0.off b (rO_sub is os b m), ⟨fun k i q => (R0.so.at' k i q).step s fun b _ u q => q, R0.so.len, R0.so.nd⟩, R0.fr, R0.has⟩
theorem rst_ok {ρ0 : List Sl} : ∀ {is : List Nat} {ρ : List Sl}, SlsOk K α B H ρ τ os → (∀ i ∈ is, SlOk K α B H (vaOf ρ0[i]?) (σ[i]?.getD none) []) → SlsOk K α B H (rst is ρ0 ρ) (rσ is σ τ) (rO is os)
  | [], _, h, _ => h
  | i :: is, ρ, h, k => (rst_ok (is := is) h fun j m => k j (List.mem_cons_of_mem _ m)).set (k i (List.mem_cons_self ..)) i
theorem rσ_len : ∀ (is : List Nat) (τ : L2.St), (rσ is σ τ).length = τ.length
  | [], _ => rfl
  | i :: is, τ => by unfold rσ; rw [List.length_set, rσ_len is τ]
theorem wipe_at : ∀ (is : List Nat) (i : Nat), i ∉ is → (wipe σ is)[i]? = σ[i]?
  | [], _, _ => rfl
  | j :: is, i, h => by
    unfold L2.wipe
    rw [List.getElem?_set_ne (fun e => h (by rw [e]; exact List.mem_cons_self ..)), wipe_at is i fun m => h (List.mem_cons_of_mem _ m)]
theorem rσ_out : ∀ (is : List Nat) (τ : L2.St) (i : Nat), i ∉ is → (rσ is σ τ)[i]? = τ[i]?
  | [], _, _, _ => rfl
  | j :: is, τ, i, h => by
    unfold rσ
    rw [List.getElem?_set_ne (fun e => h (by rw [e]; exact List.mem_cons_self ..)), rσ_out is τ i fun m => h (List.mem_cons_of_mem _ m)]
theorem rσ_in : ∀ (is : List Nat) (τ : L2.St) (i : Nat), i ∈ is → i < τ.length → (rσ is σ τ)[i]? = some (σ[i]?.getD none)
  | [], _, _, h, _ => by simp at h
  | j :: is, τ, i, h, hl => by
    unfold rσ
    by_cases e : j = i
    · subst e
      rw [List.getElem?_set_self (by rw [rσ_len]; exact hl)]
    · rw [List.getElem?_set_ne e]
      refine rσ_in is τ i ?_ hl
      rcases List.mem_cons.mp h with m | m
      · exact absurd m.symm e
      · exact m
theorem rσ_wipe (is : List Nat) (hl : τ.length = σ.length) (h : ∀ i, i ∉ is → τ[i]? = σ[i]?) : rσ is σ τ = σ := by
  refine List.ext_getElem? fun i => ?_
  by_cases hi : i ∈ is
  · by_cases hb : i < τ.length
    · rw [rσ_in is τ i hi hb, List.getElem?_eq_getElem (by omega)]; rfl
    · rw [List.getElem?_eq_none (by rw [rσ_len]; omega), List.getElem?_eq_none (by omega)]
  · rw [rσ_out is τ i hi, h i hi]
theorem vaOf_ok (R0 : Rel K T F α os st σ H) (i : Nat) : SlOk K α (BB F α os) H (vaOf st.ρ[i]?) (σ[i]?.getD none) [] := by
  cases q : st.ρ[i]? with
  | none => exact rfl
  | some x =>
    cases x with
    | un => exact rfl
    | ow xs => exact rfl
    | va d =>
      obtain ⟨s, o, e1, _, _, v, e2, hd⟩ := R0.sl.at q
      exact ⟨rfl, v, by rw [e1, e2]; rfl, hd⟩
/-- back from a block -/
theorem Rel.unwipe {α' : List Addr} {os' : List (List Addr)} {st' : Sto} {H' : Hp} {F' : AP1} {is : List Nat} (R0 : Rel K T F α os st σ H) (s : Stp F α (BB F α os) H α' (BB F' α' os') H')
    (R1 : Rel K T F' α' os' st' (L2.wipe σ is) H') :
    Stp F' α' (BB F' α' os') H' α' (BB F' α' (rO is os')) H' ∧ Rel K T F' α' (rO is os') { st' with ρ := rst is st.ρ st'.ρ } σ H' := by
  have s2 : Stp F' α' (BB F' α' os') H' α' (BB F' α' (rO is os')) H' := Stp.weak (bb_rO is)
  refine ⟨s2, ?_, rO_nd is os' R1.nd, fun b m => R1.off b (rO_sub is os' b m), ⟨fun k i q => (R1.so.at' k i q).step s2 fun b _ u q => q, R1.so.len, R1.so.nd⟩, R1.fr, R1.has⟩
  have h := rst_ok (σ := σ) (ρ0 := st.ρ) (is := is) (R1.sl.step s2 fun b _ u q => q) fun i _ => ?_
  · rw [rσ_wipe is (L2.wipe_length σ is) fun i hi => wipe_at is i hi] at h
    exact h
  · exact (vaOf_ok R0 i).step (s.trans (s2.mono (F' := fun _ => False) (fun _ z => z.elim) |> fun q => ⟨q.al, q.nb, fun a o f e => e⟩)) fun b m => by simp at m
end

/-! ## comprehensions -/
def E0 : EX := fun _ _ _ => False
/-- what ends with an error is not told -/
def R.ne {β : Type} : R β → R β
  | .er _ _ => .no
  | x => x
@[simp] theorem ne_ok {β : Type} (a : β) (st : Sto) : (R.ok a st).ne = .ok a st := rfl
@[simp] theorem ne_er {β : Type} (c : Nat) (st : Sto) : (R.er c st : R β).ne = .no := rfl
@[simp] theorem ne_no {β : Type} : (R.no : R β).ne = .no := rfl
theorem bnd_bnd {β γ δ : Type} (x : R β) (f : β → Sto → R γ) (g : γ → Sto → R δ) : (x.bnd f).bnd g = x.bnd fun a st => (f a st).bnd g := by cases x <;> rfl
def lcLoop (own : List Nat) (mg : MG) (mt : MB) (me : MV) : List D → Sto → R (List D)
  | [], st => .ok [] st
  | d :: items, st => match mg d st.ρ with
    | none => .no
    | some ρ' => (mt { st with ρ := ρ' }).ne.bnd fun k st1 =>
      if k then (me st1).ne.bnd fun r st2 => (lcLoop own mg mt me items { st2 with ρ := wipeS own st2.ρ }).bnd fun ds st3 => .ok (r.d :: ds) st3
      else lcLoop own mg mt me items { st1 with ρ := wipeS own st1.ρ }
def mLc (own : List Nat) (mi : MI) (mg : MG) (mt : MB) (me : MV) : MV := fun st => (mi st).bnd fun items st1 =>
  if items.length ≤ LIM then (lcLoop own mg mt me items { st1 with ρ := wipeS own st1.ρ }).bnd fun ds st2 => .ok (.ow ds) { st2 with ρ := rst own st1.ρ st2.ρ }
  else .no
/-- the list that grows -/
theorem stp_at {F : AP1} {α : List Addr} {B : AP1} {H : Hp} {D : Addr} {o : HO} (hB : B D) (hF : ¬ F D) : Stp F α B H α B (upd H D o) :=
  ⟨fun _ _ h => h, fun a u e n => ⟨by rw [upd_ne (fun z => n (by rw [z]; exact hB))]; exact e, n⟩, fun a u f e => by rw [upd_ne (fun z => hF (by rw [← z]; exact f))]; exact e⟩
theorem Rel.wrP {K : PySem.W.Frag} {T : Tb} {F : AP1} {α : List Addr} {os : List (List Addr)} {st : Sto} {σ : L2.St} {H : Hp} {D : Addr} {o : HO} (R0 : Rel K T (FP F [D]) α os st σ H) :
    Rel K T (FP F [D]) α os st σ (upd H D o) := by
  have hD : FP F [D] D := .inr (List.mem_singleton.mpr rfl)
  have s : Stp (fun _ => False) α (BB (FP F [D]) α os) H α (BB (FP F [D]) α os) (upd H D o) := stp_at (.inl hD) (fun z => z)
  refine ⟨R0.sl.step s fun a m u e => ?_, R0.nd, R0.off, ⟨fun k i q => (R0.so.at' k i q).step s fun a m u e => ?_, R0.so.len, R0.so.nd⟩, R0.fr, fun a z => ?_⟩
  · rw [upd_ne (fun z => (R0.off a m).1 (by rw [z]; exact hD))]; exact e
  · rw [upd_ne (fun z => R0.fr D hD (by rw [← z]; exact m))]; exact e
  · by_cases e : a = D
    · rw [e, upd_same]; exact fun q => nomatch q
    · rw [upd_ne e]; exact R0.has a z
theorem wipe_idem {σ : L2.St} : ∀ (ws vs : List Nat), (∀ i ∈ ws, i ∈ vs) → L2.wipe (L2.wipe σ ws) vs = L2.wipe σ vs
  | [], _, _ => rfl
  | w :: ws, vs, h => by
    rw [show L2.wipe σ (w :: ws) = (L2.wipe σ ws).set w none from rfl, wipe_set (h w (List.mem_cons_self ..)), wipe_idem ws vs fun i m => h i (List.mem_cons_of_mem _ m)]
section
variable {X : Cx} {T : Tb} {E : EX} {elt tg iter : Expr} {ifs : List Expr} {scope : Scope} {own : List (Str × Nat)} {pos : Pos} {mi : MI} {mg : MG} {mt : MB} {me : MV} {sl : List Nat}
/-- tests of a comprehension -/
structure SdTs (X : Cx) (T : Tb) (E : EX) (ifs : List Expr) (m : MB) : Prop where
  run : ∀ F α os st σ H (Q : Bool → Hp → Prop), Rel X.K T F α os st σ H → Post X.K T F α os σ H E RB (m st) Q → ∀ pins s, Inv X pins σ H s →
    wpAny (model X.prog X.w) X.A (forIn ifs true fun c r => if r = true then do let ok ← isTrue c X.env (eval c X.env); pure (ForInStep.yield ok) else pure (ForInStep.yield r)) (TP X pins σ Q) X.xe s
def mYes : MB := fun st => .ok true st
theorem sd_tnil : SdTs X T E [] mYes := ⟨fun F α os st σ H Q R0 P pins s I => pts_nil.run pins s σ H Q I (P.done0 Stp.refl R0 ⟨rfl, rfl⟩)⟩
theorem sd_tone {c : Expr} (h : SdB X T E c mt) : SdTs X T E [c] mt := ⟨fun F α os st σ H Q R0 P pins s I => (pts_one pt_sem).run pins s σ H Q I (h.run F α os st σ H Q R0 P)⟩

/-- the state ahead of a turn -/
def LcW (X : Cx) (T : Tb) (E : EX) (F : AP1) (α1 : List Addr) (os1 : List (List Addr)) (st1 : Sto) (σ : L2.St) (H1 : Hp) (Dd : Addr) (own : List Nat) (mg : MG) (mt : MB) (me : MV) (Q : VK) (items : List D) (i : Nat) (H : Hp) : Prop :=
  ∃ α2 os2 st2 vs acc, Stp F α1 (BB F α1 os1) H1 α2 (BB (FP F [Dd]) α2 os2) H ∧ Rel X.K T (FP F [Dd]) α2 os2 st2 (L2.wipe σ own) H ∧ H Dd = some (.lst vs) ∧
    DVs X.K α2 (BB (FP F [Dd]) α2 os2) H vs acc ∧ acc.length ≤ i ∧
    Post X.K T F α1 os1 σ H1 E (RV X.K) ((lcLoop own mg mt me (items.drop i) st2).bnd fun ds st3 => .ok (.ow (acc ++ ds)) { st3 with ρ := rst own st1.ρ st3.ρ }) Q

abbrev lcG (X : Cx) (scope : Scope) (tg : Expr) : TG := fun v σ H Q => ∀ s H0 C cl fp, semG (X.blk s H0 scope (compEnvC scope cl C X.env) fp) tg v σ H Q
abbrev lcT (X : Cx) (scope : Scope) (ifs : List Expr) : TT := fun σ H Q => ∀ (s0 : Shared) (H0 : Hp) (C : Addr) (cl : List (Str × Addr)) (fp : List Addr) pins s, Inv (X.blk s0 H0 scope (compEnvC scope cl C X.env) fp) pins σ H s →
      wpAny (model X.prog X.w) X.A (forIn ifs true fun c r => if r = true then do let ok ← isTrue c (compEnvC scope cl C X.env) (eval c (compEnvC scope cl C X.env)); pure (ForInStep.yield ok) else pure (ForInStep.yield r)) (TP (X.blk s0 H0 scope (compEnvC scope cl C X.env) fp) pins σ Q) (fun _ _ => False) s
abbrev lcE (X : Cx) (scope : Scope) (elt : Expr) : TE := fun σ H Q => ∀ s H0 C cl fp, semE (X.blk s H0 scope (compEnvC scope cl C X.env) fp) elt σ H Q
theorem lc_read {wi : TI} {ow : List Nat} (hwi : ∀ F α os st σ H (Q : It → Hp → Prop), Rel X.K T F α os st σ H → Post X.K T F α os σ H E (RI X.K) (mi st) Q → wi σ H Q)
    (hg : ∀ (s : Shared) (H : Hp) (C : Addr) (cl : List (Str × Addr)) (fp : List Addr), SdG (X.blk s H scope (compEnvC scope cl C X.env) fp) T tg sl mg)
    (ht : ∀ (s : Shared) (H : Hp) (C : Addr) (cl : List (Str × Addr)) (fp : List Addr), SdTs (X.blk s H scope (compEnvC scope cl C X.env) fp) T E0 ifs mt)
    (he : ∀ (s : Shared) (H : Hp) (C : Addr) (cl : List (Str × Addr)) (fp : List Addr), SdV (X.blk s H scope (compEnvC scope cl C X.env) fp) T E0 elt me)
    (hsl : ∀ i ∈ sl, i ∈ ow) {F : AP1} {α : List Addr} {os : List (List Addr)} {st : Sto} {σ : L2.St} {H : Hp} {Q : VK} (R0 : Rel X.K T F α os st σ H)
    (P : Post X.K T F α os σ H E (RV X.K) (mLc ow mi mg mt me st) Q) : tLc wi (lcG X scope tg) (lcT X scope ifs) (lcE X scope elt) ow σ H Q := by
  refine hwi F α os st σ H _ R0 (P.bnd fun items st1 α1 os1 H1 P1 J nf s1 R1 hv e1 P => ?_)
  obtain ⟨rfl, wk⟩ := hv
  rw [FP_nil] at s1 R1 wk
  split at P
  rotate_left
  · exact P.elim
  rename_i hlim
  have P := P.later s1
  intro Dd nD
  have hDF : ¬ F Dd := fun z => R1.has Dd z nD
  have R2 := R1.newP (o := .lst []) nD
  obtain ⟨sw, R3⟩ := R2.wipe ow
  have s3 : Stp F α1 (BB F α1 os1) H1 α1 (BB (FP F [Dd]) α1 (rO ow os1)) (upd H1 Dd (.lst [])) := (stp_newP nD).trans (sw.mono fun a z => .inl z)
  refine ⟨fun i m Hc => m = items.length - i ∧ i ≤ items.length ∧ LcW X T E F α1 os1 st1 σ H1 Dd ow mg mt me Q items i Hc, ⟨items.length, by simp, Nat.zero_le _, α1, _, _, [], [], s3, R3, upd_same, .nil, Nat.le_refl _, by simpa using P⟩, ?_⟩
  rintro i m Hc ⟨rfl, hi, α2, os2, st2, vs, acc, s2, R2', hD2, hdv, hacc, P⟩
  have s2' : Stp (fun _ => False) α1 (BB F α1 os1) H1 α2 (BB (FP F [Dd]) α2 os2) Hc := s2.mono fun a z => z.elim
  by_cases hlt : i < items.length
  · refine .inr ⟨wk.go _ _ _ i s2' hlt, LcW X T E F α1 os1 st1 σ H1 Dd ow mg mt me Q items (i + 1), fun H' p' => ⟨items.length - (i + 1), by omega, rfl, hlt, p'⟩, fun x H3 y => ?_⟩
    obtain ⟨d, hd, hx⟩ := wk.yld _ _ _ i x H3 s2' hlt y
    have R4 : Rel X.K T (FP F [Dd]) α2 os2 st2 (L2.wipe σ ow) H3 ∧ DV X.K α2 (BB (FP F [Dd]) α2 os2) H3 x d ∧ Stp (FP F [Dd]) α2 (BB (FP F [Dd]) α2 os2) Hc α2 (BB (FP F [Dd]) α2 os2) H3 := by
      rcases hx with ⟨rfl, hx⟩ | ⟨p, ds, ws, np, rfl, rfl, rfl, hx⟩
      · exact ⟨R2', hx, Stp.refl⟩
      · exact ⟨R2'.new np, .tup (fun z => R2'.bThere p z np) (.inl upd_same) (hx.step (stp_new (F := F) np)), stp_new np⟩
    obtain ⟨R4, hx, s4⟩ := R4
    have ed : items.drop i = d :: items.drop (i + 1) := (List.drop_eq_getElem?_toList_append ..).trans (by rw [hd]; rfl)
    rw [ed] at P
    intro sb Hb C cl fp
    cases q : mg d st2.ρ with
    | none => simp only [lcLoop, q] at P; exact P.elim
    | some ρ' =>
      simp only [lcLoop, q] at P
      refine (hg sb Hb C cl fp).run (FP F [Dd]) α2 os2 st2 (L2.wipe σ ow) H3 x d ρ' _ R4 hx q fun os3 σ3 s5 R5 only => ?_
      have hσ3 : L2.wipe σ3 ow = L2.wipe σ ow := (only ow hsl).trans (wipe_idem ow ow fun i m => m)
      refine ⟨hσ3, fun sb Hb C cl fp => ?_⟩
      refine (ht sb Hb C cl fp).run (FP F [Dd]) α2 os3 { st2 with ρ := ρ' } σ3 H3 _ R5 ?_
      cases q2 : mt { st2 with ρ := ρ' } with
      | no => rw [q2] at P; exact P.elim
      | er c z => rw [q2] at P; exact P.elim
      | ok k st4 =>
        rw [q2] at P
        simp only [ne_ok, bnd_ok] at P
        intro α4 os4 H4 P4 k' nf4 s6 R6 hk
        obtain ⟨rfl, rfl⟩ := hk
        rw [FP_nil] at s6 R6
        have sT := (s4.trans s5).trans s6
        have hD4 : H4 Dd = some (.lst vs) := sT.fr Dd _ (.inr (List.mem_singleton.mpr rfl)) hD2
        cases k' with
        | false =>
          rw [if_neg (by decide)]
          simp only [Bool.false_eq_true, if_false] at P
          obtain ⟨sw2, R7⟩ := R6.wipe ow
          rw [hσ3] at R7
          have sT2 := sT.trans sw2
          exact ⟨α4, _, _, vs, acc, s2.trans (sT2.mono fun a z => .inl z), R7, hD4, hdv.step sT2, Nat.le_succ_of_le hacc, P⟩
        | true =>
          rw [if_pos rfl]
          simp only [if_true] at P
          intro sb Hb C cl fp
          refine (he sb Hb C cl fp).run (FP F [Dd]) α4 os4 st4 σ3 H4 _ R6 ?_
          cases q3 : me st4 with
          | no => rw [q3] at P; exact P.elim
          | er c z => rw [q3] at P; exact P.elim
          | ok r st5 =>
            rw [q3] at P
            simp only [ne_ok, bnd_ok, bnd_bnd] at P
            intro α5 os5 H5 P5 v nf5 s7 R7 hv5
            have hd5 := rv_frz nf5 R7 hv5
            have s7 := stp_drop s7
            have R7 := R7.drop
            have hD5 : H5 Dd = some (.lst vs) := s7.fr Dd _ (.inr (List.mem_singleton.mpr rfl)) hD4
            have hl := hdv.length
            have hB : BB (FP F [Dd]) α5 os5 Dd := .inl (.inr (List.mem_singleton.mpr rfl))
            obtain ⟨sw2, R8⟩ := (R7.wrP (o := .lst (vs ++ [v]))).wipe ow
            rw [hσ3] at R8
            have sU : Stp F α5 (BB (FP F [Dd]) α5 os5) H5 α5 (BB (FP F [Dd]) α5 os5) (upd H5 Dd (.lst (vs ++ [v]))) := stp_at hB hDF
            have sV := sU.trans (sw2.mono fun a z => .inl z)
            have sW : Stp F α2 (BB (FP F [Dd]) α2 os2) Hc α5 _ _ := ((sT.trans s7).mono fun a z => .inl z).trans sV
            refine ⟨vs, hD5, ?_, α5, _, _, vs ++ [v], acc ++ [r.d], s2.trans sW, R8, upd_same, (hdv.step sW).app (.cons (hd5.step sV) .nil), by simpa using hacc, ?_⟩
            · have := lim_ok; omega
            · simpa only [List.append_assoc, List.cons_append, List.nil_append] using P
  · have e : i = items.length := by omega
    subst e
    refine .inl ⟨wk.stop _ _ _ s2', ?_⟩
    rw [List.drop_length] at P
    simp only [lcLoop, bnd_ok, List.append_nil] at P
    obtain ⟨sz, R9⟩ := R1.unwipe (is := ow) s2 R2'
    exact P.done (P := [Dd]) (fun a m z => by rw [List.mem_singleton.mp m] at z; exact hDF z) (s2.trans (sz.mono fun a z => .inl z)) R9
      ⟨⟨Dd, vs, rfl, rfl, hD2, hdv.step sz⟩, nofun⟩
theorem sd_lc (hc : X.calm = true) (hN : X.N.Nodup) (ok : BlkOk X.N X.env.scope scope own) (hi : SdI X T E tg iter mi)
    (hg : ∀ (s : Shared) (H : Hp) (C : Addr) (cl : List (Str × Addr)) (fp : List Addr), SdG (X.blk s H scope (compEnvC scope cl C X.env) fp) T tg sl mg)
    (ht : ∀ (s : Shared) (H : Hp) (C : Addr) (cl : List (Str × Addr)) (fp : List Addr), SdTs (X.blk s H scope (compEnvC scope cl C X.env) fp) T E0 ifs mt)
    (he : ∀ (s : Shared) (H : Hp) (C : Addr) (cl : List (Str × Addr)) (fp : List Addr), SdV (X.blk s H scope (compEnvC scope cl C X.env) fp) T E0 elt me)
    (hsl : ∀ i ∈ sl, i ∈ own.map (·.2)) (hs : ∀ x, foldedSetIterable iter X.env x = pure x := by intro _; rfl) :
    SdV X T E (.ListComp elt [⟨tg, iter, ifs, 0⟩] scope pos) (mLc (own.map (·.2)) mi mg mt me) := by
  obtain ⟨wi, pi, hwi⟩ := hi.ex
  exact ⟨fun F α os st σ H Q R0 P => (pe_lc (own := own) (g := lcG X scope tg) (tt := lcT X scope ifs) (te := lcE X scope elt)
    hc hN pi ok (fun s H C cl fp => ⟨fun pins s' σ H' v u Q I r h => h s H C cl fp pins s' u I r⟩)
    (fun s H C cl fp => ⟨fun pins s' σ H' Q I h => h s H C cl fp pins s' I⟩)
    (fun s H C cl fp => ⟨fun pins s' σ H' Q I h => h s H C cl fp pins s' I⟩) hs).sem (lc_read hwi hg ht he hsl R0 P)⟩
end
end Mi

namespace Mi
open PySem PySem.Spec PyProof.Rows L2

/-! ## statements -/
inductive O where
  | nx (st : Sto) | rt (r : Sl) (st : Sto) | bk (st : Sto) | ct (st : Sto) | er (c : Nat) (st : Sto) | no
abbrev MS := Sto → O
def R.o {β : Type} (x : R β) (f : β → Sto → O) : O :=
  match x with
  | .ok a st => f a st
  | .er c st => .er c st
  | .no => .no
@[simp] theorem o_ok {α : Type} (a : α) (st : Sto) (f : α → Sto → O) : (R.ok a st).o f = f a st := rfl
@[simp] theorem o_er {α : Type} (c : Nat) (st : Sto) (f : α → Sto → O) : (R.er c st : R α).o f = .er c st := rfl
@[simp] theorem o_no {α : Type} (f : α → Sto → O) : (R.no : R α).o f = .no := rfl
def PostS (K : PySem.W.Frag) (T : Tb) (F : AP1) (α : List Addr) (os : List (List Addr)) (H : Hp) (E : EX) (x : O) (D : Ends) : Prop :=
  match x with
  | .nx st' => ∀ α' os' σ' H', Stp F α (BB F α os) H α' (BB F α' os') H' → Rel K T F α' os' st' σ' H' → D.nx σ' H'
  | .bk st' => ∀ α' os' σ' H', Stp F α (BB F α os) H α' (BB F α' os') H' → Rel K T F α' os' st' σ' H' → D.bk σ' H'
  | .ct st' => ∀ α' os' σ' H', Stp F α (BB F α os) H α' (BB F α' os') H' → Rel K T F α' os' st' σ' H' → D.ct σ' H'
  | .rt r st' => ∀ α' os' σ' H' P v, (∀ a ∈ P, ¬ F a) → Stp F α (BB F α os) H α' (BB (FP F P) α' os') H' → Rel K T (FP F P) α' os' st' σ' H' → RV K α' (BB (FP F P) α' os') H' r v P → D.rt v H'
  | .er c st' => ∀ α' os' σ' H', Stp F α (BB F α os) H α' (BB F α' os') H' → Rel K T F α' os' st' σ' H' → E c σ' H'
  | .no => False
def semS (X : Cx) (s : Stmt) : TS := fun D σ H => ∀ pins t, Inv X pins σ H t → wpAny (model X.prog X.w) X.A (exec s X.env) (SP X pins D) X.xe t
def semSs (X : Cx) (s : List Stmt) : TS := fun D σ H => ∀ pins t, Inv X pins σ H t → wpAny (model X.prog X.w) X.A (execs s X.env) (SP X pins D) X.xe t
theorem ps_sem {X : Cx} {s : Stmt} : PS X s (semS X s) := ⟨fun pins t σ H D I h => h pins t I⟩
theorem pss_sem {X : Cx} {s : List Stmt} : PSs X s (semSs X s) := ⟨fun pins t σ H D I h => h pins t I⟩
theorem _root_.L2.PS.sem {X : Cx} {s : Stmt} {t : TS} (h : PS X s t) {D σ H} (q : t D σ H) : semS X s D σ H := fun pins u I => h.run pins u σ H D I q
theorem _root_.L2.PSs.sem {X : Cx} {s : List Stmt} {t : TS} (h : PSs X s t) {D σ H} (q : t D σ H) : semSs X s D σ H := fun pins u I => h.run pins u σ H D I q
structure SdS (X : Cx) (T : Tb) (E : EX) (s : Stmt) (m : MS) : Prop where
  run : ∀ F α os st σ H D, Rel X.K T F α os st σ H → PostS X.K T F α os H E (m st) D → semS X s D σ H
structure SdSs (X : Cx) (T : Tb) (E : EX) (s : List Stmt) (m : MS) : Prop where
  run : ∀ F α os st σ H D, Rel X.K T F α os st σ H → PostS X.K T F α os H E (m st) D → semSs X s D σ H

section
variable {X : Cx} {T : Tb} {E : EX} {K : PySem.W.Frag} {F : AP1} {α α' : List Addr} {os os' : List (List Addr)} {st st' : Sto} {σ : L2.St} {H H' : Hp} {D : Ends}
theorem PostS.later {x : O} (s : Stp F α (BB F α os) H α' (BB F α' os') H') (h : PostS K T F α os H E x D) : PostS K T F α' os' H' E x D := by
  cases x with
  | nx _ => exact fun α1 os1 σ1 H1 s1 R1 => h α1 os1 σ1 H1 (s.trans s1) R1
  | bk _ => exact fun α1 os1 σ1 H1 s1 R1 => h α1 os1 σ1 H1 (s.trans s1) R1
  | ct _ => exact fun α1 os1 σ1 H1 s1 R1 => h α1 os1 σ1 H1 (s.trans s1) R1
  | er _ _ => exact fun α1 os1 σ1 H1 s1 R1 => h α1 os1 σ1 H1 (s.trans s1) R1
  | rt _ _ => exact fun α1 os1 σ1 H1 P v nf s1 R1 hv => h α1 os1 σ1 H1 P v nf (s.trans s1) R1 hv
  | no => exact h
/-- an expression, then the rest -/
theorem PostS.bnd {β γ : Type} {RR : List Addr → AP1 → Hp → β → γ → List Addr → Prop} {x : R β} {f : β → Sto → O} {Q1 : γ → Hp → Prop}
    (h : PostS K T F α os H E (x.o f) D)
    (k : ∀ r st1 α1 os1 H1 P v, (∀ a ∈ P, ¬ F a) → Stp F α (BB F α os) H α1 (BB (FP F P) α1 os1) H1 → Rel K T (FP F P) α1 os1 st1 σ H1 → RR α1 (BB (FP F P) α1 os1) H1 r v P → x = .ok r st1 →
      PostS K T F α os H E (f r st1) D → Q1 v H1) : Post K T F α os σ H E RR x Q1 := by
  cases x with
  | ok r st1 => exact fun α1 os1 H1 P v nf s R1 hv => k r st1 α1 os1 H1 P v nf s R1 hv rfl h
  | er c st1 => exact fun α1 os1 H1 s R1 => h α1 os1 σ H1 s R1
  | no => exact h
theorem PostS.nx0 {σ' : L2.St} (h : PostS K T F α os H E (.nx st') D) (s : Stp F α (BB F α os) H α' (BB F α' os') H') (R1 : Rel K T F α' os' st' σ' H') : D.nx σ' H' := h α' os' σ' H' s R1
end

section
variable {X : Cx} {T : Tb} {E : EX} {e a b c : Expr} {s : Stmt} {rest ss s1 s2 : List Stmt} {pos : Pos} {m : MV} {ma mb : MH} {mt : MB} {ms m1 m2 : MS}
def mNx : MS := fun st => .nx st
def mSeq (m1 m2 : MS) : MS := fun st => match m1 st with
  | .nx st1 => m2 st1
  | o => o
theorem ss_nil : SdSs X T E [] mNx := ⟨fun F α os st σ H D R0 P => pss_nil.sem (P.nx0 Stp.refl R0)⟩
theorem ss_cons (h1 : SdS X T E s m1) (h2 : SdSs X T E rest m2) : SdSs X T E (s :: rest) (mSeq m1 m2) := by
  refine ⟨fun F α os st σ H D R0 P => (pss_cons ps_sem pss_sem).sem ?_⟩
  refine h1.run F α os st σ H _ R0 ?_
  cases q : m1 st with
  | nx st1 =>
    simp only [mSeq, q] at P
    exact fun α1 os1 σ1 H1 s1 R1 => h2.run F α1 os1 st1 σ1 H1 D R1 (P.later s1)
  | rt r z => simp only [mSeq, q] at P; exact P
  | bk z => simp only [mSeq, q] at P; exact P
  | ct z => simp only [mSeq, q] at P; exact P
  | er k z => simp only [mSeq, q] at P; exact P
  | no => simp only [mSeq, q] at P; exact P
theorem ss_one (h1 : SdS X T E s m1) : SdSs X T E [s] (mSeq m1 mNx) := ss_cons h1 ss_nil
theorem ss_pass : SdS X T E (.Pass pos) mNx := ⟨fun F α os st σ H D R0 P => ps_pass.sem (P.nx0 Stp.refl R0)⟩
theorem ss_doc {x j p} : SdS X T E (.Expr (.Constant (.str x) j p) pos) mNx := ⟨fun F α os st σ H D R0 P => ps_doc.sem (P.nx0 Stp.refl R0)⟩
def mBrk : MS := fun st => .bk st
theorem ss_break : SdS X T E (.Break pos) mBrk := by
  refine ⟨fun F α os st σ H D R0 P => ps_break.sem ?_⟩
  exact P α os σ H Stp.refl R0
def mExpr (m : MV) : MS := fun st => (m st).o fun _ st1 => .nx st1
theorem ss_expr (h : SdV X T E e m) (hs : swapsWith e none pos.line X.env = pure false := by rfl) : SdS X T E (.Expr e pos) (mExpr m) := by
  refine ⟨fun F α os st σ H D R0 P => (ps_expr pe_sem hs).sem ?_⟩
  refine h.run F α os st σ H _ R0 (P.bnd fun r st1 α1 os1 H1 P1 v nf s1 R1 hv e1 P => ?_)
  exact P.nx0 (stp_drop s1) R1.drop
def mRet (m : MV) : MS := fun st => (m st).o fun r st1 => .rt r st1
theorem ss_ret (h : SdV X T E e m) : SdS X T E (.Return (some e) pos) (mRet m) := by
  refine ⟨fun F α os st σ H D R0 P => (ps_ret pe_sem).sem ?_⟩
  refine h.run F α os st σ H _ R0 (P.bnd fun r st1 α1 os1 H1 P1 v nf s1 R1 hv e1 P => ?_)
  exact P α1 os1 σ H1 P1 v nf s1 R1 hv
def mRetN : MS := fun st => .rt (.va .non) st
theorem ss_retN : SdS X T E (.Return none pos) mRetN := by
  refine ⟨fun F α os st σ H D R0 P => ps_retN.sem ?_⟩
  refine P α os σ H [] .non (fun b m => nomatch m) ?_ ?_ ⟨⟨rfl, _, rfl, .non⟩, nofun⟩
  · rw [FP_nil]; exact Stp.refl
  · rw [FP_nil]; exact R0
def mIfS (mt : MB) (m1 m2 : MS) : MS := fun st => (mt st).o fun k st1 => if k then m1 st1 else m2 st1
theorem ss_if (h : SdB X T E c mt) (h1 : SdSs X T E s1 m1) (h2 : SdSs X T E s2 m2) : SdS X T E (.If c s1 s2 pos) (mIfS mt m1 m2) := by
  refine ⟨fun F α os st σ H D R0 P => (ps_if pt_sem pss_sem pss_sem).sem ?_⟩
  refine h.run F α os st σ H _ R0 (P.bnd fun k st1 α1 os1 H1 P1 v nf sx R1 hv e1 P => ?_)
  obtain ⟨rfl, rfl⟩ := hv
  rw [FP_nil] at sx R1
  cases v with
  | true => rw [if_pos rfl]; exact h1.run F α1 os1 st1 σ H1 D R1 (P.later sx)
  | false => rw [if_neg (by decide)]; exact h2.run F α1 os1 st1 σ H1 D R1 (P.later sx)
/-- x = e -/
def mSet (i : Nat) (m : MV) : MS := fun st => (m st).o fun r st1 => .nx { st1 with ρ := st1.ρ.set i r }
theorem set_read {i : Nat} {F : AP1} {α : List Addr} {os : List (List Addr)} {st : Sto} {σ : L2.St} {H : Hp} {D : Ends} (P : PostS X.K T F α os H E (mSet i m st) D) :
    Post X.K T F α os σ H E (RV X.K) (m st) fun v H1 => D.nx (σ.set i (some v)) H1 := by
  refine P.bnd fun r st1 α1 os1 H1 P1 v nf s1 R1 hv e1 P => ?_
  obtain ⟨s2, R2⟩ := R1.put (i := i) nf hv hv.nd
  exact P.nx0 (s1.trans s2) R2
theorem ss_set {i : Nat} {x : Str} {p : Pos} (hN : X.N.Nodup) (hi : X.N[i]? = some x) (hx : Loc X.env.scope x) (h : SdV X T E e m) (hs : swapsWith e (some (.Name x p)) pos.line X.env = pure false := by rfl)
    (hf : X.fn x = true ∨ X.env.scope.names.lookup x = some .local := by first | exact .inl rfl | exact .inr rfl | assumption) : SdS X T E (.Assign [.Name x p] e pos) (mSet i m) :=
  ⟨fun F α os st σ H D R0 P => (ps_set hN hi hx pe_sem hs hf).sem (h.run F α os st σ H _ R0 (set_read P))⟩
theorem ss_setLc {i : Nat} {y : Str} {py : Pos} {elt tg iter : Expr} {ifs : List Expr} {scope : Scope} {own : List (Str × Nat)} {spos : Pos} {mi : MI} {mg : MG} {mt : MB} {me : MV} {sl : List Nat}
    (hc : X.calm = true) (hN : X.N.Nodup) (hy : X.N[i]? = some y) (hyl : X.env.scope.names.lookup y = some .local)
    (hsw : swapsWith (.ListComp elt [⟨tg, iter, ifs, 0⟩] scope pos) (some (.Name y py)) spos.line X.env = pure true) (ok : BlkOk X.N X.env.scope scope own) (hi : SdI X T E tg iter mi)
    (hg : ∀ (s : Shared) (H : Hp) (C : Addr) (cl : List (Str × Addr)) (fp : List Addr), SdG (X.blk s H scope (compEnvC scope cl C X.env) fp) T tg sl mg)
    (ht : ∀ (s : Shared) (H : Hp) (C : Addr) (cl : List (Str × Addr)) (fp : List Addr), SdTs (X.blk s H scope (compEnvC scope cl C X.env) fp) T E0 ifs mt)
    (he : ∀ (s : Shared) (H : Hp) (C : Addr) (cl : List (Str × Addr)) (fp : List Addr), SdV (X.blk s H scope (compEnvC scope cl C X.env) fp) T E0 elt me)
    (hsl : ∀ i ∈ sl, i ∈ own.map (·.2)) (hs : ∀ x, foldedSetIterable iter X.env x = pure x := by intro _; rfl) :
    SdS X T E (.Assign [.Name y py] (.ListComp elt [⟨tg, iter, ifs, 0⟩] scope pos) spos) (mSet i (mLc (own.map (·.2)) mi mg mt me)) := by
  obtain ⟨wi, pi, hwi⟩ := hi.ex
  exact ⟨fun F α os st σ H D R0 P => (ps_setLc (own := own) (g := lcG X scope tg) (tt := lcT X scope ifs) (te := lcE X scope elt)
    hc hN hy hyl hsw pi ok (fun s H C cl fp => ⟨fun pins s' σ H' v u Q I r h => h s H C cl fp pins s' u I r⟩)
    (fun s H C cl fp => ⟨fun pins s' σ H' Q I h => h s H C cl fp pins s' I⟩)
    (fun s H C cl fp => ⟨fun pins s' σ H' Q I h => h s H C cl fp pins s' I⟩) hs).sem (lc_read hwi hg ht he hsl R0 (set_read P))⟩
/-- a, b = e -/
def mAsg (m : MV) (mg : MG) : MS := fun st => (m st).o fun r st1 => match mg r.d st1.ρ with
  | some ρ' => .nx { st1 with ρ := ρ' }
  | none => .no
theorem ss_asg {tg : Expr} {sl : List Nat} {mg : MG} (h : SdV X T E e m) (hg : SdG X T tg sl mg) (hs : swapsWithSole [tg] e pos.line X.env = pure false := by rfl) (hw : swappedStores [tg] e X.env = pure none := by rfl)
    (h1 : (assignEach [tg] X.env).map (·.2) = [assign tg X.env] := by rfl) : SdS X T E (.Assign [tg] e pos) (mAsg m mg) := by
  refine ⟨fun F α os st σ H D R0 P => (ps_asg pe_sem pg_sem hs hw h1).sem ?_⟩
  refine h.run F α os st σ H _ R0 (P.bnd fun r st1 α1 os1 H1 P1 v nf s1 R1 hv e1 P => ?_)
  have hd := rv_frz nf R1 hv
  have s1 := stp_drop s1
  have R1 := R1.drop
  cases q : mg r.d st1.ρ with
  | none => simp only [q] at P; exact P.elim
  | some ρ' =>
    simp only [q] at P
    exact hg.run F α1 os1 st1 σ H1 v r.d ρ' _ R1 hd q fun os2 σ2 s2 R2 _ => P.nx0 (s1.trans s2) R2
/-- a, b = x, y: plain names of the def -/
def mPar (i j : Nat) (ms : MA) : MS := fun st => (ms st).o fun ds st1 => match ds with
  | [d, e] => .nx { st1 with ρ := (st1.ρ.set i (.va d)).set j (.va e) }
  | _ => .no
theorem Rel.put0 {K : PySem.W.Frag} {F : AP1} {α : List Addr} {os : List (List Addr)} {st : Sto} {σ : L2.St} {H : Hp} {d : D} {v : V} (i : Nat) (R0 : Rel K T F α os st σ H) (hv : DV K α (BB F α os) H v d) :
    Stp F α (BB F α os) H α (BB F α (os.set i [])) H ∧ Rel K T F α (os.set i []) { st with ρ := st.ρ.set i (.va d) } (σ.set i (some v)) H := by
  have R1 : Rel K T (FP F []) α os st σ H := by rw [FP_nil]; exact R0
  obtain ⟨s, R2⟩ := R1.put (r := .va d) (v := v) (i := i) (fun b m => nomatch m) (by rw [FP_nil]; exact ⟨⟨rfl, v, rfl, hv⟩, nofun⟩) List.nodup_nil
  rw [FP_nil] at s
  exact ⟨s, R2⟩
theorem ss_par {i j : Nat} {x y : Str} {px py pt : Pos} {kt k2 pt2} {mas : MA} (hc : X.calm = true) (hN : X.N.Nodup) (hi : X.N[i]? = some x) (hj : X.N[j]? = some y) (hij : i ≠ j)
    (hx : X.env.scope.names.lookup x = some .local) (hy : X.env.scope.names.lookup y = some .local) (ha : SdA X T E [a, b] mas)
    (hw : swappedStores [.Tuple [.Name x px, .Name y py] kt pt] (.Tuple [a, b] k2 pt2) X.env = pure (some [x, y]))
    (hs : swapsWithSole [.Tuple [.Name x px, .Name y py] kt pt] (.Tuple [a, b] k2 pt2) pos.line X.env = pure false := by rfl) :
    SdS X T E (.Assign [.Tuple [.Name x px, .Name y py] kt pt] (.Tuple [a, b] k2 pt2) pos) (mPar i j mas) := by
  refine ⟨fun F α os st σ H D R0 P => (ps_par hc hN hi hj hij hx hy pa_sem hw hs).sem ?_⟩
  refine ha.run F α os st σ H _ R0 (P.bnd fun ds st1 α1 os1 H1 P1 vs nf s1 R1 hv e1 P => ?_)
  obtain ⟨rfl, k1⟩ := hv
  rw [FP_nil] at s1 R1 k1
  cases k1 with
  | nil => exact P.elim
  | @cons v vs d ds hd ht =>
    cases ht with
    | nil => exact P.elim
    | @cons w vs e ds he ht =>
      cases ht with
      | cons _ _ => exact P.elim
      | nil =>
        refine ⟨v, w, rfl, ?_⟩
        obtain ⟨s2, R2⟩ := R1.put0 i hd
        obtain ⟨s3, R3⟩ := R2.put0 j (he.step s2)
        exact P.nx0 ((s1.trans s2).trans s3) R3

/-! ## a list of one's own is changed -/
theorem SlsOk.wr {K : PySem.W.Frag} {F : AP1} {α : List Addr} {B : AP1} {H H' : Hp} {a : Addr} {x : Sl} (t : Stp F α B H α B H') (off : ∀ b u, b ≠ a → H b = some u → H' b = some u) :
    ∀ {xs : List Sl} {ss : List (Option V)} {os : List (List Addr)} {i : Nat} {s : Option V}, SlsOk K α B H xs ss os → os.flatten.Nodup → os[i]? = some [a] → ss[i]? = some s → SlOk K α B H' x s [a] →
      SlsOk K α B H' (xs.set i x) ss os
  | _, _, _, _, _, .nil, _, e, _, _ => by simp at e
  | _, _, _, 0, _, .cons (xs := xs) (ss := ss) (os := os) h hr, nd, e, e2, hx => by
    rw [List.getElem?_cons_zero] at e e2
    cases e; cases e2
    rw [List.flatten_cons] at nd
    obtain ⟨_, _, n3⟩ := List.nodup_append.mp nd
    exact .cons hx (hr.step t fun b m u q => off b u (fun z => n3 a (List.mem_singleton.mpr rfl) b m z.symm) q)
  | _, _, _, i + 1, _, .cons (o := o) (xs := xs) (ss := ss) (os := os) h hr, nd, e, e2, hx => by
    rw [List.getElem?_cons_succ] at e e2
    rw [List.flatten_cons] at nd
    obtain ⟨_, n2, n3⟩ := List.nodup_append.mp nd
    exact .cons (h.step t fun b m u q => off b u (fun z => n3 b m a (List.mem_flatten.mpr ⟨[a], List.mem_of_getElem? e, List.mem_singleton.mpr rfl⟩) z) q)
      (SlsOk.wr t off hr n2 e e2 hx)
theorem Rel.wrS {K : PySem.W.Frag} {F : AP1} {α : List Addr} {os : List (List Addr)} {st : Sto} {σ : L2.St} {H : Hp} {i : Nat} {xs : List D} (R0 : Rel K T F α os st σ H) (e : st.ρ[i]? = some (.ow xs)) :
    ∃ a vs, σ[i]? = some (some (.ref a)) ∧ H a = some (.lst vs) ∧ DVs K α (BB F α os) H vs xs ∧ ∀ vs' xs', DVs K α (BB F α os) H vs' xs' →
      Stp F α (BB F α os) H α (BB F α os) (upd H a (.lst vs')) ∧ Rel K T F α os { st with ρ := st.ρ.set i (.ow xs') } σ (upd H a (.lst vs')) := by
  obtain ⟨s, o, e1, e2, a, vs, rfl, rfl, e3, hd⟩ := R0.sl.at e
  have am : a ∈ os.flatten := List.mem_flatten.mpr ⟨[a], List.mem_of_getElem? e2, List.mem_singleton.mpr rfl⟩
  refine ⟨a, vs, e1, e3, hd, fun vs' xs' hd' => ?_⟩
  have hB : BB F α os a := .inr (.inr am)
  have s : Stp F α (BB F α os) H α (BB F α os) (upd H a (.lst vs')) := stp_at hB (R0.off a am).1
  have off : ∀ b u, b ≠ a → H b = some u → upd H a (.lst vs') b = some u := fun b u n q => by rw [upd_ne n]; exact q
  refine ⟨s, ⟨R0.sl.wr s off R0.nd e2 e1 ⟨a, vs', rfl, rfl, upd_same, hd'.step s⟩, R0.nd, R0.off, ⟨fun k ins q => (R0.so.at' k ins q).step s fun b m u q => off b u (fun z => (R0.off a am).2 (by rw [← z]; exact m)) q, R0.so.len, R0.so.nd⟩, R0.fr, fun b z => ?_⟩⟩
  by_cases q : b = a
  · rw [q, upd_same]; exact fun z => nomatch z
  · rw [upd_ne q]; exact R0.has b z
def ownAt (ρ : List Sl) (i : Nat) : Option (List D) := match ρ[i]? with
  | some (.ow xs) => some xs
  | _ => none
theorem ownAt_eq {ρ : List Sl} {i : Nat} {xs : List D} (h : ownAt ρ i = some xs) : ρ[i]? = some (.ow xs) := by
  unfold ownAt at h
  split at h
  · rename_i q; cases h; exact q
  · cases h
/-- x.append(e) -/
def mApp (i : Nat) (m : MV) : MS := fun st => match ownAt st.ρ i with
  | none => .no
  | some _ => (m st).o fun r st1 => match ownAt st1.ρ i with
    | some xs => if xs.length < LIM then .nx { st1 with ρ := st1.ρ.set i (.ow (xs ++ [r.d])) } else .no
    | none => .no
theorem ss_app {i : Nat} {o : Expr} {ap cp : Pos} (ho : PE X o (tVar i)) (h : SdV X T E e m)
    (hbase : attributeBase o ("append" : Str) X.env (eval o X.env) = eval o X.env := by rfl)
    (hfew : ((backTo cp (starEach [e] X.env)).all (fun x => !x.1) && (backToKw cp (keywordEach [] X.env)).all (fun x => x.1.isSome)
      && decide ([e].length + ([] : List Keyword).length + (if ([] : List Keyword).isEmpty then 0 else 1) < 30)) = true := by rfl)
    (hline : (ap.endLine == cp.line) = true := by rfl) (hst : starEach [e] X.env = (false, eval e X.env) :: starEach [] X.env := by rfl) (hplain : (backTo cp (starEach [] X.env)).any (·.1) = false := by rfl)
    (hs : swapsWith (.Call (.Attribute o ("append" : Str) ap) [e] [] cp) none pos.line X.env = pure false := by rfl) :
    SdS X T E (.Expr (.Call (.Attribute o ("append" : Str) ap) [e] [] cp) pos) (mApp i m) := by
  refine ⟨fun F α os st σ H D R0 P => (ps_expr (pe_bm PySem.F.plainAttrs_list PySem.F.slot_list_append PySem.F.type_list_append mt_append ho (pa_cons pe_sem pa_nil hst) hbase hfew hline hst hplain) hs).sem ?_⟩
  cases q : ownAt st.ρ i with
  | none => simp only [mApp, q] at P; exact P.elim
  | some xs0 =>
    simp only [mApp, q] at P
    obtain ⟨a, vs, e1, e2, hd, _⟩ := R0.wrS (ownAt_eq q)
    refine ⟨_, e1, .inl ⟨rfl, _, .inl (.inl e2)⟩, ?_⟩
    refine h.run F α os st σ H _ R0 (P.bnd fun r st1 α1 os1 H1 P1 v nf s1 R1 hv e1' P => ?_)
    have hr := rv_frz nf R1 hv
    have s1 := stp_drop s1
    have R1 := R1.drop
    cases q2 : ownAt st1.ρ i with
    | none => simp only [q2] at P; exact P.elim
    | some xs =>
      simp only [q2] at P
      split at P
      · rename_i hl
        obtain ⟨a', vs', e1', e2', hd', k⟩ := R1.wrS (ownAt_eq q2)
        rw [e1] at e1'
        cases e1'
        obtain ⟨s2, R2⟩ := k (vs' ++ [v]) (xs ++ [r.d]) (hd'.app (.cons hr .nil))
        exact ⟨a, vs', v, rfl, rfl, e2', by rw [hd'.length]; exact Nat.lt_of_lt_of_le hl lim_ok, P.nx0 (s1.trans s2) R2⟩
      · exact P.elim
/-- x[k] = e -/
def mSetIx (i : Nat) (m : MV) (mk : MH) : MS := fun st => (m st).o fun r st1 => match ownAt st1.ρ i with
  | none => .no
  | some _ => (mk st1).o fun h st2 => match ownAt st2.ρ i, h.at st2 with
    | some xs, some (.int k) => (match ixN xs.length k with
      | some j => .nx { st2 with ρ := st2.ρ.set i (.ow (xs.set j r.d)) }
      | none => .no)
    | _, _ => .no
theorem ss_setIx {i : Nat} {o k : Expr} {p : Pos} (ho : PE X o (tVar i)) (h : SdV X T E e m) (hk : SdH X T E k mb)
    (ha : ∀ v, assign (.Subscript o k p) X.env v = (do
      let ov ← holding [v] (eval o X.env)
      let iv ← holding [v, ov] (eval k X.env)
      standAt p
      holding [v, ov, iv] (setItem ov iv v)
      release [v, ov, iv] [] : Sem Unit) := by intro _; rfl)
    (hs : swapsWithSole [.Subscript o k p] e pos.line X.env = pure false := by rfl) (hw : swappedStores [.Subscript o k p] e X.env = pure none := by rfl)
    (h1 : (assignEach [.Subscript o k p] X.env).map (·.2) = [assign (.Subscript o k p) X.env] := by rfl) :
    SdS X T E (.Assign [.Subscript o k p] e pos) (mSetIx i m mb) := by
  refine ⟨fun F α os st σ H D R0 P => (ps_asg pe_sem (pg_sub ho pe_sem set_list ha) hs hw h1).sem ?_⟩
  refine h.run F α os st σ H _ R0 (P.bnd fun r st1 α1 os1 H1 P1 v nf s1 R1 hv e1 P => ?_)
  have hr := rv_frz nf R1 hv
  have s1 := stp_drop s1
  have R1 := R1.drop
  cases q : ownAt st1.ρ i with
  | none => simp only [q] at P; exact P.elim
  | some xs0 =>
    simp only [q] at P
    obtain ⟨a, vs, e1, e2, hd, _⟩ := R1.wrS (ownAt_eq q)
    refine ⟨_, e1, ?_⟩
    refine hk.run F α1 os1 st1 σ H1 _ R1 ((P.later s1).bnd fun hh st2 α2 os2 H2 P2 w nf2 s2 R2 hw2 e2' P => ?_)
    obtain ⟨rfl, k2⟩ := hw2
    rw [FP_nil] at s2 R2 k2
    have hr := hr.step s2
    cases q2 : ownAt st2.ρ i with
    | none => simp only [q2] at P; exact P.elim
    | some xs =>
      cases q3 : hh.at st2 with
      | none => simp only [q2, q3] at P; exact P.elim
      | some d =>
        cases d with
        | int k =>
          simp only [q2, q3] at P
          have pv := (k2.at R2 q3).int
          subst pv
          cases q4 : ixN xs.length k with
          | none => simp only [q4] at P; exact P.elim
          | some j =>
            simp only [q4] at P
            obtain ⟨a', vs', e1', e2', hd', kk⟩ := R2.wrS (ownAt_eq q2)
            rw [e1] at e1'
            cases e1'
            obtain ⟨s3, R3⟩ := kk (vs'.set j v) (xs.set j r.d) (hd'.set hr j)
            exact ⟨a, vs', k, j, rfl, rfl, e2', by rw [hd'.length]; exact q4, P.nx0 (s2.trans s3) R3⟩
        | _ => simp only [q2, q3] at P; exact P.elim

/-! ## loops -/
def forL (mg : MG) (mb : MS) : List D → MS
  | [], st => .nx st
  | d :: ds, st => match mg d st.ρ with
    | none => .no
    | some ρ' => match mb { st with ρ := ρ' } with
      | .nx st1 => forL mg mb ds st1
      | .ct st1 => forL mg mb ds st1
      | .bk st1 => .nx st1
      | o => o
def mFor (mi : MI) (mg : MG) (mb : MS) : MS := fun st => (mi st).o fun items st1 => forL mg mb items st1
/-- a walk's state ahead of a turn -/
def ForW (X : Cx) (T : Tb) (E : EX) (F : AP1) (α1 : List Addr) (os1 : List (List Addr)) (H1 : Hp) (mg : MG) (mb : MS) (Dn : Ends) (items : List D) (i : Nat) (σ : L2.St) (H : Hp) : Prop :=
  ∃ α2 os2 st2, Stp F α1 (BB F α1 os1) H1 α2 (BB F α2 os2) H ∧ Rel X.K T F α2 os2 st2 σ H ∧ PostS X.K T F α1 os1 H1 E (forL mg mb (items.drop i) st2) Dn
theorem ss_for {tg iter : Expr} {body : List Stmt} {mi : MI} {mg : MG} {mb : MS} {sl : List Nat} (hp : PassesOwn (model X.prog X.w) X.A X.env X.xe) (hc : X.calm = true) (hi : SdI X T E tg iter mi) (hg : SdG X T tg sl mg)
    (hb : SdSs X T E body mb) (hs : ∀ x, foldedSetIterable iter X.env x = pure x := by intro _; rfl) : SdS X T E (.For tg iter body [] pos) (mFor mi mg mb) := by
  obtain ⟨wi, pi, hwi⟩ := hi.ex
  refine ⟨fun F α os st σ H D R0 P => (ps_for hp hc pi pg_sem pss_sem hs).sem ?_⟩
  refine hwi F α os st σ H _ R0 (P.bnd fun items st1 α1 os1 H1 P1 J nf s1 R1 hv e1 P => ?_)
  obtain ⟨rfl, wk⟩ := hv
  rw [FP_nil] at s1 R1 wk
  have P := P.later s1
  refine ⟨fun i m σ Hc => m = items.length - i ∧ i ≤ items.length ∧ ForW X T E F α1 os1 H1 mg mb D items i σ Hc, ⟨items.length, by simp, Nat.zero_le _, α1, os1, st1, Stp.refl, R1, by simpa using P⟩, ?_⟩
  rintro i m σ Hc ⟨rfl, hi, α2, os2, st2, s2, R2, P⟩
  have s2' : Stp (fun _ => False) α1 (BB F α1 os1) H1 α2 (BB F α2 os2) Hc := s2.mono fun a z => z.elim
  by_cases hlt : i < items.length
  · refine .inr ⟨wk.go _ _ _ i s2' hlt, ForW X T E F α1 os1 H1 mg mb D items (i + 1), fun σ' H' p' => ⟨items.length - (i + 1), by omega, rfl, hlt, p'⟩, fun x H3 y => ?_⟩
    obtain ⟨d, hd, hx⟩ := wk.yld _ _ _ i x H3 s2' hlt y
    have R4 : Rel X.K T F α2 os2 st2 σ H3 ∧ DV X.K α2 (BB F α2 os2) H3 x d ∧ Stp F α2 (BB F α2 os2) Hc α2 (BB F α2 os2) H3 := by
      rcases hx with ⟨rfl, hx⟩ | ⟨p, ds, ws, np, rfl, rfl, rfl, hx⟩
      · exact ⟨R2, hx, Stp.refl⟩
      · exact ⟨R2.new np, .tup (fun z => R2.bThere p z np) (.inl upd_same) (hx.step (stp_new (F := F) np)), stp_new np⟩
    obtain ⟨R4, hx, s4⟩ := R4
    have ed : items.drop i = d :: items.drop (i + 1) := (List.drop_eq_getElem?_toList_append ..).trans (by rw [hd]; rfl)
    rw [ed] at P
    cases q : mg d st2.ρ with
    | none => simp only [forL, q] at P; exact P.elim
    | some ρ' =>
      simp only [forL, q] at P
      refine hg.run F α2 os2 st2 σ H3 x d ρ' _ R4 hx q fun os3 σ3 s5 R5 _ => ?_
      refine hb.run F α2 os3 { st2 with ρ := ρ' } σ3 H3 _ R5 ?_
      have sT := s2.trans (s4.trans s5)
      cases q2 : mb { st2 with ρ := ρ' } with
      | nx z => simp only [q2] at P; exact fun α6 os6 σ6 H6 s6 R6 => ⟨α6, os6, z, sT.trans s6, R6, P⟩
      | ct z => simp only [q2] at P; exact fun α6 os6 σ6 H6 s6 R6 => ⟨α6, os6, z, sT.trans s6, R6, P⟩
      | bk z => simp only [q2] at P; exact fun α6 os6 σ6 H6 s6 R6 => P.nx0 (sT.trans s6) R6
      | rt r z => simp only [q2] at P; exact fun α6 os6 σ6 H6 P6 v nf6 s6 R6 hv => P α6 os6 σ6 H6 P6 v nf6 (sT.trans s6) R6 hv
      | er c z => simp only [q2] at P; exact fun α6 os6 σ6 H6 s6 R6 => P α6 os6 σ6 H6 (sT.trans s6) R6
      | no => simp only [q2] at P; exact P.elim
  · have e : i = items.length := by omega
    subst e
    refine .inl ⟨wk.stop _ _ _ s2', ?_⟩
    rw [List.drop_length] at P
    exact P.nx0 s2 R2
def whL (mt : MB) (mb : MS) : Nat → MS
  | 0, _ => .no
  | n + 1, st => (mt st).o fun k st1 => if k then (match mb st1 with
      | .nx st2 => whL mt mb n st2
      | .ct st2 => whL mt mb n st2
      | .bk st2 => .nx st2
      | o => o) else .nx st1
def mWh (f : Sto → Nat) (mt : MB) (mb : MS) : MS := fun st => whL mt mb (f st) st
theorem ss_while {body : List Stmt} {mb : MS} (f : Sto → Nat) (hp : PassesOwn (model X.prog X.w) X.A X.env X.xe) (hc : SdB X T E c mt) (hb : SdSs X T E body mb) : SdS X T E (.While c body [] pos) (mWh f mt mb) := by
  refine ⟨fun F α os st σ H D R0 P => (ps_while hp pt_sem pss_sem).sem ?_⟩
  refine ⟨fun m σ' H' => ∃ α1 os1 st1, Stp F α (BB F α os) H α1 (BB F α1 os1) H' ∧ Rel X.K T F α1 os1 st1 σ' H' ∧ PostS X.K T F α os H E (whL mt mb m st1) D, ⟨f st, α, os, st, Stp.refl, R0, P⟩, ?_⟩
  rintro m σ1 H1 ⟨α1, os1, st1, s1, R1, P⟩
  cases m with
  | zero => exact P.elim
  | succ m =>
    unfold whL at P
    have P0 := P
    refine hc.run F α1 os1 st1 σ1 H1 _ R1 ((P.later s1).bnd fun k st2 α2 os2 H2 P2 k' nf s2 R2 hv e1 P => ?_)
    rw [e1] at P0
    simp only [o_ok] at P0
    obtain ⟨rfl, rfl⟩ := hv
    rw [FP_nil] at s2 R2
    have sT := s1.trans s2
    cases k' with
    | false => rw [if_neg (by decide)]; simp only [Bool.false_eq_true, if_false] at P; exact P.nx0 s2 R2
    | true =>
      rw [if_pos rfl]
      simp only [if_true] at P
      refine ⟨fun σ' H' => ∃ α1 os1 st1, Stp F α (BB F α os) H α1 (BB F α1 os1) H' ∧ Rel X.K T F α1 os1 st1 σ' H' ∧ PostS X.K T F α os H E (whL mt mb m st1) D, fun σ' H' h => ⟨m, Nat.lt_succ_self m, h⟩, ?_⟩
      simp only [if_true] at P0
      refine hb.run F α2 os2 st2 σ1 H2 _ R2 ?_
      cases q2 : mb st2 with
      | nx z => simp only [q2] at P0; exact fun α6 os6 σ6 H6 s6 R6 => ⟨α6, os6, z, sT.trans s6, R6, P0⟩
      | ct z => simp only [q2] at P0; exact fun α6 os6 σ6 H6 s6 R6 => ⟨α6, os6, z, sT.trans s6, R6, P0⟩
      | bk z => simp only [q2] at P0; exact fun α6 os6 σ6 H6 s6 R6 => P0.nx0 (sT.trans s6) R6
      | rt r z => simp only [q2] at P0; exact fun α6 os6 σ6 H6 P6 v nf6 s6 R6 hv => P0 α6 os6 σ6 H6 P6 v nf6 (sT.trans s6) R6 hv
      | er c z => simp only [q2] at P0; exact fun α6 os6 σ6 H6 s6 R6 => P0 α6 os6 σ6 H6 (sT.trans s6) R6
      | no => simp only [q2] at P0; exact P0.elim

/-! ## errors -/
/-- the wish that E is -/
def XW (T : Tb) (E : EX) : WX := fun cls d σ H => ∃ c, cls = .ref (T.ec c) ∧ d = none ∧ E c σ H
def mRaise (c : Nat) : MS := fun st => .er c st
theorem ss_raise {e : Expr} {k : Nat} (hc : X.calm = true) (tk : Takes X (XW T E)) (he : PMk X e (fun _ H Q => Q (.ref (T.ec k)) none H)) : SdS X T E (.Raise (some e) none pos) (mRaise k) := by
  refine ⟨fun F α os st σ H D R0 P => (ps_raise hc tk he).sem ?_⟩
  exact ⟨k, rfl, rfl, P α os σ H Stp.refl R0⟩
/-- what an except clause does -/
structure Hn where
  f : Nat → Bool
  m : MS
def O.ne : O → O
  | .er _ _ => .no
  | o => o
def handle : List Hn → Nat → MS
  | [], c, st => .er c st
  | h :: hs, c, st => if h.f c then (h.m st).ne else handle hs c st
def mTry (mb : MS) (hs : List Hn) : MS := fun st => match mb st with
  | .er c st1 => handle hs c st1
  | o => o
structure SdHd (X : Cx) (T : Tb) (h : ExceptHandler) (n : Hn) : Prop where
  ex : ∃ x np b suite p cv, h = .ExceptHandler (some (.Name x np)) none (b :: suite) p ∧ Names X x cv ∧ (∀ c, PySem.W.exmOne X.K (.ref (T.ec c)) cv = some (n.f c)) ∧
    ∀ (a : Addr) (oe : Obj) (cls : Value) (d : Option Addr) (pn : List (Addr × Obj)), Zc cls d oe → (∃ vs, oe.data = .fields vs) → SdSs (X.suite a ((a, oe) :: pn)) T E0 (b :: suite) n.m
inductive SdHds (X : Cx) (T : Tb) : List ExceptHandler → List Hn → Prop
  | nil : SdHds X T [] []
  | cons {h n hs ns} : SdHd X T h n → SdHds X T hs ns → SdHds X T (h :: hs) (n :: ns)
theorem hds_ok {hs : List ExceptHandler} {ns : List Hn} (h : SdHds X T hs ns) :
    ∃ l, L2.HdsOk X hs l ∧ ∀ (Wout : WX) (F : AP1) (α : List Addr) (os : List (List Addr)) (H0 : Hp) (D : Ends) c st α1 os1 σ1 H1, Stp F α (BB F α os) H0 α1 (BB F α1 os1) H1 → Rel X.K T F α1 os1 st σ1 H1 →
      PostS X.K T F α os H0 E (handle ns c st) D → (∀ c σ H, E c σ H → Wout (.ref (T.ec c)) none σ H) → wMany X.K Wout D l (.ref (T.ec c)) none σ1 H1 := by
  induction h with
  | nil =>
    refine ⟨[], .nil, fun Wout F α os H0 D c st α1 os1 σ1 H1 s R1 P w => w c σ1 H1 (P α1 os1 σ1 H1 s R1)⟩
  | @cons h n hs ns h1 _ ih =>
    obtain ⟨l, hl, ih⟩ := ih
    obtain ⟨x, np, b, suite, p, cv, rfl, hn, hx, hsu⟩ := h1.ex
    refine ⟨(cv, fun a cls d D σ H => ∀ oe pn, Zc cls d oe → (∃ vs, oe.data = .fields vs) → semSs (X.suite a ((a, oe) :: pn)) (b :: suite) D σ H) :: l,
      .cons hn (fun a oe cls d pn hz hf => ⟨fun pins t σ H D I q => q oe pn hz hf pins t I⟩) hl, fun Wout F α os H0 D c st α1 os1 σ1 H1 s R1 P w => ?_⟩
    refine ⟨n.f c, hx c, fun q a na oe pn hz hf => ?_, fun q => ?_⟩
    · simp only [handle, q, if_true] at P
      refine (hsu a oe _ none pn hz hf).run F α1 os1 st σ1 H1 D R1 ?_
      have P := P.later s
      cases q3 : n.m st with
      | nx z => rw [q3] at P; exact P
      | ct z => rw [q3] at P; exact P
      | bk z => rw [q3] at P; exact P
      | rt r z => rw [q3] at P; exact P
      | no => rw [q3] at P; exact P
      | er c z => rw [q3] at P; exact P.elim
    · simp only [handle, q, Bool.false_eq_true, if_false] at P
      exact ih Wout F α os H0 D c st α1 os1 σ1 H1 s R1 P w
theorem ss_try {body : List Stmt} {h0 : ExceptHandler} {hs : List ExceptHandler} {mb : MS} {ns : List Hn} (hs1 : X.stack = X.env :: X.outer) (hf : X.env.frame = some X.env.locals) (tk : Takes X (XW T E))
    (hb : ∀ (E' : EX) (pn : List (Addr × Obj)) (xe : Value → Shared → Prop), Takes (X.tr pn xe) (XW T E') → PassesOwn (model X.prog X.w) X.A X.env xe → SdSs (X.tr pn xe) T E' body mb)
    (hh : SdHds X T (h0 :: hs) ns) : SdS X T E (.Try body (h0 :: hs) [] [] pos) (mTry mb ns) := by
  obtain ⟨l, hl, hw⟩ := hds_ok (E := E) hh
  refine ⟨fun F α os st σ H D R0 P => (ps_try_many hs1 hf tk
    (tb := fun W D σ H => ∀ (pn : List (Addr × Obj)) (xe : Value → Shared → Prop), Takes (X.tr pn xe) W → PassesOwn (model X.prog X.w) X.A X.env xe → semSs (X.tr pn xe) body D σ H)
    (fun W pn xe tk' po => ⟨fun pins t σ H D I q => q pn xe tk' po pins t I⟩) hl).sem ?_⟩
  intro pn xe tk' po
  refine (hb (fun c σ H => wMany X.K (XW T E) D l (.ref (T.ec c)) none σ H) pn xe (tk'.imp fun cls d σ H q => ?_) po).run F α os st σ H D R0 ?_
  · obtain ⟨c, rfl, rfl, q⟩ := q
    exact q
  · cases q : mb st with
    | er c z =>
      simp only [mTry, q] at P
      exact fun α1 os1 σ1 H1 s1 R1 => hw (XW T E) F α os H D c z α1 os1 σ1 H1 s1 R1 P fun c σ H e => ⟨c, rfl, rfl, e⟩
    | nx z => simp only [mTry, q] at P; exact P
    | ct z => simp only [mTry, q] at P; exact P
    | bk z => simp only [mTry, q] at P; exact P
    | rt r z => simp only [mTry, q] at P; exact P
    | no => simp only [mTry, q] at P; exact P
end
end Mi

namespace Wr
open PySem PySem.Spec PyProof.Rows L2

/-! ## parts of labels -/
def partL (ns : List Int) (i : Nat) (k : Int) : List Int :=
  ((List.range i).filter fun m => decide (ns[m]? = some k)).map Int.ofNat
theorem partL_succ {ns : List Int} {i : Nat} {x k : Int} (h : ns[i]? = some x) :
    partL ns (i + 1) k = if x = k then partL ns i k ++ [(i : Int)] else partL ns i k := by
  unfold partL
  rw [List.range_succ, List.filter_append, List.map_append]
  by_cases e : x = k
  · rw [if_pos e, show (List.filter (fun m => decide (ns[m]? = some k)) [i]) = [i] from by
      rw [List.filter_cons, h, e]; simp]
    rfl
  · rw [if_neg e, show (List.filter (fun m => decide (ns[m]? = some k)) [i]) = [] from by
      rw [List.filter_cons, h]; simp [e]]
    simp
theorem partL_len (ns : List Int) (i : Nat) (k : Int) : (partL ns i k).length ≤ i := by
  unfold partL
  rw [List.length_map]
  exact Nat.le_trans (List.length_filter_le _ _) (by rw [List.length_range]; exact Nat.le_refl _)
theorem partL_mem {ns : List Int} {i : Nat} {k y : Int} (h : y ∈ partL ns i k) : 0 ≤ y ∧ y < i := by
  unfold partL at h
  obtain ⟨m, hm, rfl⟩ := List.mem_map.mp h
  have := List.mem_range.mp (List.mem_filter.mp hm).1
  exact ⟨Int.natCast_nonneg m, by show (m : Int) < i; omega⟩
theorem labK_from : ∀ (k : Int) (ns : List Int), labK k ns = k ∨ ∃ y ∈ ns, labK k ns = y + 1
  | _, [] => .inl rfl
  | k, x :: ns => by
    simp only [labK]
    rcases labK_from (max k (x + 1)) ns with e | ⟨y, m, e⟩
    · rw [e]
      by_cases h : x + 1 ≤ k
      · exact .inl (by omega)
      · exact .inr ⟨x, List.mem_cons_self .., by omega⟩
    · exact .inr ⟨y, List.mem_cons_of_mem _ m, e⟩
theorem labK_max {ns : List Int} {m : Int} (h : labI 0 ns = true) (hm : m ∈ ns) (hle : ∀ y, y ∈ ns → y ≤ m) :
    m + 1 = labK 0 ns := by
  have h1 := labK_mem 0 ns m hm
  have h0 := (labI_mem 0 ns h m hm).1
  rcases labK_from 0 ns with e | ⟨y, hy, e⟩
  · omega
  · have := hle y hy
    omega
theorem labK_small {ns : List Int} (h : labI 0 ns = true) : labK 0 ns ≤ ns.length := by
  rcases labK_from 0 ns with e | ⟨y, hy, e⟩
  · omega
  · have := (labI_mem 0 ns h y hy).2
    omega
def partsD (ns : List Int) : PyData :=
  .tuple ((List.range (labK 0 ns).toNat).map fun (k : Nat) => PyData.tuple ((partL ns ns.length (k : Int)).map PyData.int))
def numsD : PyData → List Int
  | .tuple ds => ds.map fun d => match d with | .int i => i | _ => 0
  | _ => []
theorem numsD_ints (ns : List Int) : numsD (.tuple (ns.map PyData.int)) = ns := by
  show (ns.map PyData.int).map _ = ns
  rw [List.map_map]
  exact (List.map_congr_left (fun x _ => rfl)).trans (List.map_id ns)
def partsX (d : PyData) : PyData := if isLabD d = true then partsD (numsD d) else .str "refused"
theorem partsX_yes {ns : List Int} (h : isLabD (.tuple (ns.map PyData.int)) = true) :
    partsX (.tuple (ns.map PyData.int)) = partsD ns := by
  unfold partsX
  rw [if_pos h, numsD_ints]
theorem partsX_no {d : PyData} (h : isLabD d = false) : partsX d = .str "refused" := by
  unfold partsX
  rw [h]
  rfl
/-- labels are a row of numbers -/
theorem isLab_form {d : PyData} (h : isLabD d = true) : ∃ ns : List Int, d = .tuple (ns.map PyData.int) ∧
    1 ≤ ns.length ∧ ns.length ≤ 12 ∧ labI 0 ns = true := by
  cases d with
  | tuple ds =>
    have h' : (decide (1 ≤ ds.length ∧ ds.length ≤ 12) && labG 0 ds) = true := h
    rw [Bool.and_eq_true, decide_eq_true_eq] at h'
    obtain ⟨ns, rfl⟩ := ints_of (labG_w 0 ds h'.2)
    rw [List.length_map, labG_ints] at h'
    exact ⟨ns, rfl, h'.1.1, h'.1.2, h'.2⟩
  | _ => cases h
theorem hasDict_ints : ∀ ns : List Int, PyData.hasDictAll (ns.map PyData.int) = false
  | [] => rfl
  | n :: ns => by rw [List.map_cons]; simp only [PyData.hasDictAll, PyData.hasDict, hasDict_ints ns, Bool.or_self]
theorem hasDict_all {α : Type} (f : α → PyData) : ∀ l : List α, (∀ x ∈ l, (f x).hasDict = false) → PyData.hasDictAll (l.map f) = false
  | [], _ => rfl
  | x :: l, h => by
    rw [List.map_cons]
    simp only [PyData.hasDictAll, h x (List.mem_cons_self ..), hasDict_all f l fun y m => h y (List.mem_cons_of_mem _ m), Bool.or_self]
theorem partsD_flat (ns : List Int) : (partsD ns).hasDict = false :=
  hasDict_all _ _ fun k _ => hasDict_ints _
theorem partsX_flat (d : PyData) : (partsX d).hasDict = false := by
  unfold partsX
  split
  · exact partsD_flat _
  · rfl
theorem Gs.map {α : Type} {W D : Nat} {f : α → PyData} : ∀ {l : List α}, (∀ x ∈ l, Gd W D (f x)) → Gs (l.length * (W + 1)) D (l.map f)
  | [], _ => Gs.nil
  | x :: l, h => by
    have h1 := Gs.one (h x (List.mem_cons_self ..))
    have h2 := Gs.map (l := l) fun y m => h y (List.mem_cons_of_mem _ m)
    refine (h1.app h2).mono ?_ (Nat.le_refl _)
    rw [List.length_cons, Nat.succ_mul]
    omega
theorem partsD_gd {ns : List Int} (h : labI 0 ns = true) (hl : ns.length ≤ 12) : Gd 800 2 (partsD ns) := by
  have hk := labK_small h
  have g : Gs ((List.range (labK 0 ns).toNat).length * (60 + 1)) 1
      ((List.range (labK 0 ns).toNat).map fun (k : Nat) => PyData.tuple ((partL ns ns.length (k : Int)).map PyData.int)) := by
    refine Gs.map fun k _ => ?_
    have l := partL_len ns ns.length (k : Int)
    exact Gd.ints (k := 4) (m := 12) (fun y hy => by have := partL_mem hy; omega) (by omega)
  refine (Gd.tup g).mono ?_ (Nat.le_refl _)
  rw [List.length_range]
  have : (labK 0 ns).toNat ≤ 12 := by omega
  exact Nat.le_trans (Nat.mul_le_mul_right _ this) (by decide)
theorem partsX_gd (d : PyData) : Gd 800 2 (partsX d) := by
  by_cases h : isLabD d = true
  · obtain ⟨ns, rfl, h1, h2, h3⟩ := isLab_form h
    rw [partsX_yes h]
    exact partsD_gd h3 h2
  · rw [partsX_no (by simpa using h)]
    exact gd_of (by decide +kernel)

/-! ## rows made anew -/
theorem growF {G H2 H3 : Hp} {D : Addr} {acc : List V} {ds : List PyData} {y : V} {d : PyData} (nD : G D = none)
    (s2 : Same G H2) (e2 : H2 D = some (.lst acc)) (h2 : DVs False (fun a => Tr G a ∨ a = D) H2 acc ds) (s3 : Same H2 H3)
    (h3 : DV False (Tr H2) H3 y d) :
    Same G (upd H3 D (.lst (acc ++ [y]))) ∧ (upd H3 D (.lst (acc ++ [y]))) D = some (.lst (acc ++ [y])) ∧
      DVs False (fun a => Tr G a ∨ a = D) (upd H3 D (.lst (acc ++ [y]))) (acc ++ [y]) (ds ++ [d]) := by
  have k : Keep (fun a => Tr G a ∨ a = D) H3 (upd H3 D (.lst (acc ++ [y]))) := Keep.at (.inr rfl)
  refine ⟨(s2.trans s3).off nD, upd_same, ?_⟩
  have a1 := (h2.keep (Keep.same s3)).keep k
  have a2 : DV False (fun a => Tr G a ∨ a = D) H3 y d := h3.less (fun z => z) fun a _ _ n m => n (by
    rcases m with m | m
    · exact s2.tr a m
    · rw [m, Tr, e2]; exact fun z => nomatch z)
  exact a1.app (.cons (a2.keep k) .nil)
section
variable {G : Hp} {D : Addr} {σ : L2.St} {vs : List Nat} {k : Nat} {te : TE} {Qd : Hp → Prop}
theorem lc_rangeF {lo : Int} {n : Nat} (f : Nat → PyData) (nD : G D = none) (hn : n ≤ 1000)
    (hw : ∀ x, wipe ((wipe σ vs).set k (some x)) vs = wipe σ vs)
    (hel : ∀ (i : Nat) (H2 : Hp) (Q : VK), i < n → Same G H2 → Tr H2 D →
      (∀ y H3, Same H2 H3 → DV False (Tr H2) H3 y (f i) → Q y H3) →
      te ((wipe σ vs).set k (some (.int (lo + i)))) H2 Q)
    (hd : ∀ H' acc, Same G H' → H' D = some (.lst acc) →
      DVs False (fun a => Tr G a ∨ a = D) H' acc ((List.range n).map f) → Qd H') :
    ∃ W : Nat → Nat → Hp → Prop, (∃ m, W 0 m (upd G D (.lst []))) ∧ ∀ i m H, W i m H →
      ((Itr lo n).stop i H ∧ Qd H) ∨ ((Itr lo n).go i H ∧ ∃ Nx : Hp → Prop,
        (∀ H', Nx H' → ∃ m', m' < m ∧ W (i + 1) m' H') ∧ ∀ x H', (Itr lo n).yld i H x H' →
        gName k x (wipe σ vs) H' fun σ2 H2 => wipe σ2 vs = wipe σ vs ∧ tYes σ2 H2 fun b H3 =>
          if b = true then te σ2 H3 fun y H4 => ∃ acc, H4 D = some (.lst acc) ∧ acc.length < sizeLine ∧
            Nx (upd H4 D (.lst (acc ++ [y]))) else Nx H3) := by
  refine lc_range (fun i H => ∃ acc, Same G H ∧ H D = some (.lst acc) ∧
    DVs False (fun a => Tr G a ∨ a = D) H acc ((List.range i).map f)) ⟨[], (Same.refl G).off nD, upd_same, .nil⟩
    (fun i H2 hi h => ?_) (fun H2 h => ?_)
  · obtain ⟨acc, s2, e2, h2⟩ := h
    have la := h2.length
    rw [List.length_map, List.length_range] at la
    refine ⟨hw _, hel i H2 _ hi s2 (by rw [Tr, e2]; exact fun z => nomatch z) fun y H3 s3 h3 => ?_⟩
    refine ⟨acc, s3 _ _ e2, small1000 (by omega), acc ++ [y], ?_⟩
    have g := growF nD s2 e2 h2 s3 h3
    refine ⟨g.1, g.2.1, ?_⟩
    rw [List.range_succ, List.map_append]
    exact g.2.2
  · obtain ⟨acc, s2, e2, h2⟩ := h
    exact hd H2 acc s2 e2 h2
end

/-! ## promises -/
def sp_checkL (C : Addr) : Sp := fun vs H Q E => ∃ (v : V) (d : PyData) (z : Prop) (B : Addr → Prop),
  vs = [v] ∧ DV z B H v d ∧ (isLabD d = false → E (.ref C) none H) ∧ (isLabD d = true → Q .non H)
def sp_parts (C : Addr) : Sp := fun vs H Q E => ∃ (v : V) (d : PyData) (z : Prop) (B : Addr → Prop),
  vs = [v] ∧ DV z B H v d ∧ (isLabD d = false → E (.ref C) none H) ∧
  (isLabD d = true → ∀ v' H', Same H H' → DV False (Tr H) H' v' (partsX d) → Q v' H')
def sp_partsX : Sp := fun vs H Q _ => ∃ (v : V) (d : PyData) (z : Prop) (B : Addr → Prop),
  vs = [v] ∧ DV z B H v d ∧ ∀ v' H', Same H H' → DV False (Tr H) H' v' (partsX d) → Q v' H'
def sp_partsL : Sp := fun vs H Q _ => ∃ (v : V) (d : PyData) (z : Prop) (B : Addr → Prop),
  vs = [v] ∧ DV z B H v d ∧ isLabD d = true ∧
  ∀ v' H', Same H H' → DV False (Tr H) H' v' (partsX d) → Q v' H'
section
variable {X : Cx} {K : PySem.W.Frag}
def rTupK (K : PySem.W.Frag) : List V → Hp → VK → Prop := fun xs H Q => ∃ p ys, xs = [.ref p] ∧
  ((SqL K H p ys ∧ ∀ l, H l = none → Q (.ref l) (upd H l (.tup ys))) ∨ (SqT K H p ys ∧ Q (.ref p) H))
def rLenK (K : PySem.W.Frag) : List V → Hp → VK → Prop := fun xs H Q => ∃ p ys, xs = [.ref p] ∧
  (SqL K H p ys ∨ SqT K H p ys) ∧ Q (.int ys.length) H
theorem call_tupK (h : X.K = K) : CallR X (.type "tuple") (rTupK K) := by
  subst h
  exact call_tuple_of
theorem call_lenK (h : X.K = K) : CallR X (.builtin "len") (rLenK K) := by
  subst h
  exact call_len_seq
theorem ix_tupK (h : X.K = K) : IxR X (rIxT K) := by
  subst h
  exact ix_tup
theorem ix_listK (h : X.K = K) : IxR X (rIxL K) := by
  subst h
  exact ix_list
end
def Uniq (as : List Addr) : Prop := ∀ (i j : Nat) (x : Addr), as[i]? = some x → as[j]? = some x → i = j
theorem uniq_nil : Uniq [] := fun i j x h => by cases h
theorem uniq_snoc {as : List Addr} {p : Addr} (u : Uniq as) (h : p ∉ as) : Uniq (as ++ [p]) := by
  intro i j x hi hj
  have key : ∀ m y, (as ++ [p])[m]? = some y → (m < as.length ∧ as[m]? = some y) ∨ (m = as.length ∧ y = p) := by
    intro m y e
    rw [List.getElem?_append] at e
    split at e
    · rename_i l
      exact .inl ⟨l, e⟩
    · rename_i l
      obtain ⟨l1, e1⟩ := List.getElem?_eq_some_iff.mp e
      have l2 : m - as.length < 1 := l1
      refine .inr ⟨by omega, ?_⟩
      have z : m - as.length = 0 := by omega
      rw [z, List.getElem?_cons_zero] at e
      exact (Option.some.inj e).symm
  rcases key i x hi with ⟨_, e1⟩ | ⟨l1, e1⟩ <;> rcases key j x hj with ⟨_, e2⟩ | ⟨l2, e2⟩
  · exact u i j x e1 e2
  · subst e2; exact absurd (List.mem_of_getElem? e1) h
  · subst e1; exact absurd (List.mem_of_getElem? e2) h
  · omega
theorem none_of {H G : Hp} {T : Addr} (s : Same H G) (n : G T = none) : H T = none := by
  cases h : H T with
  | none => rfl
  | some o => rw [s T o h] at n; cases n
end Wr

/-! defs with *args -/
namespace Wr
open PySem PySem.Spec PyProof.Rows L2
def BindsV (fd : FuncData) (pv : Str) : Prop := ∀ rest : List Value,
  bindArgs fd ⟨rest, []⟩ = (newTuple rest >>= fun t => pure [(pv, t)])
section
variable {P : Program} {w : World} {K : PySem.W.Frag} {mg : Str → Option Value} {base : Heap}
theorem Fun_bindsV {x qual : Str} {st : Stmt} {f : Addr} {fd : FuncData} {pv : Str} (F : L2.Fun K x qual st f fd)
    (h : ∀ (kV doc pm : Value) (an : Option Addr) (cdv ct : Value) (rest : List Value),
      bindArgs (PySem.W.fnOf x qual (defArgs st) (defBody st) (defScope st) .none kV doc pm an cdv ct) ⟨rest, []⟩ =
        (newTuple rest >>= fun t => pure [(pv, t)])) : BindsV fd pv := by
  obtain ⟨oc, od, kV, doc, pm, an, cdv, ct, osl, rfl, lk, hcd⟩ := F.ex
  exact h kV doc pm an cdv ct
theorem okV {x qual : Str} {st : Stmt} {f : Addr} {fd : FuncData} {N : List Str} {pv : Str} {k : Nat} {sp : Sp}
    (F : L2.Fun K x qual st f fd) (S : FnScope N [pv] (defScope st)) (hb : BindsV fd pv)
    (hbody : ∀ (cdv : Value) (A : Around) (outer : List Env) (s : Shared) (H : Hp) (vs : List V) (Q : VK) (E : XK),
      Room k (A.deeper (envOfC qual (defScope st) s.heap.objs.size f cdv)) → sp vs H Q E →
      ∃ t, PSs (cxOf (L2.CX P w) P w K mg base N qual (defScope st) f cdv A outer s H E) (defBody st) t ∧
        t { nx := fun _ H' => Q .non H', rt := Q } (start N vs) H) :
    FnR P w K mg base (L2.CX P w) (k + 1) f (fun vs H Q E => vs.length ≤ sizeLine ∧
      ∀ p, H p = none → sp [V.ref p] (upd H p (.tup vs)) Q E) := by
  obtain ⟨oc, od, kV, doc, pm, an, cdv, ct, osl, rfl, lk, hcd⟩ := F.ex
  have R := StX.fn_star (ps := []) (pv := pv) (sp := sp) lk hcd S StX.cxUp
    (fun us rest hl => by
      obtain rfl := List.length_eq_zero_iff.mp hl
      exact hb rest)
    (fun A outer s H vs Q E hr hsp => hbody cdv A outer s H vs Q E hr hsp)
  exact R.imp fun vs H Q E h => ⟨[], vs, rfl, rfl, h.1, h.2⟩
end
section
variable {X : Cx} {CX : CXT} {k : Nat} {f : Addr} {sp : Sp} {E : L2.St → XK} {x : Str} {e : Expr} {es : List Expr} {t : TA} {p pos : Pos}
theorem run_fnRS {pins : List (Addr × Obj)} {σ : L2.St} {H : Hp} {s : Shared} {Q : VK} {us : List Value} {vs : List V}
    (F : FnR X.prog X.w X.K X.mg X.base CX k f sp) (hr : Room k X.A) (hx : PassesAt CX X σ (E σ))
    (I : Inv X pins σ H s) (r : Vals vs us) (h : sp vs H Q (E σ)) :
    wpAny (model X.prog X.w) X.A (call (.ref f) us) (EP X pins σ Q) X.xe s := by
  refine wpAny_call (codeAny_mono (F X.A X.stack s H us vs Q (E σ) hr I.env0 r h) fun r s' hq => ?_)
  cases r with
  | error e => exact hx pins H s e s' I hq
  | ok fl =>
    cases fl with
    | ret u => exact I.after hq
    | next => exact False.elim hq
    | brk => exact False.elim hq
    | cont => exact False.elim hq
theorem pe_callRS (F : FnR X.prog X.w X.K X.mg X.base CX k f sp) (hr : Room k X.A) (hg : Gl X x) (hm : X.mg x = some (.ref f))
    (hk : PySem.W.keepIn X.K (.ref f) = true) (hx : ∀ σ, PassesAt CX X σ (E σ))
    (ha : PA X (e :: es) t) (hdb : (x == ("__debug__" : Str)) = false := by decide)
    (he : starEach (e :: es) X.env = (false, eval e X.env) :: starEach es X.env := by rfl)
    (hpl : (backTo pos (starEach es X.env)).any (·.1) = false := by rfl) :
    PE X (.Call (.Name x p) (e :: es) [] pos) (tCallS sp E t) := by
  refine ⟨fun pins s σ H Q I h => ?_⟩
  refine wpAny_Call_Name_kw (ld_glob I hg hm ?_ hdb)
  refine PySem.W.callWith_K (h₀ := X.base) I.ok.mod.kin hk (thn (ha.run pos pins s σ H _ I h) fun us s1 ⟨vs, H1, I1, r, q⟩ => ⟨I1.kIn, ?_⟩) he hpl
  exact run_fnRS F hr (hx σ) I1 r q
theorem pe_callRS0 (F : FnR X.prog X.w X.K X.mg X.base CX k f sp) (hr : Room k X.A) (hg : Gl X x) (hm : X.mg x = some (.ref f))
    (hk : PySem.W.keepIn X.K (.ref f) = true) (hx : ∀ σ, PassesAt CX X σ (E σ))
    (hdb : (x == ("__debug__" : Str)) = false := by decide) :
    PE X (.Call (.Name x p) [] [] pos) (tCallS sp E tNil) := by
  refine ⟨fun pins s σ H Q I h => ?_⟩
  refine wpAny_Call_Name_kw (ld_glob I hg hm ?_ hdb)
  exact PySem.W.callWith_K0 I.kIn hk (run_fnRS (us := []) F hr (hx σ) I .nil h)
end
section
variable {X : Cx}
def tRevL (K : PySem.W.Frag) (te : TE) : TE := fun σ H Q => te σ H fun x H1 => ∃ a xs,
  x = .ref a ∧ SqL K H1 a xs ∧ ∀ p, H1 p = none → Q (.ref p) (upd H1 p (.lst xs.reverse))
theorem pe_revL {e : Expr} {te : TE} {k : Nat} {p1 p2 p3 pos : Pos} (he : PE X e te) :
    PE X (.Subscript e (.Slice none none (some (.UnaryOp .USub (.Constant (.int 1) k p1) p2)) p3) pos)
      (tRevL X.K te) := by
  refine ⟨fun pins s σ H Q I h => Subscript_ (thn (he.run pins s σ H _ I h) ?_)⟩
  rintro v s1 ⟨x, H1, I1, r1, a, xs, rfl, hx, q⟩
  cases r1
  have one : PO X (some (.UnaryOp .USub (.Constant (.int 1) k p1) p2))
      (tPart (tUn (rU fun i => .int (-i)) (tC (.int 1)))) := po_some (pe_un un_neg pe_int)
  refine wpAny_Slice (thn (po_none.run pins s1 σ H1 (fun o H2 => o = none ∧ H2 = H1) I1 ⟨rfl, rfl⟩) ?_)
  rintro vl s2 ⟨l, H2, I2, pl, rfl, rfl⟩
  refine thn (po_none.run pins s2 σ H2 (fun o H3 => o = none ∧ H3 = H2) I2 ⟨rfl, rfl⟩) ?_
  rintro vu s3 ⟨u, H3, I3, pu, rfl, rfl⟩
  refine thn (one.run pins s3 σ H3 (fun o H4 => o = some (-1) ∧ H4 = H3) I3 ⟨1, rfl, -1, rfl, rfl, rfl⟩) ?_
  rintro vs s4 ⟨o, H4, I4, ps, rfl, rfl⟩
  have I5 : Inv X pins σ H4 { s4 with heap := (s4.heap.push
        { cls := .type "slice", data := .fields #[vl, vu, vs] }) } :=
    I4.kept (t' := s4.toks) fun b ob q => Heap.get?_push_of_some _ q
  obtain ⟨its, r, ht, hz⟩ := I5.list hx
  have hlen := r.length
  cases pl
  cases pu
  show wpAny (model X.prog X.w) X.A (subscriptTail e (.Slice none none (some (.UnaryOp .USub
    (.Constant (.int 1) k p1) p2)) p3) (.ref a) (.ref s4.heap.objs.size)) (EP X pins σ Q) X.xe _
  refine tail_any (ops := [.ref a, .ref s4.heap.objs.size]) ht.isList.typeIs
    slot_list_getitem.lookup ?_ (by with_unfolding_all rfl)
  refine wpAny_getItem_list_slice ht.isList (Heap.IsSliceOf.new _ .none .none vs) .none .none ps (by decide) ?_
    (by rw [List.size_toArray]; omega)
  rw [PySem.W.krv_pick]
  refine ⟨.ref _, _, I5.laid (t' := s4.toks) (o := .lst xs.reverse)
    (fun b ob q => Heap.get?_push_of_some _ q) (Nat.le_refl _) ?_, rfl, q _ (I5.hok.fresh (Nat.le_refl _))⟩
  refine ⟨by rw [List.length_reverse]; exact hz, its.reverse, _, r.reverse, Heap.get?_push_size _ rfl⟩
end
end Wr

namespace Mi
open PySem PySem.Spec PyProof.Rows L2

/-! ## defs: what a call of one does -/
abbrev CF := List D → List Ins → R Sl
def PostC (K : PySem.W.Frag) (T : Tb) (F : AP1) (α : List Addr) (H : Hp) (Q : VK) (E : XK) : R Sl → Prop
  | .ok r st' => ∀ α' H' P v, (∀ a ∈ P, ¬ F a) → Stp F α (BB F α []) H α' (BB (FP F P) α' []) H' → Rel K T (FP F P) α' [] ⟨[], st'.S⟩ [] H' → RV K α' (BB (FP F P) α' []) H' r v P → Q v H'
  | .er c st' => ∀ α' H', Stp F α (BB F α []) H α' (BB F α' []) H' → Rel K T F α' [] ⟨[], st'.S⟩ [] H' → E (.ref (T.ec c)) none H'
  | .no => False
def spD (K : PySem.W.Frag) (T : Tb) (cf : CF) : Sp := fun vs H Q E =>
  ∃ F α S ds, Rel K T F α [] ⟨[], S⟩ [] H ∧ DVs K α (BB F α []) H vs ds ∧ PostC K T F α H Q E (cf ds S)
def ent (n : Nat) (ds : List D) : List Sl := ds.map .va ++ List.replicate (n - ds.length) .un
def fin : O → R Sl
  | .nx st => .ok (.va .non) ⟨[], st.S⟩
  | .rt r st => .ok r ⟨[], st.S⟩
  | .er c st => .er c ⟨[], st.S⟩
  | _ => .no
def mDef (nN np : Nat) (m : MS) : CF := fun ds S => if ds.length = np then fin (m ⟨ent nN ds, S⟩) else .no
/-- def f(a, .., *v) -/
def mDefV (nN np : Nat) (m : MS) : CF := fun ds S => if np ≤ ds.length ∧ ds.length < LIM then fin (m ⟨ent nN (ds.take np ++ [.tup (ds.drop np)]), S⟩) else .no
abbrev eOf (T : Tb) (E : XK) : EX := fun c _ H => E (.ref (T.ec c)) none H

section
variable {X : Cx} {T : Tb} {K : PySem.W.Frag} {F F' : AP1} {α α' : List Addr} {os os' : List (List Addr)} {st st' : Sto} {σ : L2.St} {H H' : Hp} {S : List Ins}
theorem BB_flat (e : os.flatten = os'.flatten) : BB F α os = BB F α os' := by funext a; simp only [BB, e]
theorem BB_nil_sub : ∀ a, BB F α [] a → BB F α os a := fun a h => by
  rcases h with h | h | h
  · exact .inl h
  · exact .inr (.inl h)
  · simp at h
theorem StoOk.lessB {B B' : AP1} (h : StoOk K T α B H S) (w : ∀ a, B' a → B a) : StoOk K T α B' H S :=
  ⟨fun k i e => (h.at' k i e).step (Stp.weak (F := fun _ => False) w) fun a _ u q => q, h.len, h.nd⟩
/-- a def's names are let go -/
theorem Rel.exit (R0 : Rel K T F α os st σ H) : Rel K T F α [] ⟨[], st.S⟩ [] H :=
  ⟨.nil, List.nodup_nil, fun a m => by simp at m, R0.so.lessB BB_nil_sub, R0.fr, R0.has⟩
theorem flat0 : ∀ (n : Nat), (List.replicate n ([] : List Addr)).flatten = []
  | 0 => rfl
  | n + 1 => by rw [List.replicate_succ, List.flatten_cons, flat0 n]; rfl
theorem sls_un {B : AP1} : ∀ n : Nat, SlsOk K α B H (List.replicate n .un) (List.replicate n none) (List.replicate n [])
  | 0 => .nil
  | n + 1 => .cons rfl (sls_un n)
theorem sls_va {B : AP1} (n : Nat) : ∀ {vs : List V} {ds : List D}, DVs K α B H vs ds → SlsOk K α B H (ds.map .va ++ List.replicate n .un) (vs.map some ++ List.replicate n none) (List.replicate (vs.length + n) [])
  | _, _, .nil => by simpa using sls_un n
  | _, _, .cons (vs := vs) h t => by
    have e : vs.length + 1 + n = (vs.length + n) + 1 := by omega
    rw [List.length_cons, e, List.replicate_succ]
    exact .cons ⟨rfl, _, rfl, h⟩ (sls_va n t)
theorem Rel.enter {N : List Str} {vs : List V} {ds : List D} (R0 : Rel K T F α [] ⟨[], S⟩ [] H) (hd : DVs K α (BB F α []) H vs ds) :
    ∃ os, BB F α os = BB F α [] ∧ Rel K T F α os ⟨ent N.length ds, S⟩ (L2.start N vs) H := by
  have e : BB F α (List.replicate (vs.length + (N.length - vs.length)) []) = BB F α [] := BB_flat (by rw [flat0]; rfl)
  refine ⟨_, e, ?_, by rw [flat0]; exact List.nodup_nil, fun a m => by rw [flat0] at m; simp at m, by rw [e]; exact R0.so, R0.fr, R0.has⟩
  have z := sls_va (B := BB F α []) (N.length - vs.length) hd
  rw [e]
  unfold ent L2.start
  rw [← hd.length]
  exact z
theorem PostC.body {x : O} {Q : VK} {E : XK} (e : BB F α os = BB F α []) (h : PostC K T F α H Q E (fin x)) :
    PostS K T F α os H (eOf T E) x { nx := fun _ H' => Q .non H', rt := Q } := by
  have sub : ∀ {F1 : AP1} {α1 : List Addr} {os1 : List (List Addr)} {H1 : Hp}, Stp F α (BB F α os) H α1 (BB F1 α1 os1) H1 → Stp F α (BB F α []) H α1 (BB F1 α1 []) H1 := fun {F1 α1 os1 H1} s => by
    rw [e] at s
    exact s.trans (Stp.weak BB_nil_sub)
  cases x with
  | nx st' =>
    intro α' os' σ' H' s R
    refine h α' H' [] .non (fun a m => nomatch m) ?_ ?_ ⟨⟨rfl, _, rfl, .non⟩, nofun⟩
    · rw [FP_nil]; exact sub s
    · rw [FP_nil]; exact R.exit
  | rt r st' =>
    intro α' os' σ' H' P v nf s R hv
    refine h α' H' P v nf (sub s) R.exit ⟨hv.1.step (F := fun _ => False) (Stp.weak BB_nil_sub) fun a _ u q => q, hv.2⟩
  | er c st' =>
    intro α' os' σ' H' s R
    exact h α' H' (sub s) R.exit
  | bk _ => exact h.elim
  | ct _ => exact h.elim
  | no => exact h.elim
end

section
variable {P : Program} {w : World} {K : PySem.W.Frag} {mg : Str → Option Value} {base : Heap} {T : Tb}
theorem PostC.pos {F : AP1} {α : List Addr} {H : Hp} {Q : VK} {E : XK} {c : Prop} [Decidable c] {x : R Sl} (h : PostC K T F α H Q E (if c then x else .no)) : c := by
  by_cases q : c
  · exact q
  · rw [if_neg q] at h; exact h.elim
theorem fn_def {x qual : Str} {st : Stmt} {f : Addr} {fd : FuncData} {N ps : List Str} {k : Nat} {m : MS} (Fn : L2.Fun K x qual st f fd) (Sc : FnScope N ps (defScope st))
    (body : ∀ (cdv : Value) (A : Around) (outer : List Env) (s : Shared) (H : Hp) (E : XK), Room k (A.deeper (envOfC qual (defScope st) s.heap.objs.size f cdv)) →
      SdSs (cxOf (L2.CX P w) P w K mg base N qual (defScope st) f cdv A outer s H E) T (eOf T E) (defBody st) m) :
    FnOk P w K mg base (L2.CX P w) (k + 1) f fd ps (spD K T (mDef N.length ps.length m)) := by
  refine Fun.okX Fn Sc (fun vs H Q E ⟨F, α, S, ds, _, hd, h⟩ => hd.length.trans h.pos) fun cdv A outer s H vs Q E hr hsp => ⟨_, pss_sem, ?_⟩
  obtain ⟨F, α, S, ds, R0, hd, h⟩ := hsp
  have hl := h.pos
  unfold mDef at h
  rw [if_pos hl] at h
  obtain ⟨os, e, R1⟩ := R0.enter (N := N) hd
  exact (body cdv A outer s H E hr).run F α os _ _ H _ R1 (PostC.body e h)
/-- .. with a starred last parameter -/
theorem fn_var {x qual : Str} {st : Stmt} {f : Addr} {fd : FuncData} {N ps : List Str} {pv : Str} {k : Nat} {m : MS} (Fn : L2.Fun K x qual st f fd) (Sc : FnScope N (ps ++ [pv]) (defScope st))
    (hb : ∀ (kV doc pm : Value) (an : Option Addr) (cdv ct : Value) (us rest : List Value), us.length = ps.length →
      bindArgs (PySem.W.fnOf x qual (defArgs st) (defBody st) (defScope st) .none kV doc pm an cdv ct) ⟨us ++ rest, []⟩ = (newTuple rest >>= fun t => pure (ps.zip us ++ [(pv, t)])))
    (body : ∀ (cdv : Value) (A : Around) (outer : List Env) (s : Shared) (H : Hp) (E : XK), Room k (A.deeper (envOfC qual (defScope st) s.heap.objs.size f cdv)) →
      SdSs (cxOf (L2.CX P w) P w K mg base N qual (defScope st) f cdv A outer s H E) T (eOf T E) (defBody st) m) :
    FnR P w K mg base (L2.CX P w) (k + 1) f (spD K T (mDefV N.length ps.length m)) := by
  obtain ⟨oc, od, kV, doc, pm, an, cdv, ct, osl, rfl, lk, hcd⟩ := Fn.ex
  have R := StX.fn_star (ps := ps) (pv := pv) (sp := fun vs H Q E => ∃ F α S ds, Rel K T F α [] ⟨[], S⟩ [] H ∧ DVs K α (BB F α []) H vs ds ∧ PostC K T F α H Q E (fin (m ⟨ent N.length ds, S⟩))) lk hcd Sc StX.cxUp
    (fun us rest hl => hb kV doc pm an cdv ct us rest hl)
    (fun A outer s H vs Q E hr hsp => by
      obtain ⟨F, α, S, ds, R0, hd, h⟩ := hsp
      obtain ⟨os, e, R1⟩ := R0.enter (N := N) hd
      exact ⟨_, pss_sem, (body cdv A outer s H E hr).run F α os _ _ H _ R1 (PostC.body e h)⟩)
  refine R.imp fun vs H Q E h => ?_
  obtain ⟨F, α, S, ds, R0, hd, h⟩ := h
  obtain ⟨h1, h2⟩ := h.pos
  unfold mDefV at h
  rw [if_pos ⟨h1, h2⟩] at h
  refine ⟨vs.take ps.length, vs.drop ps.length, (List.take_append_drop _ _).symm, by rw [List.length_take, hd.length]; omega, ?_, fun p np => ?_⟩
  · rw [List.length_drop, hd.length]; exact Nat.le_trans (by omega) (Nat.le_trans (Nat.le_of_lt h2) lim_ok)
  · have s := stp_new (F := F) (α := α) (B := BB F α []) (o := .tup (vs.drop ps.length)) np
    refine ⟨F, α, S, _, R0.new np, ((hd.take ps.length).step s).app (.cons (.tup (fun z => R0.bThere p z np) (.inl upd_same) ((hd.drop ps.length).step s)) .nil), ?_⟩
    revert h
    generalize fin _ = x
    intro h
    cases x with
    | ok r st' => exact fun α' H' P v nf s1 R1 hv => h α' H' P v nf (s.trans s1) R1 hv
    | er c st' => exact fun α' H' s1 R1 => h α' H' (s.trans s1) R1
    | no => exact h
/-- by position, defaults filled up -/
theorem fn_raw {k : Nat} {f : Addr} {fd : FuncData} {ps : List Str} {ds : List Value} {dvs : List V} {dds : List D} {cf : CF} (Fn : FnOk P w K mg base (L2.CX P w) k f fd ps (spD K T cf)) (hb : Binds K fd ps ds) (hd : Vals dvs ds)
    (hc : ∀ α B H, DVs K α B H dvs dds) : FnR P w K mg base (L2.CX P w) k f (spD K T fun es S => cf (es ++ dds) S) :=
  (Fn.raw hb hd).imp fun vs H Q E ⟨F, α, S, es, R0, h1, h⟩ => ⟨F, α, S, es ++ dds, R0, h1.app (hc _ _ _), h⟩
theorem fn_raw0 {k : Nat} {f : Addr} {fd : FuncData} {ps : List Str} {cf : CF} (Fn : FnOk P w K mg base (L2.CX P w) k f fd ps (spD K T cf)) (hb : Binds K fd ps []) : FnR P w K mg base (L2.CX P w) k f (spD K T cf) :=
  (Fn.raw hb .nil).imp fun vs H Q E h => by rw [List.append_nil]; exact h
end

/-! ## calls -/
structure CalV (X : Cx) (T : Tb) (E : EX) (u : Value) (cf : CF) : Prop where
  run : ∀ (pins : List (Addr × Obj)) (s : Shared) (σ : L2.St) (H : Hp) (us : List Value) (vs : List V) (Q : VK), Inv X pins σ H s → Vals vs us → spD X.K T cf vs H Q (WE (XW T E) σ) →
    wpAny (model X.prog X.w) X.A (call u us) (EP X pins σ Q) X.xe s
  kp : PySem.W.keepIn X.K u = true
def mCallAt (cf : CF) (ds : List D) (st : Sto) : R Sl := match cf ds st.S with
  | .ok r st2 => .ok r { st with S := st2.S }
  | .er c st2 => .er c { st with S := st2.S }
  | .no => .no
def mCall (cf : CF) (ms : MA) : MV := fun st => (ms st).bnd fun ds st1 => mCallAt cf ds st1
section
variable {X : Cx} {T : Tb} {E : EX} {K : PySem.W.Frag} {F F' : AP1} {α α' : List Addr} {os os' : List (List Addr)} {st st' : Sto} {σ : L2.St} {H H' : Hp} {S : List Ins}
theorem BB_held (P : List Addr) : BB (FP (fun a => F a ∨ a ∈ os.flatten) P) α [] = BB (FP F P) α os := by
  funext a
  simp only [BB, FP, List.flatten_nil, List.not_mem_nil, or_false, eq_iff_iff]
  constructor
  · rintro (((h | h) | h) | h)
    · exact .inl (.inl h)
    · exact .inr (.inr h)
    · exact .inl (.inr h)
    · exact .inr (.inl h)
  · rintro ((h | h) | h | h)
    · exact .inl (.inl (.inl h))
    · exact .inl (.inr h)
    · exact .inr h
    · exact .inl (.inl (.inr h))
theorem BB_held0 : BB (fun a => F a ∨ a ∈ os.flatten) α [] = BB F α os := by
  have z := BB_held (F := F) (α := α) (os := os) []
  rwa [FP_nil, FP_nil] at z
theorem call_post {cf : CF} {Q : VK} {vs : List V} {ds : List D} (R0 : Rel K T F α os st σ H) (hd : DVs K α (BB F α os) H vs ds) (P : Post K T F α os σ H E (RV K) (mCallAt cf ds st) Q) :
    spD K T cf vs H Q (WE (XW T E) σ) := by
  refine ⟨fun a => F a ∨ a ∈ os.flatten, α, st.S, ds, ⟨.nil, List.nodup_nil, fun a m => by simp at m, by rw [BB_held0]; exact R0.so, ?_, ?_⟩, by rw [BB_held0]; exact hd, ?_⟩
  · rintro a (z | z)
    · exact R0.fr a z
    · exact (R0.off a z).2
  · rintro a (z | z)
    · exact R0.has a z
    · exact R0.sl.there a z
  · unfold mCallAt at P
    have back : ∀ {P1 : List Addr} {α1 : List Addr} {H1 : Hp} {S1 : List Ins}, (∀ a ∈ P1, ¬ (F a ∨ a ∈ os.flatten)) → Stp (fun a => F a ∨ a ∈ os.flatten) α (BB F α os) H α1 (BB (FP F P1) α1 os) H1 →
        Rel K T (FP (fun a => F a ∨ a ∈ os.flatten) P1) α1 [] ⟨[], S1⟩ [] H1 → Rel K T (FP F P1) α1 os { st with S := S1 } σ H1 := by
      intro P1 α1 H1 S1 nf s R1
      refine ⟨R0.sl.step s fun a m u q => s.fr a u (.inr m) q, R0.nd, fun a m => ⟨fun z => ?_, R1.fr a (.inl (.inr m))⟩, by rw [← BB_held]; exact R1.so, fun a z => R1.fr a ?_, fun a z => R1.has a ?_⟩
      · rcases z with z | z
        · exact (R0.off a m).1 z
        · exact nf a z (.inr m)
      · rcases z with z | z
        · exact .inl (.inl z)
        · exact .inr z
      · rcases z with z | z
        · exact .inl (.inl z)
        · exact .inr z
    cases q : cf ds st.S with
    | ok r st2 =>
      simp only [q] at P
      intro α1 H1 P1 v nf s R1 hv
      rw [BB_held0, BB_held] at s
      rw [BB_held] at hv
      exact P α1 os H1 P1 v (fun a m z => nf a m (.inl z)) (s.mono fun a z => .inl z) (back nf s R1) hv
    | er c st2 =>
      simp only [q] at P
      intro α1 H1 s R1
      rw [← FP_nil (F := fun a => F a ∨ a ∈ os.flatten)] at R1
      rw [BB_held0, BB_held0] at s
      refine ⟨c, rfl, rfl, P α1 os H1 (s.mono fun a z => .inl z) ?_⟩
      have z := back (P1 := []) (fun a m => nomatch m) (by rw [FP_nil]; exact s) R1
      rwa [FP_nil] at z
    | no => simp only [q] at P; exact P.elim
theorem calV_fn {k : Nat} {f : Addr} {cf : CF} (Fn : FnR X.prog X.w X.K X.mg X.base (L2.CX X.prog X.w) k f (spD X.K T cf)) (hr : Room k X.A) (hk : PySem.W.keepIn X.K (.ref f) = true) (tk : Takes X (XW T E)) : CalV X T E (.ref f) cf :=
  ⟨fun pins s σ H us vs Q I r h => Wr.run_fnRS (E := WE (XW T E)) Fn hr (passAt tk σ) I r h, hk⟩
variable {x : Str} {u : Value} {cf : CF} {e : Expr} {es : List Expr} {p pos sp_ : Pos} {ms : MA} {m : MH}
/-- x(e, ..) -/
theorem sd_call (c : CalV X T E u cf) (hg : Gl X x) (hm : X.mg x = some u) (ha : SdA X T E (e :: es) ms) (hdb : (x == ("__debug__" : Str)) = false := by decide)
    (he : starEach (e :: es) X.env = (false, eval e X.env) :: starEach es X.env := by rfl) (hpl : (backTo pos (starEach es X.env)).any (·.1) = false := by rfl) :
    SdV X T E (.Call (.Name x p) (e :: es) [] pos) (mCall cf ms) := by
  refine ⟨fun F α os st σ H Q R0 P pins s I => ?_⟩
  refine wpAny_Call_Name_kw (ld_glob I hg hm ?_ hdb)
  refine PySem.W.callWith_K (h₀ := X.base) I.ok.mod.kin c.kp (thn (pa_sem.run pos pins s σ H (fun vs H1 => spD X.K T cf vs H1 Q (WE (XW T E) σ)) I ?_) fun us s1 ⟨vs, H1, I1, r, q⟩ => ⟨I1.kIn, c.run pins s1 σ H1 us vs Q I1 r q⟩) he hpl
  refine ha.run F α os st σ H _ R0 (P.bnd fun ds st1 α1 os1 H1 P1 vs nf s1 R1 hv e1 P => ?_)
  obtain ⟨rfl, k1⟩ := hv
  rw [FP_nil] at s1 R1 k1
  exact call_post R1 k1 (P.later s1)
/-- x(e, .., *y) -/
theorem sd_callS2 (c : CalV X T E u cf) (hg : Gl X x) (hm : X.mg x = some u) (ha : SdA X T E (e :: es) ms) (hdb : (x == ("__debug__" : Str)) = false := by decide)
    (he : starEach (e :: es) X.env = (false, eval e X.env) :: starEach es X.env := by rfl) (hst : (backTo pos (starEach es X.env)).any (·.1) = true := by rfl) :
    SdV X T E (.Call (.Name x p) (e :: es) [] pos) (mCall cf ms) := by
  refine ⟨fun F α os st σ H Q R0 P pins s I => ?_⟩
  refine wpAny_Call_Name_kw (ld_glob I hg hm ?_ hdb)
  refine PySem.W.callWith_S2 (h₀ := X.base) I.ok.mod.kin c.kp (thn (pa_sem.run pos pins s σ H (fun vs H1 => spD X.K T cf vs H1 Q (WE (XW T E) σ)) I ?_) fun us s1 ⟨vs, H1, I1, r, q⟩ => ⟨I1.kIn, c.run pins s1 σ H1 us vs Q I1 r q⟩) he hst
  refine ha.run F α os st σ H _ R0 (P.bnd fun ds st1 α1 os1 H1 P1 vs nf s1 R1 hv e1 P => ?_)
  obtain ⟨rfl, k1⟩ := hv
  rw [FP_nil] at s1 R1 k1
  exact call_post R1 k1 (P.later s1)
/-- what a starred argument stands for -/
def seqOf : D → Option (List D)
  | .tup ds => some ds
  | .lst ds => some ds
  | .scr ns => some (ns.map .int)
  | _ => none
def mStar1 (m : MH) : MA := fun st => (m st).bnd fun h st1 => match (h.at st1).bind seqOf with
  | some ds => .ok ds st1
  | none => .no
/-- x(*y) -/
theorem sd_callS1 (c : CalV X T E u cf) (hg : Gl X x) (hm : X.mg x = some u) (ha : SdH X T E e m) (hdb : (x == ("__debug__" : Str)) = false := by decide)
    (hst : starEach [.Starred e sp_] X.env = [(true, eval e X.env)] := by rfl) :
    SdV X T E (.Call (.Name x p) [.Starred e sp_] [] pos) (mCall cf (mStar1 m)) := by
  refine ⟨fun F α os st σ H Q R0 P pins s I => ?_⟩
  refine wpAny_Call_Name_kw (ld_glob I hg hm ?_ hdb)
  refine PySem.W.callWith_S (h₀ := X.base) I.ok.mod.kin c.kp (thn (pe_sem.run pins s σ H (fun y H1 => ∃ a xs, y = V.ref a ∧ (SqT X.K H1 a xs ∨ SqL X.K H1 a xs) ∧ spD X.K T cf xs H1 Q (WE (XW T E) σ)) I ?_) fun v s1 ⟨y, H1, I1, ry, a, xs, ey, hxs, q⟩ => ?_) hst
  · unfold mCall mStar1 at P
    rw [bnd_bnd] at P
    refine ha.run F α os st σ H _ R0 (P.bnd fun h st1 α1 os1 H1 P1 v nf s1 R1 hv e1 P => ?_)
    obtain ⟨rfl, k1⟩ := hv
    rw [FP_nil] at s1 R1 k1
    cases q1 : h.at st1 with
    | none => simp only [q1, Option.bind_none] at P; exact P.elim
    | some d =>
      have pv := k1.at R1 q1
      simp only [q1, Option.bind_some] at P
      cases d with
      | tup ds =>
        simp only [seqOf, bnd_ok] at P
        obtain ⟨a, vs, rfl, sq, hd, _⟩ := pv.tup
        exact ⟨a, vs, rfl, .inl sq, call_post R1 hd (P.later s1)⟩
      | lst ds =>
        simp only [seqOf, bnd_ok] at P
        obtain ⟨a, vs, rfl, sq, hd⟩ := pv.lst
        exact ⟨a, vs, rfl, .inr (SqL.inj sq), call_post R1 hd (P.later s1)⟩
      | scr ns =>
        simp only [seqOf, bnd_ok] at P
        obtain ⟨a, rfl, sq⟩ := pv.scr
        have hd : ∀ ns : List Int, DVs X.K α1 (BB F α1 os1) H1 (ns.map V.int) (ns.map .int) := fun ns => by
          induction ns with
          | nil => exact .nil
          | cons n ns ih => exact .cons (.int n) ih
        exact ⟨a, _, rfl, .inr sq, call_post R1 (hd ns) (P.later s1)⟩
      | _ => simp only [seqOf] at P; exact P.elim
  · subst ey
    obtain rfl : v = Value.ref a := ry
    exact StX.star_any I1 hxs fun us s2 I2 rv => ⟨I2.kIn, c.run pins s2 σ H1 us xs Q I2 rv q⟩
/-- x() -/
theorem sd_call0 (c : CalV X T E u cf) (hg : Gl X x) (hm : X.mg x = some u) (hdb : (x == ("__debug__" : Str)) = false := by decide) :
    SdV X T E (.Call (.Name x p) [] [] pos) (mCallAt cf []) := by
  refine ⟨fun F α os st σ H Q R0 P pins s I => ?_⟩
  refine wpAny_Call_Name_kw (ld_glob I hg hm ?_ hdb)
  exact PySem.W.callWith_K0 I.kIn c.kp (c.run pins s σ H [] [] Q I .nil (call_post R0 .nil P))
end
end Mi

namespace Mi
open PySem PySem.Spec PyProof.Rows L2

/-! ## instances -/
def putD (f : Str) (d : D) : List (Str × D) → List (Str × D)
  | [] => [(f, d)]
  | (g, x) :: r => if g = f then (g, d) :: r else (g, x) :: putD f d r
section
variable {K : PySem.W.Frag} {T : Tb} {F F' : AP1} {α α' : List Addr} {B : AP1} {os os' : List (List Addr)} {st st' : Sto} {σ : L2.St} {H H' : Hp}
theorem lookup_D {f : Str} : ∀ {fs : List (Str × D)} {vs : List V} {d : D}, DVs K α B H vs (fs.map (·.2)) → fs.lookup f = some d → ∃ v, ((fs.map (·.1)).zip vs).lookup f = some v ∧ DV K α B H v d
  | [], _, _, _, e => by cases e
  | (g, x) :: fs, _, d, .cons (v := v) (vs := vs) h t, e => by
    simp only [List.lookup_cons, List.map_cons, List.zip_cons_cons] at e ⊢
    cases q : f == g with
    | true => simp only [q] at e ⊢; cases e; exact ⟨_, rfl, h⟩
    | false => simp only [q] at e ⊢; exact lookup_D t e
theorem lookup_D0 {f : Str} : ∀ {fs : List (Str × D)} {vs : List V}, DVs K α B H vs (fs.map (·.2)) → fs.lookup f = none → ((fs.map (·.1)).zip vs).lookup f = none
  | [], _, _, _ => rfl
  | (g, x) :: fs, _, .cons (v := v) (vs := vs) h t, e => by
    simp only [List.lookup_cons, List.map_cons, List.zip_cons_cons] at e ⊢
    cases q : f == g with
    | true => simp only [q] at e; cases e
    | false => simp only [q] at e ⊢; exact lookup_D0 t e
theorem put_D {f : Str} {v : V} {d : D} (hv : DV K α B H v d) : ∀ {fs : List (Str × D)} {vs : List V}, DVs K α B H vs (fs.map (·.2)) →
    ∃ vs', putF f v ((fs.map (·.1)).zip vs) = ((putD f d fs).map (·.1)).zip vs' ∧ DVs K α B H vs' ((putD f d fs).map (·.2))
  | [], _, .nil => ⟨[v], rfl, .cons hv .nil⟩
  | (g, x) :: fs, _, .cons (v := y) (vs := vs) h t => by
    simp only [List.map_cons, List.zip_cons_cons, putF, putD]
    by_cases q : g = f
    · rw [if_pos q, if_pos q]; exact ⟨v :: vs, rfl, .cons hv t⟩
    · rw [if_neg q, if_neg q]
      obtain ⟨vs', e, k⟩ := put_D hv t
      exact ⟨y :: vs', by rw [e]; rfl, .cons h k⟩
/-- an operand that is an instance -/
theorem HdOk.ins {h : Hd} {v : V} {k c : Nat} {fs : List (Str × D)} (R0 : Rel K T F α os st σ H) (hk : HdOk K σ α (BB F α os) H h v) (e : h.at st = some (.obj k)) (q : st.S[k]? = some (.ins c fs)) :
    ∃ a dx vs, v = .ref a ∧ α[k]? = some a ∧ H a = some (.ins (T.ic c) dx ((fs.map (·.1)).zip vs)) ∧ DVs K α (BB F α os) H vs (fs.map (·.2)) := by
  have pv := hk.at R0 e
  cases pv with
  | dv p =>
    cases p with
    | obj ea =>
      obtain ⟨a, e1, dx, vs, e2, hd⟩ := R0.so.at' k _ q
      rw [ea] at e1
      cases e1
      exact ⟨_, dx, vs, rfl, ea, e2, hd⟩
theorem BB_al {k : Nat} {a : Addr} (e : α[k]? = some a) : BB F α os a := .inr (.inl (List.mem_of_getElem? e))
theorem nd_inj {l : List Addr} (nd : l.Nodup) {i j : Nat} {a : Addr} (h1 : l[i]? = some a) (h2 : l[j]? = some a) : i = j := by
  obtain ⟨p1, e1⟩ := List.getElem?_eq_some_iff.mp h1
  obtain ⟨p2, e2⟩ := List.getElem?_eq_some_iff.mp h2
  have pw := List.pairwise_iff_getElem.mp nd
  rcases Nat.lt_trichotomy i j with h | h | h
  · exact absurd (e1.trans e2.symm) (pw i j p1 p2 h)
  · exact h
  · exact absurd (e2.trans e1.symm) (pw j i p2 p1 h)
/-- an instance is changed -/
theorem Rel.setIns {k : Nat} {a : Addr} {i : Ins} {o : HO} (R0 : Rel K T F α os st σ H) (e : α[k]? = some a)
    (hi : ∀ (H' : Hp), Stp F α (BB F α os) H α (BB F α os) H' → H' a = some o → InsOk K T α (BB F α os) H' k i) :
    Stp F α (BB F α os) H α (BB F α os) (upd H a o) ∧ Rel K T F α os { st with S := st.S.set k i } σ (upd H a o) := by
  have am : a ∈ α := List.mem_of_getElem? e
  have nF : ¬ F a := fun z => R0.fr a z am
  have s : Stp F α (BB F α os) H α (BB F α os) (upd H a o) := stp_at (BB_al e) nF
  refine ⟨s, R0.sl.step s fun b m u q => ?_, R0.nd, R0.off, ⟨fun j ins q => ?_, by rw [List.length_set]; exact R0.so.len, R0.so.nd⟩, R0.fr, fun b z => ?_⟩
  · rw [upd_ne (fun z => (R0.off b m).2 (by rw [z]; exact am))]; exact q
  · by_cases hj : j = k
    · subst hj
      rw [List.getElem?_set] at q
      split at q
      · split at q
        · cases q; exact hi _ s upd_same
        · cases q
      · rename_i n; exact absurd rfl n
    · rw [List.getElem?_set_ne (fun z => hj z.symm)] at q
      obtain ⟨b, e1, _⟩ := R0.so.at' j ins q
      have nb : b ≠ a := fun z => by
        subst z
        exact hj (nd_inj R0.so.nd e1 e)
      have h0 := R0.so.at' j ins q
      have z := h0.step (α' := α) (B' := BB F α os) (H' := H) (F := F) Stp.refl fun a _ u w => w
      obtain ⟨b', e1', hb⟩ := h0
      rw [e1] at e1'
      cases e1'
      refine ⟨b, e1, ?_⟩
      cases ins with
      | ins c fs => obtain ⟨dx, vs, e2, hd⟩ := hb; exact ⟨dx, vs, by rw [upd_ne nb]; exact e2, hd.step s⟩
      | lst xs => obtain ⟨vs, e2, hd⟩ := hb; exact ⟨vs, by rw [upd_ne nb]; exact e2, hd.step s⟩
      | dk ks xs => obtain ⟨vs, e2, hd, l⟩ := hb; exact ⟨vs, by rw [upd_ne nb]; exact e2, hd.step s, l⟩
      | dt ks xs => obtain ⟨vs, e2, hd, l⟩ := hb; exact ⟨vs, by rw [upd_ne nb]; exact e2, hd.step s, l⟩
  · by_cases q : b = a
    · exact absurd z (by rw [q]; exact nF)
    · rw [upd_ne q]; exact R0.has b z
/-- an instance is made -/
theorem Rel.mkIns {x dx : Addr} {c : Nat} (R0 : Rel K T F α os st σ H) (nx : H x = none) (nd : H dx = none) (ne : dx ≠ x) :
    Stp F α (BB F α os) H (α ++ [x]) (BB F (α ++ [x]) os) (upd (upd H dx (.own x)) x (.ins (T.ic c) dx [])) ∧
    Rel K T F (α ++ [x]) os { st with S := st.S ++ [.ins c []] } σ (upd (upd H dx (.own x)) x (.ins (T.ic c) dx [])) ∧ (α ++ [x])[st.S.length]? = some x := by
  have kp : ∀ b u, H b = some u → upd (upd H dx (.own x)) x (.ins (T.ic c) dx []) b = some u := fun b u q => by
    rw [upd_ne (ne_of_none q nx), upd_ne (ne_of_none q nd)]; exact q
  have s : Stp F α (BB F α os) H (α ++ [x]) (BB F (α ++ [x]) os) (upd (upd H dx (.own x)) x (.ins (T.ic c) dx [])) := by
    refine ⟨fun k a e => ?_, fun a o e n => ⟨kp a o e, fun z => ?_⟩, fun a o _ e => kp a o e⟩
    · rw [List.getElem?_append_left (List.getElem?_eq_some_iff.mp e).1]; exact e
    · rcases z with z | z | z
      · exact n (.inl z)
      · rcases List.mem_append.mp z with z | z
        · exact n (.inr (.inl z))
        · rw [List.mem_singleton.mp z, nx] at e; cases e
      · exact n (.inr (.inr z))
  have el : (α ++ [x])[st.S.length]? = some x := by
    rw [← R0.so.len, List.getElem?_append_right (Nat.le_refl _), Nat.sub_self]; rfl
  have nal : x ∉ α := fun m => R0.so.there x m nx
  have nF : ¬ F x := fun z => R0.has x z nx
  have nos : x ∉ os.flatten := fun m => R0.sl.there x m nx
  refine ⟨s, ⟨R0.sl.step s fun a _ u e => kp a u e, R0.nd, fun a m => ⟨(R0.off a m).1, fun z => ?_⟩, ⟨fun k i e => ?_, by simp [R0.so.len], ?_⟩, fun a z m => ?_, fun a z => ?_⟩, el⟩
  · rcases List.mem_append.mp z with z | z
    · exact (R0.off a m).2 z
    · rw [List.mem_singleton.mp z] at m; exact nos m
  · by_cases hk : k < st.S.length
    · rw [List.getElem?_append_left hk] at e
      exact (R0.so.at' k i e).step s fun a _ u q => kp a u q
    · rw [List.getElem?_append_right (by omega)] at e
      have : k - st.S.length = 0 := by
        cases q : k - st.S.length with
        | zero => rfl
        | succ n => rw [q] at e; simp at e
      rw [this] at e
      have e' : Ins.ins c [] = i := by simpa using e
      subst e'
      have ek : k = st.S.length := by omega
      subst ek
      exact ⟨x, el, dx, [], by rw [upd_same]; rfl, .nil⟩
  · exact List.nodup_append.mpr ⟨R0.so.nd, by simp, fun a ha b hb e => nal (by rw [List.mem_singleton.mp hb] at e; rw [← e]; exact ha)⟩
  · rcases List.mem_append.mp m with m | m
    · exact R0.fr a z m
    · rw [List.mem_singleton.mp m] at z; exact nF z
  · cases e : H a with
    | none => exact absurd e (R0.has a z)
    | some u => rw [kp a u e]; exact fun q => nomatch q
end

/-! ### o.f -/
inductive Att where
  | fld | prop (cf : CF) | no
def AttOk (X : Cx) (T : Tb) (f : Str) (c : Nat) : Att → Prop
  | .fld => Cls X.K (T.ic c) ∧ NoAttr X.K (T.ic c) f
  | .prop cf => Cls X.K (T.ic c) ∧ ∃ p g fd ps k, PropOf X.K (T.ic c) f p g ∧ FnOk X.prog X.w X.K X.mg X.base (L2.CX X.prog X.w) k g fd ps (spD X.K T cf) ∧ Binds X.K fd ps [] ∧ Room (k + 1) X.A
  | .no => True
def insAt (st : Sto) (d : Option D) : Option (Nat × Nat × List (Str × D)) := match d with
  | some (.obj k) => (match st.S[k]? with
    | some (.ins c fs) => some (k, c, fs)
    | _ => none)
  | _ => none
theorem insAt_eq {st : Sto} {d : Option D} {k c : Nat} {fs : List (Str × D)} (h : insAt st d = some (k, c, fs)) : d = some (.obj k) ∧ st.S[k]? = some (.ins c fs) := by
  unfold insAt at h
  split at h
  · split at h
    · rename_i q; cases h; exact ⟨rfl, q⟩
    · cases h
  · cases h
def mAtt (att : Nat → Att) (f : Str) (m : MH) : MV := fun st => (m st).bnd fun h st1 => match insAt st1 (h.at st1) with
  | some (k, c, fs) => (match att c with
    | .fld => (match fs.lookup f with
      | some d => .ok (.va d) st1
      | none => .no)
    | .prop cf => (mCallAt cf [.obj k] st1).ne
    | .no => .no)
  | none => .no
section
variable {X : Cx} {T : Tb} {E : EX} {e o c : Expr} {es : List Expr} {f m : Str} {pos pos' apos p : Pos} {mo : MH} {mv : MV} {ms : MA}
theorem CX_none {P : Program} {w : World} {out : List Env} {H : Hp} {s : Shared} {E : XK} {u : Value} {s' : Shared} (hE : ∀ c d H, ¬ E c d H) (h : L2.CX P w out H s E u s') : False := by
  obtain ⟨_, _, _, _, _, _, _, _, _, _, _, _, z⟩ := h
  exact hE _ _ _ z
theorem post_ne {β γ : Type} {K : PySem.W.Frag} {F : AP1} {α : List Addr} {os : List (List Addr)} {σ : L2.St} {H : Hp} {RR : List Addr → AP1 → Hp → β → γ → List Addr → Prop} {x : R β} {Q : γ → Hp → Prop}
    (P : Post K T F α os σ H E RR x.ne Q) : Post K T F α os σ H E0 RR x Q := by
  cases x with
  | ok r st => exact P
  | er c st => exact P.elim
  | no => exact P.elim
theorem getprop_ok' {k : Nat} {C p g a dx : Addr} {fs : List (Str × V)} {f : Str} {fd : FuncData} {ps : List Str} {sp : Sp} {E : XK} {pins : List (Addr × Obj)} {σ : L2.St} {H : Hp} {s : Shared} {Q : VK} {b : Bool} {E' : Value → Shared → Prop} (hE : ∀ c d H, ¬ E c d H) (I : Inv X pins σ H s) (ea : H a = some (.ins C dx fs)) (c : Cls X.K C) (hp : PropOf X.K C f p g)
    (F : FnOk X.prog X.w X.K X.mg X.base (L2.CX X.prog X.w) k g fd ps sp) (hr : Room (k + 1) X.A) (hb : Binds X.K fd ps []) (h : sp [.ref a] H Q E) :
    wpAny (model X.prog X.w) X.A (getAttr (.ref a) f b) (EP X pins σ Q) E' s :=
  getprop_ok (dvs := []) (ds := []) I ea c hp F hr hb .nil (fun _ _ _ _ _ _ _ h => (CX_none hE h).elim) h
theorem sd_att {att : Nat → Att} (ho : SdH X T E e mo) (hc : ∀ c, AttOk X T f c (att c)) (hb : attributeBase e f X.env (eval e X.env) = eval e X.env := by rfl) : SdV X T E (.Attribute e f pos) (mAtt att f mo) := by
  refine ⟨fun F α os st σ H Q R0 P pins s I => ?_⟩
  refine attr_of hb (thn (pe_sem.run pins s σ H (fun v H1 => ∃ α1 os1 st1 h, Rel X.K T F α1 os1 st1 σ H1 ∧ HdOk X.K σ α1 (BB F α1 os1) H1 h v ∧ Post X.K T F α1 os1 σ H1 E (RV X.K) (match insAt st1 (h.at st1) with
    | some (k, c, fs) => (match att c with
      | .fld => (match fs.lookup f with
        | some d => .ok (.va d) st1
        | none => .no)
      | .prop cf => (mCallAt cf [.obj k] st1).ne
      | .no => .no)
    | none => .no) Q) I ?_) ?_)
  · refine ho.run F α os st σ H _ R0 (P.bnd fun h st1 α1 os1 H1 P1 v nf s1 R1 hv e1 P => ?_)
    obtain ⟨rfl, k1⟩ := hv
    rw [FP_nil] at s1 R1 k1
    exact ⟨α1, os1, st1, h, R1, k1, P.later s1⟩
  · rintro u s1 ⟨v, H1, I1, rv, α1, os1, st1, h, R1, k1, P⟩
    cases q : insAt st1 (h.at st1) with
    | none => simp only [q] at P; exact P.elim
    | some z =>
      obtain ⟨k, c, fs⟩ := z
      simp only [q] at P
      obtain ⟨q1, q2⟩ := insAt_eq q
      obtain ⟨a, dx, vs, rfl, ea, e2, hd⟩ := k1.ins R1 q1 q2
      obtain rfl : u = Value.ref a := rv
      have hcc := hc c
      cases qa : att c with
      | no => simp only [qa] at P; exact P.elim
      | fld =>
        simp only [qa] at P hcc
        cases ql : fs.lookup f with
        | none => simp only [ql] at P; exact P.elim
        | some d =>
          simp only [ql] at P
          obtain ⟨v, el, hv⟩ := lookup_D hd ql
          exact getattr_ok I1 e2 hcc.1 hcc.2 el fun u' s2 I2 ru => ⟨v, H1, I2, ru, P.done0 Stp.refl R1 ⟨⟨rfl, v, rfl, hv⟩, nofun⟩⟩
      | prop cf =>
        simp only [qa] at P hcc
        obtain ⟨cl, p, g, fd, ps, kk, po, Fn, bi, hr⟩ := hcc
        refine getprop_ok' (E := WE (XW T E0) σ) (fun c d H z => ?_) I1 e2 cl po Fn hr bi (call_post R1 (.cons (.obj ea) .nil) (post_ne P))
        obtain ⟨_, _, _, z⟩ := z
        exact z

/-! ### o.f = e -/
inductive AttS where
  | fld | prop (cf : CF) | no
def AttSOk (X : Cx) (T : Tb) (E : EX) (f : Str) (c : Nat) : AttS → Prop
  | .fld => Cls X.K (T.ic c) ∧ NoAttr X.K (T.ic c) f
  | .prop cf => Cls X.K (T.ic c) ∧ ∃ p g u rest k, PySem.W.takerIn X.K (T.ic c) f = some (some (.ref p)) ∧ PySem.W.typeIn X.K (.ref p) = some (.type "property") ∧ PySem.W.recIn X.K p "property" = some (u :: .ref g :: rest) ∧
      FnR X.prog X.w X.K X.mg X.base (L2.CX X.prog X.w) k g (spD X.K T cf) ∧ Room (k + 2) X.A
  | .no => True
def mSetAtt (att : Nat → AttS) (f : Str) (m : MV) (mo : MH) : MS := fun st => (m st).o fun r st1 => (mo st1).o fun h st2 => match insAt st2 (h.at st2) with
  | some (k, c, fs) => (match att c with
    | .fld => if fs.length < 1000 then .nx { st2 with S := st2.S.set k (.ins c (putD f r.d fs)) } else .no
    | .prop cf => (mCallAt cf [.obj k, r.d] st2).o fun _ st3 => .nx st3
    | .no => .no)
  | none => .no
theorem setprop_ok {k : Nat} {C p g a dx : Addr} {u0 : Value} {rest : List Value} {fs : List (Str × V)} {f : Str} {sp : Sp} {E : XK} {pins : List (Addr × Obj)} {σ : L2.St} {H : Hp} {s : Shared} {Q : VK} {y : V} {u : Value} (I : Inv X pins σ H s) (ea : H a = some (.ins C dx fs)) (c : Cls X.K C)
    (ht : PySem.W.takerIn X.K C f = some (some (.ref p))) (hT : PySem.W.typeIn X.K (.ref p) = some (.type "property")) (hr : PySem.W.recIn X.K p "property" = some (u0 :: .ref g :: rest))
    (F : FnR X.prog X.w X.K X.mg X.base (L2.CX X.prog X.w) k g sp) (ro : Room (k + 2) X.A) (hx : PassesAt (L2.CX X.prog X.w) X σ E) (ry : RelV y u) (h : sp [.ref a, y] H Q E) :
    wpAny (model X.prog X.w) X.A (setAttr (.ref a) f u) (fun _ s' => ∃ v H', Inv X pins σ H' s' ∧ Q v H') X.xe s := by
  obtain ⟨mA, O, _, _, _, _⟩ := ins_get I.hok ea
  obtain ⟨od, J, _⟩ := O.look
  have I1 := I.tok (s.toks + 1)
  refine PySem.W.set_plain I.kIn J c.sa (PySem.W.osa_descr (s := { s with toks := s.toks + 1 }) PySem.W.KF.slot_pset I1.kIn J c.po ht hT (PySem.W.prop_set (s := { s with toks := s.toks + 1 }) I1.kIn hr ?_))
  refine codeAny_mono (F X.A.in1.in1 X.stack { s with toks := s.toks + 1 } H [.ref a, u] [.ref a, y] Q E ro.in1.in1 I1.env0.in1.in1 (.cons rfl (.cons ry .nil)) h) fun r s' hq => ?_
  cases r with
  | error er => exact hx pins H { s with toks := s.toks + 1 } er s' I1 hq
  | ok fl =>
    cases fl with
    | ret u =>
      obtain ⟨v, H', I3, rv, q3⟩ := I1.after hq
      exact ⟨v, H', I3, q3⟩
    | next => exact False.elim hq
    | brk => exact False.elim hq
    | cont => exact False.elim hq
theorem ss_setAtt {att : Nat → AttS} (hv : SdV X T E e mv) (ho : SdH X T E o mo) (tk : Takes X (XW T E)) (hc : ∀ c, AttSOk X T E f c (att c)) (hs : swapsWith e (some (.Attribute o f pos')) pos.line X.env = pure false := by rfl) :
    SdS X T E (.Assign [.Attribute o f pos'] e pos) (mSetAtt att f mv mo) := by
  refine ⟨fun F α os st σ H D R0 P pins s I => ?_⟩
  refine plainObj_wpAny_Assign_Attribute (thn (pe_sem.run pins s σ H (fun v H1 => ∃ r : Sl, ∃ α1 os1 st1, Rel X.K T F α1 os1 st1 σ H1 ∧ DV X.K α1 (BB F α1 os1) H1 v r.d ∧ PostS X.K T F α1 os1 H1 E ((mo st1).o fun h st2 => match insAt st2 (h.at st2) with
    | some (k, c, fs) => (match att c with
      | .fld => if fs.length < 1000 then .nx { st2 with S := st2.S.set k (.ins c (putD f r.d fs)) } else .no
      | .prop cf => (mCallAt cf [.obj k, r.d] st2).o fun _ st3 => .nx st3
      | .no => .no)
    | none => .no) D) I ?_) fun u s1 ⟨y, H1, I1, ry, r, α1, os1, st1, R1, hd, P⟩ => thn (pe_sem.run pins s1 σ H1 (fun v H2 => ∃ α2 os2 st2 h, Rel X.K T F α2 os2 st2 σ H2 ∧ Stp F α1 (BB F α1 os1) H1 α2 (BB F α2 os2) H2 ∧ HdOk X.K σ α2 (BB F α2 os2) H2 h v ∧ PostS X.K T F α2 os2 H2 E (match insAt st2 (h.at st2) with
    | some (k, c, fs) => (match att c with
      | .fld => if fs.length < 1000 then .nx { st2 with S := st2.S.set k (.ins c (putD f r.d fs)) } else .no
      | .prop cf => (mCallAt cf [.obj k, r.d] st2).o fun _ st3 => .nx st3
      | .no => .no)
    | none => .no) D) I1 ?_) ?_) hs
  · refine hv.run F α os st σ H _ R0 (P.bnd fun r st1 α1 os1 H1 P1 v nf s1 R1 hv e1 P => ?_)
    have hd := rv_frz nf R1 hv
    exact ⟨r, α1, os1, st1, R1.drop, hd, P.later (stp_drop s1)⟩
  · refine ho.run F α1 os1 st1 σ H1 _ R1 (P.bnd fun h st2 α2 os2 H2 P1 v nf s1 R2 hv e1 P => ?_)
    obtain ⟨rfl, k1⟩ := hv
    rw [FP_nil] at s1 R2 k1
    exact ⟨α2, os2, st2, h, R2, s1, k1, P.later s1⟩
  · rintro ov s2 ⟨v, H2, I2, rv, α2, os2, st2, h, R2, s12, k1, P⟩
    have hd := hd.step s12
    cases q : insAt st2 (h.at st2) with
    | none => simp only [q] at P; exact P.elim
    | some z =>
      obtain ⟨k, c, fs⟩ := z
      simp only [q] at P
      obtain ⟨q1, q2⟩ := insAt_eq q
      obtain ⟨a, dx, vs, rfl, ea, e2, hds⟩ := k1.ins R2 q1 q2
      obtain rfl : ov = Value.ref a := rv
      have hcc := hc c
      cases qa : att c with
      | no => simp only [qa] at P; exact P.elim
      | fld =>
        simp only [qa] at P hcc
        split at P
        · rename_i hl
          have hl2 : (((fs.map (·.1)).zip vs)).length < 1000 := by
            rw [List.length_zip]; simp only [List.length_map]; omega
          obtain ⟨vs', e3, hd3⟩ := put_D (f := f) hd hds
          refine setattr_ok I2 e2 hcc.1 hcc.2 hl2 ry fun s3 I3 => ⟨σ, _, I3, ?_⟩
          rw [e3]
          obtain ⟨s3, R3⟩ := R2.setIns (i := .ins c (putD f r.d fs)) (o := .ins (T.ic c) dx (((putD f r.d fs).map (·.1)).zip vs')) ea fun H' s' e' => ⟨a, ea, dx, vs', e', hd3.step s'⟩
          exact P.nx0 s3 R3
        · exact P.elim
      | prop cf =>
        simp only [qa] at P hcc
        obtain ⟨cl, p, g, u0, rest, kk, ht, hT, hr, Fn, ro⟩ := hcc
        refine wpAny_mono (setprop_ok (E := WE (XW T E) σ) (Q := fun _ H' => D.nx σ H') I2 e2 cl ht hT hr Fn ro (passAt tk σ) ry (call_post R2 (.cons (.obj ea) (.cons hd .nil)) (P.bnd fun r st3 α3 os3 H3 P3 v nf s3 R3 hv e3 P => ?_))) (fun _ s' ⟨v, H', I', z⟩ => ⟨σ, H', I', z⟩) fun _ _ z => z
        exact P.nx0 (stp_drop s3) R3.drop
end
end Mi

namespace Mi
open PySem PySem.Spec PyProof.Rows L2

section
variable {X : Cx} {T : Tb} {E : EX} {e o c : Expr} {es : List Expr} {f m : Str} {pos pos' apos p pc : Pos} {mo mh : MH} {mv : MV} {ms : MA}
/-! ### o.m(..) -/
def MetOk (X : Cx) (T : Tb) (E : EX) (m : Str) (c : Nat) : Option CF → Prop
  | some cf => Cls X.K (T.ic c) ∧ ∃ f, Meth X.K (T.ic c) m f ∧ CalV X T E (.ref f) cf
  | none => True
def mMeth (g : Nat → Option CF) (m : Str) (mo : MH) (ms : MA) : MV := fun st => (mo st).bnd fun h st1 => match insAt st1 (h.at st1) with
  | some (k, c, fs) => (match g c, fs.lookup m with
    | some cf, none => (ms st1).bnd fun ds st2 => mCallAt cf (.obj k :: ds) st2
    | _, _ => .no)
  | none => .no
def mAnil0 : MA := fun st => .ok [] st
/-- the receiver of a method call -/
theorem meth_at {pl : Sem Bool} {g : Nat → Option CF} {F : AP1} {α : List Addr} {os : List (List Addr)} {st : Sto} {σ : L2.St} {H : Hp} {Q : VK} {Q' : Value × List Value → Shared → Prop} {pins : List (Addr × Obj)} {s : Shared} {args : MA}
    (ho : SdH X T E o mo) (hc : ∀ c, MetOk X T E m c (g c)) (R0 : Rel X.K T F α os st σ H) (P : Post X.K T F α os σ H E (RV X.K) (mMeth g m mo args st) Q) (I : Inv X pins σ H s)
    (h : ∀ f a cf k α1 os1 st1 H1 s1, Inv X pins σ H1 s1 → Rel X.K T F α1 os1 st1 σ H1 → α1[k]? = some a → PySem.W.keepIn X.K (.ref f) = true → CalV X T E (.ref f) cf → Post X.K T F α1 os1 σ H1 E (RV X.K) ((args st1).bnd fun ds st2 => mCallAt cf (.obj k :: ds) st2) Q → Q' (.ref f, [.ref a]) s1) :
    wpAny (model X.prog X.w) X.A (eval o X.env) (fun ov s1 => wpAny (model X.prog X.w) X.A (getMethod ov m pl) Q' X.xe s1) X.xe s := by
  refine thn (pe_sem.run pins s σ H (fun v H1 => ∃ α1 os1 st1 h, Rel X.K T F α1 os1 st1 σ H1 ∧ HdOk X.K σ α1 (BB F α1 os1) H1 h v ∧ Post X.K T F α1 os1 σ H1 E (RV X.K) (match insAt st1 (h.at st1) with
    | some (k, c, fs) => (match g c, fs.lookup m with
      | some cf, none => (args st1).bnd fun ds st2 => mCallAt cf (.obj k :: ds) st2
      | _, _ => .no)
    | none => .no) Q) I ?_) ?_
  · refine ho.run F α os st σ H _ R0 (P.bnd fun h st1 α1 os1 H1 P1 v nf s1 R1 hv e1 P => ?_)
    obtain ⟨rfl, k1⟩ := hv
    rw [FP_nil] at s1 R1 k1
    exact ⟨α1, os1, st1, h, R1, k1, P.later s1⟩
  · rintro u s1 ⟨v, H1, I1, rv, α1, os1, st1, hd, R1, k1, P⟩
    cases q : insAt st1 (hd.at st1) with
    | none => simp only [q] at P; exact P.elim
    | some z =>
      obtain ⟨k, c, fs⟩ := z
      simp only [q] at P
      obtain ⟨q1, q2⟩ := insAt_eq q
      obtain ⟨a, dx, vs, rfl, ea, e2, hds⟩ := k1.ins R1 q1 q2
      obtain rfl : u = Value.ref a := rv
      have hcc := hc c
      cases qa : g c with
      | none => simp only [qa] at P; exact P.elim
      | some cf =>
        simp only [qa] at P hcc
        obtain ⟨cl, f, hm, cv⟩ := hcc
        cases ql : fs.lookup m with
        | some d => simp only [ql] at P; exact P.elim
        | none =>
          simp only [ql] at P
          exact getmeth_ok I1 e2 cl hm (lookup_D0 hds ql) (h f a cf k α1 os1 st1 H1 s1 I1 R1 ea hm.kp cv P)
theorem sd_meth {pl : Sem Bool} {g : Nat → Option CF} (ho : SdH X T E o mo) (ha : SdA X T E (e :: es) ms) (hc : ∀ c, MetOk X T E m c (g c))
    (hst : starEach (e :: es) X.env = (false, eval e X.env) :: starEach es X.env := by rfl) (hpl : (backTo pos (starEach es X.env)).any (·.1) = false := by rfl)
    (ht : eval (.Call (.Attribute o m apos) (e :: es) [] pos) X.env = (do
      let ov ← eval o X.env
      standAt apos.atName
      let (f, first) ← holding [ov] (getMethod ov m pl)
      callWith pos f first (backTo pos (starEach (e :: es) X.env)) (backToKw pos (keywordEach [] X.env))) := by rfl) :
    SdV X T E (.Call (.Attribute o m apos) (e :: es) [] pos) (mMeth g m mo ms) := by
  refine ⟨fun F α os st σ H Q R0 P pins s I => ?_⟩
  refine PySem.W.methodCall_KW (pl := pl) (meth_at (pl := pl) ho hc R0 P I fun f a cf k α1 os1 st1 H1 s1 I1 R1 ea kp cv P => ?_) ht
  refine PySem.W.callWith_K (first := [.ref a]) (h₀ := X.base) I.ok.mod.kin kp (thn (pa_sem.run pos pins s1 σ H1 (fun vs H2 => spD X.K T cf (.ref a :: vs) H2 Q (WE (XW T E) σ)) I1 ?_) fun us s2 ⟨vs, H2, I2, r, q⟩ => ⟨I2.kIn, cv.run pins s2 σ H2 (.ref a :: us) (.ref a :: vs) Q I2 (.cons rfl r) q⟩) hst hpl
  refine ha.run F α1 os1 st1 σ H1 _ R1 (P.bnd fun ds st2 α2 os2 H2 P2 vs nf s2 R2 hv e2 P => ?_)
  obtain ⟨rfl, k2⟩ := hv
  rw [FP_nil] at s2 R2 k2
  exact call_post R2 (.cons (.obj (s2.al _ _ ea)) k2) (P.later s2)
theorem sd_meth0 {pl : Sem Bool} {g : Nat → Option CF} (ho : SdH X T E o mo) (hc : ∀ c, MetOk X T E m c (g c))
    (ht : eval (.Call (.Attribute o m apos) [] [] pos) X.env = (do
      let ov ← eval o X.env
      standAt apos.atName
      let (f, first) ← holding [ov] (getMethod ov m pl)
      callWith pos f first (backTo pos (starEach [] X.env)) (backToKw pos (keywordEach [] X.env))) := by rfl) :
    SdV X T E (.Call (.Attribute o m apos) [] [] pos) (mMeth g m mo mAnil0) := by
  refine ⟨fun F α os st σ H Q R0 P pins s I => ?_⟩
  refine PySem.W.methodCall_KW (pl := pl) (meth_at (pl := pl) ho hc R0 P I fun f a cf k α1 os1 st1 H1 s1 I1 R1 ea kp cv P => ?_) ht
  exact PySem.W.callWith_K0 (first := [.ref a]) I1.kIn kp (cv.run pins s1 σ H1 [.ref a] [.ref a] Q I1 (.cons rfl .nil) (call_post R1 (.cons (.obj ea) .nil) P))

/-! ### C(..) -/
def cfMake (c : Nat) (cf : CF) : CF := fun ds S => match cf (.obj S.length :: ds) (S ++ [.ins c []]) with
  | .ok (.va .non) st' => .ok (.va (.obj S.length)) st'
  | .ok _ _ => .no
  | .er k st' => .er k st'
  | .no => .no
theorem run_makeS {CX : CXT} {k : Nat} {C f : Addr} {sp : Sp} {E : L2.St → XK} {pins : List (Addr × Obj)} {σ : L2.St} {H : Hp} {s : Shared} {Q : VK} {us : List Value} {vs : List V} (M : Mk X.K C f) (F : FnR X.prog X.w X.K X.mg X.base CX k f sp) (hr : Room (k + 1) X.A) (hx : PassesAt CX X σ (E σ)) (I : Inv X pins σ H s) (r : Vals vs us)
    (h : ∀ x dx, H x = none → H dx = none → dx ≠ x → sp (V.ref x :: vs) (upd (upd H dx (.own x)) x (.ins C dx [])) (fun v H2 => v = .non ∧ Q (.ref x) H2) (E σ)) :
    wpAny (model X.prog X.w) X.A (call (.ref C) us) (EP X pins σ Q) X.xe s := by
  have hq := h (s.heap.objs.size + 1) s.heap.objs.size (I.hok.fresh (Nat.le_succ _)) (I.hok.fresh (Nat.le_refl _)) (Nat.ne_of_lt (Nat.lt_succ_self _))
  have I2 := Inv.made (C := C) I
  have r2 : Vals (V.ref (s.heap.objs.size + 1) :: vs) (Value.ref (s.heap.objs.size + 1) :: us) := .cons rfl r
  refine wpAny_call (make_map (f := f) I.kIn M.makes M.init (beq_iff_eq.mp M.fn) (codeAny_mono (F _ X.stack _ _ (Value.ref (s.heap.objs.size + 1) :: us) _ _ (E σ) (hr.make C us []) (I2.env0.make C us []) r2 hq) fun r s' hq' => ?_))
  cases r with
  | error e => exact hx pins _ _ e s' I2 hq'
  | ok fl =>
    cases fl with
    | ret u =>
      obtain ⟨v, H', I3, rv, ev, q3⟩ := I2.after hq'
      subst ev
      exact ⟨rv, ⟨V.ref (s.heap.objs.size + 1), H', I3, rfl, q3⟩⟩
    | next => exact False.elim hq'
    | brk => exact False.elim hq'
    | cont => exact False.elim hq'
theorem calV_make {k c : Nat} {f : Addr} {cf : CF} (M : Mk X.K (T.ic c) f) (Fn : FnR X.prog X.w X.K X.mg X.base (L2.CX X.prog X.w) k f (spD X.K T cf)) (hr : Room (k + 1) X.A) (tk : Takes X (XW T E)) : CalV X T E (.ref (T.ic c)) (cfMake c cf) := by
  refine ⟨fun pins s σ H us vs Q I r h => run_makeS (E := WE (XW T E)) M Fn hr (passAt tk σ) I r fun x dx nx nd ne => ?_, M.kp⟩
  obtain ⟨F, α, S, ds, R0, hd, P⟩ := h
  obtain ⟨s1, R1, el⟩ := R0.mkIns (c := c) nx nd ne
  refine ⟨F, α ++ [x], S ++ [.ins c []], .obj S.length :: ds, R1, .cons (.obj el) (hd.step s1), ?_⟩
  unfold cfMake at P
  cases q : cf (.obj S.length :: ds) (S ++ [.ins c []]) with
  | ok r st' =>
    simp only [q] at P
    intro α' H' P1 v nf s2 R2 hv
    cases r with
    | va d =>
      cases d with
      | non =>
        obtain ⟨⟨rfl, v', e', hv⟩, _⟩ := hv
        cases e'
        cases hv
        exact ⟨rfl, P α' H' [] (.ref x) (fun a m => nomatch m) (s1.trans s2) R2 ⟨⟨rfl, _, rfl, .obj (s2.al _ _ el)⟩, nofun⟩⟩
      | _ => exact P.elim
    | _ => exact P.elim
  | er c' st' =>
    simp only [q] at P
    exact fun α' H' s2 R2 => P α' H' (s1.trans s2) R2
  | no => simp only [q] at P; exact P.elim

/-! ### isinstance -/
inductive Kd where
  | non | bl | int | str | tup | lst | dic | ins (c : Nat)
def kdOf (st : Sto) : D → Option Kd
  | .non => some .non
  | .bl _ => some .bl
  | .int _ => some .int
  | .str _ => some .str
  | .tup _ => some .tup
  | .lst _ => some .lst
  | .scr _ => some .lst
  | .dic _ _ => some .dic
  | .dic0 => some .dic
  | .obj k => match st.S[k]? with
    | some (.ins c _) => some (.ins c)
    | some (.lst _) => some .lst
    | some (.dk _ _) => some .dic
    | some (.dt _ _) => some .dic
    | none => none
def tyK (T : Tb) : Kd → Value
  | .non => .type "NoneType"
  | .bl => .type "bool"
  | .int => .type "int"
  | .str => .type "str"
  | .tup => .type "tuple"
  | .lst => .type "list"
  | .dic => .type "dict"
  | .ins c => .ref (T.ic c)
structure InsTy (K : PySem.W.Frag) (C : Addr) : Prop where
  cl : Cls K C
  ha : PySem.W.findIn K (.ref C) "__class__" = some (some (.builtin "object.__class__"))
  hn : PySem.W.specialIn K (.builtin "object.__class__") "__get__" = some (some (.builtin "getset_descriptor.__get__"))
  htk : PySem.W.takesIn K (.builtin "object.__class__") = some true
  hm : PySem.W.mroIn K C (.type "object") = some true
def IsiOk (X : Cx) (T : Tb) (u : Value) (ans : Kd → Option Bool) : Prop := ∀ kd b, ans kd = some b → PySem.W.kitOne X.K (tyK T kd) u = some b ∧ ∀ c, kd = .ins c → InsTy X.K (T.ic c)
def mIsi (ans : Kd → Option Bool) (m : MH) : MV := fun st => (m st).bnd fun h st1 => match (h.at st1).bind (kdOf st1) with
  | some kd => (match ans kd with
    | some b => .ok (.va (.bl b)) st1
    | none => .no)
  | none => .no
theorem tyX_of {F : AP1} {α : List Addr} {os : List (List Addr)} {st : Sto} {σ : L2.St} {H : Hp} {v : V} {d : D} {kd : Kd} (R0 : Rel X.K T F α os st σ H) (pv : PV X.K α (BB F α os) H v d) (e : kdOf st d = some kd) (hI : ∀ c, kd = .ins c → InsTy X.K (T.ic c)) :
    TyX X.K H v (tyK T kd) := by
  have seqT : ∀ {a : Addr} {xs : List V}, SqT X.K H a xs → TyX X.K H (.ref a) (.type "tuple") := fun {a xs} h => by
    rcases h with (h | ⟨o, h⟩) | ⟨o, its, n, h1, h2, _⟩
    · exact .base (.tup h)
    · exact .fTuple h
    · exact .kTuple h1 h2
  cases d with
  | non => cases e; cases pv.non; exact .base .non
  | bl b => cases e; cases pv.bl; exact .base (.bl b)
  | int i => cases e; cases pv.int; exact .base (.int i)
  | str x => cases e; cases pv.str; exact .base (.str x)
  | tup ds => cases e; obtain ⟨a, vs, rfl, sq, _⟩ := pv.tup; exact seqT sq
  | lst ds => cases e; obtain ⟨a, vs, rfl, sq, _⟩ := pv.lst; exact .base (.lst sq)
  | scr ns =>
    cases e
    obtain ⟨a, rfl, sq⟩ := pv.scr
    rcases sq with (h | ⟨o, h⟩) | ⟨o, its, n, h1, h2, _⟩
    · exact .base (.lst h)
    · exact .base (.frz h)
    · exact .kList h1 h2
  | dic k v => cases e; cases pv with | dv p => cases p with | dic n h => exact .base (.dK h)
  | dic0 => cases e; cases pv with | dv p => cases p with | dic0 n h => exact .base (.dK h)
  | obj k =>
    cases pv with
    | dv p =>
      cases p with
      | @obj a _ ea =>
      simp only [kdOf] at e
      cases q : st.S[k]? with
      | none => rw [q] at e; cases e
      | some i =>
        obtain ⟨a', e1, hi⟩ := R0.so.at' k i q
        rw [ea] at e1
        cases e1
        rw [q] at e
        cases i with
        | ins c fs =>
          cases e
          obtain ⟨dx, vs, e2, _⟩ := hi
          have z := hI c rfl
          exact .base (.ins e2 z.cl z.ha z.hn z.htk z.hm)
        | lst xs => cases e; obtain ⟨vs, e2, _⟩ := hi; exact .base (.lst e2)
        | dk ks xs => cases e; obtain ⟨vs, e2, _⟩ := hi; exact .base (.dK e2)
        | dt ks xs => cases e; obtain ⟨vs, e2, _⟩ := hi; exact .base (.dT e2)
theorem sd_isi {ans : Kd → Option Bool} {cv : V} {u : Value} {p : Pos} (hs : SdH X T E e mh) (ok : IsiOk X T u ans) (hcv : PE X c (tC cv)) (k : ClsV cv u) (hg : Gl X "isinstance") (hm : X.mg "isinstance" = none)
    (he : starEach [e, c] X.env = (false, eval e X.env) :: starEach [c] X.env := by rfl) (he2 : starEach [c] X.env = (false, eval c X.env) :: starEach [] X.env := by rfl) (hpl : (backTo pos (starEach [c] X.env)).any (·.1) = false := by rfl) :
    SdV X T E (.Call (.Name "isinstance" p) [e, c] [] pos) (mIsi ans mh) := by
  refine ⟨fun F α os st σ H Q R0 P => (pe_callB call_isi hg hm (by decide +kernel) (pa_cons (pe_sem (e := e)) (pa_cons hcv pa_nil he2) he) (by decide) (by decide) he hpl).sem ?_⟩
  refine hs.run F α os st σ H _ R0 (P.bnd fun h st1 α1 os1 H1 P1 v nf s1 R1 hv e1 P => ?_)
  obtain ⟨rfl, k1⟩ := hv
  rw [FP_nil] at s1 R1 k1
  cases q1 : h.at st1 with
  | none => simp only [q1, Option.bind_none] at P; exact P.elim
  | some d =>
    simp only [q1, Option.bind_some] at P
    cases q2 : kdOf st1 d with
    | none => simp only [q2] at P; exact P.elim
    | some kd =>
      simp only [q2] at P
      cases q3 : ans kd with
      | none => simp only [q3] at P; exact P.elim
      | some b =>
        simp only [q3] at P
        obtain ⟨z1, z2⟩ := ok kd b q3
        exact ⟨v, cv, tyK T kd, u, b, rfl, k, tyX_of R1 (k1.at R1 q1) q2 z2, z1, P.done0 s1 R1 ⟨⟨rfl, _, rfl, .bl b⟩, nofun⟩⟩

/-! ### C.f, a constant of the class; C.m(..), a class method -/
def mCon (d : D) : MV := fun st => .ok (.va d) st
theorem sd_ccon {C : Addr} {mc : Value} {u : Value} {v : V} {d : D} (hcv : PE X e (tC (.ref C))) (r : ClX.CRead X.K C mc) (k : ClX.CVal X.K C mc f v u) (hd : ∀ α B H, DV X.K α B H v d) (hb : attributeBase e f X.env (eval e X.env) = eval e X.env := by rfl) :
    SdV X T E (.Attribute e f pos) (mCon d) := by
  refine ⟨fun F α os st σ H Q R0 P => (ClX.pe_cval hcv hb).sem ⟨C, mc, v, u, rfl, r, k, ?_⟩⟩
  exact P.done0 Stp.refl R0 ⟨⟨rfl, v, rfl, hd _ _ _⟩, nofun⟩
/-- what the call of a class method's def does with the arguments behind the class -/
structure CalC (X : Cx) (T : Tb) (E : EX) (C g : Addr) (cf : CF) : Prop where
  run : ∀ (pins : List (Addr × Obj)) (s : Shared) (σ : L2.St) (H : Hp) (us : List Value) (vs : List V) (Q : VK), Inv X pins σ H s → Vals vs us → spD X.K T cf vs H Q (WE (XW T E) σ) →
    codeAny (model X.prog X.w) X.A (.call (.ref g) ⟨.ref C :: us, []⟩) (fun r s' => match r with | .ok (.ret v) => EP X pins σ Q v s' | .ok _ => False | .error e => X.xe e s') s
theorem sd_cmeth {pl : Sem Bool} {C pp g : Addr} {mc : Value} {cf : CF} (hcv : PE X o (tC (.ref C))) (r : ClX.CRead X.K C mc) (cm : ClX.CMet X.K C mc m pp g) (cc : CalC X T E C g cf) (ha : SdA X T E (e :: es) ms)
    (hst : starEach (e :: es) X.env = (false, eval e X.env) :: starEach es X.env := by rfl) (hpl : (backTo pos (starEach es X.env)).any (·.1) = false := by rfl)
    (ht : eval (.Call (.Attribute o m apos) (e :: es) [] pos) X.env = (do
      let ov ← eval o X.env
      standAt apos.atName
      let (f, first) ← holding [ov] (getMethod ov m pl)
      callWith pos f first (backTo pos (starEach (e :: es) X.env)) (backToKw pos (keywordEach [] X.env))) := by rfl) :
    SdV X T E (.Call (.Attribute o m apos) (e :: es) [] pos) (mCall cf ms) := by
  refine ⟨fun F α os st σ H Q R0 P pins s I => ?_⟩
  refine PySem.W.methodCall_KW (pl := pl) (thn (hcv.run pins s σ H (fun x H1 => x = .ref C ∧ H1 = H) I ⟨rfl, rfl⟩) fun u s1 ⟨x, H1, I1, rx, ex, eH⟩ => ?_) ht
  subst ex eH
  obtain rfl : u = Value.ref C := rx
  refine ClX.getmethcm_ok I1 r cm fun s2 I2 => ?_
  refine ClX.callwith_cm I2 (ClX.base_none I1 (Nat.le_refl _)) cm.fi (thn (pa_sem.run pos _ s2 σ _ (fun vs H2 => spD X.K T cf vs H2 Q (WE (XW T E) σ)) I2 ?_) fun us s3 ⟨vs, H2, I3, rv, q2⟩ => ⟨⟨ClX.pin_at I3, I3.kIn⟩, ?_⟩) hst hpl
  · refine ha.run F α os st σ _ _ R0 (P.bnd fun ds st1 α1 os1 H1 P1 vs nf s1 R1 hv e1 P => ?_)
    obtain ⟨rfl, k1⟩ := hv
    rw [FP_nil] at s1 R1 k1
    exact call_post R1 k1 (P.later s1)
  · exact thn (wpAny_call (PySem.W.method_call (ClX.pin_at I3) (cc.run _ s3 σ H2 us vs Q I3 rv q2))) fun _ _ y => ClX.unpinE y
end
end Mi

namespace Wr
open PySem PySem.Spec PyProof.Rows L2
/-! ## rows of labels of one length -/
def lenD : PyData → Nat
  | .tuple es => es.length
  | _ => 0
def alikeL : List PyData → Bool
  | [] => false
  | d :: ds => (d :: ds).all fun e => decide (lenD e = lenD d)
def sp_alike (CI CM : Addr) : Sp := fun vs H Q E => ∃ (a : Addr) (xs : List V) (ds : List PyData)
  (z : Prop) (B : Addr → Prop), vs = [.ref a] ∧ H a = some (.tup xs) ∧ DVs z B H xs ds ∧
  (ds.all isLabD = false → E (.ref CI) none H) ∧ (ds.all isLabD = true → alikeL ds = false → E (.ref CM) none H) ∧
  (ds.all isLabD = true → alikeL ds = true → Q .non H)
theorem DV.tupLen {z : Prop} {B : Addr → Prop} {H : Hp} {v : V} {d : PyData} (h : DV z B H v d) (e : isLabD d = true) :
    ∃ (a : Addr) (xs : List V), v = .ref a ∧ H a = some (.tup xs) ∧ xs.length = lenD d := by
  obtain ⟨ns, rfl, _⟩ := isLab_form e
  obtain ⟨a, xs, rfl, _, ea, hx⟩ := h.tupI
  exact ⟨a, xs, rfl, ea, hx.length⟩
section
variable {P : Program} {w : World} {K : PySem.W.Frag} {mg : Str → Option Value} {base : Heap}
theorem cx_calm {P : Program} {w : World} {outer : List Env} {H : Hp} {s : Shared} {e : Value} {s' : Shared}
    (h : L2.CX P w outer H s E0 e s') : False := by
  obtain ⟨a, B, H', cls, d, ea, fl, hok, ub, na, os, ag, he⟩ := h
  exact he.elim
/-- a def that may raise, called where it does not -/
theorem FnOk_calm {k : Nat} {f : Addr} {fd : FuncData} {ps : List Str} {sp : Sp}
    (F : FnOk P w K mg base (L2.CX P w) k f fd ps sp) :
    FnOk P w K mg base CX0 k f fd ps (fun vs H Q _ => sp vs H Q E0) :=
  ⟨fun vs H Q E h => F.len vs H Q E0 h, fun A outer s H args us vs Q E hr e0 hb r h =>
    codeAny_mono (F.run A outer s H args us vs Q E0 hr e0 hb r h) fun r s' hq => by
      cases r with
      | error e => exact (cx_calm hq).elim
      | ok fl => cases fl <;> exact hq⟩
theorem FnR_calm {k : Nat} {f : Addr} {sp : Sp}
    (F : FnR P w K mg base (L2.CX P w) k f sp) :
    FnR P w K mg base CX0 k f (fun vs H Q _ => sp vs H Q E0) :=
  fun A outer s H us vs Q E hr e0 r h =>
    codeAny_mono (F A outer s H us vs Q E0 hr e0 r h) fun r s' hq => by
      cases r with
      | error e => exact (cx_calm hq).elim
      | ok fl => cases fl <;> exact hq
end
section
variable {X : Cx} {CX : CXT} {k : Nat} {f : Addr} {sp : Sp} {E : XK} {x : Str} {e : Expr} {es : List Expr} {t : TA} {p pos : Pos}
/-- a def with *args called with plain arguments -/
theorem pe_callR (F : FnR X.prog X.w X.K X.mg X.base CX k f sp) (hr : Room k X.A) (hg : Gl X x) (hm : X.mg x = some (.ref f))
    (hk : PySem.W.keepIn X.K (.ref f) = true) (hx : Passes CX X E)
    (ha : PA X (e :: es) t) (hdb : (x == ("__debug__" : Str)) = false := by decide)
    (he : starEach (e :: es) X.env = (false, eval e X.env) :: starEach es X.env := by rfl)
    (hpl : (backTo pos (starEach es X.env)).any (·.1) = false := by rfl) :
    PE X (.Call (.Name x p) (e :: es) [] pos) (fun σ H Q => t σ H fun vs H1 => sp vs H1 Q E) := by
  refine ⟨fun pins s σ H Q I h => ?_⟩
  refine wpAny_Call_Name_kw (ld_glob I hg hm ?_ hdb)
  refine PySem.W.callWith_K (h₀ := X.base) I.ok.mod.kin hk (thn (ha.run pos pins s σ H _ I h) fun us s1 ⟨vs, H1, I1, r, q⟩ => ⟨I1.kIn, ?_⟩) he hpl
  exact wpAny_call (run_fnR F hr hx I1 r q)
end
/-! ## a dict that numbers its keys by first places -/
section
variable {α κ : Type} [DecidableEq α] [DecidableEq κ]
def tblF (f : α → κ) : Nat → List α → List (κ × V)
  | _, [] => []
  | n, x :: xs => (f x, .int (n : Int)) :: tblF f (n + 1) xs
theorem tblF_len (f : α → κ) : ∀ (n : Nat) (xs : List α), (tblF f n xs).length = xs.length
  | _, [] => rfl
  | n, x :: xs => by simp only [tblF, List.length_cons, tblF_len f (n + 1) xs]
theorem tblF_snoc (f : α → κ) (x : α) : ∀ (n : Nat) (xs : List α),
    tblF f n (xs ++ [x]) = tblF f n xs ++ [(f x, .int ((n + xs.length : Nat) : Int))]
  | n, [] => rfl
  | n, y :: xs => by
    rw [List.cons_append]
    simp only [tblF, tblF_snoc f x (n + 1) xs, List.cons_append, List.length_cons]
    rw [show n + 1 + xs.length = n + (xs.length + 1) by omega]
theorem tblF_val {f : α → κ} (hf : ∀ a b, f a = f b → a = b) (x : α) : ∀ (n : Nat) (xs : List α),
    valV (tblF f n xs) (f x) = if x ∈ xs then some (.int ((n + plc x xs : Nat) : Int)) else none
  | n, [] => by
    rw [if_neg (fun h => nomatch h)]
    rfl
  | n, y :: xs => by
    simp only [tblF, plc]
    by_cases e : y = x
    · subst e
      rw [valV_pos rfl, if_pos (List.mem_cons_self ..), if_pos rfl]
      rfl
    · rw [valV_neg (fun h => e (hf _ _ h)), tblF_val hf x (n + 1) xs, if_neg e]
      by_cases m : x ∈ xs
      · rw [if_pos m, if_pos (List.mem_cons_of_mem _ m), show n + 1 + plc x xs = n + (plc x xs + 1) by omega]
      · rw [if_neg m, if_neg (fun h => (List.mem_cons.mp h).elim (fun h => e h.symm) m)]
theorem tblF_put {f : α → κ} (hf : ∀ a b, f a = f b → a = b) {x : α} {n : Nat} {xs : List α} (h : x ∉ xs) :
    putK (tblF f n xs) (f x) (.int ((n + xs.length : Nat) : Int)) = tblF f n (xs ++ [x]) := by
  unfold putK
  rw [valV_any, tblF_val hf, if_neg h, tblF_snoc]
  rfl
end
def rowK (r : List Int) : List Key := r.map Sum.inl
theorem rowK_inj (a b : List Int) (h : rowK a = rowK b) : a = b := by
  have e : ∀ r : List Int, (rowK r).map kV = r.map V.int := fun r => by
    unfold rowK
    rw [List.map_map]
    rfl
  have h2 := congrArg (List.map kV) h
  rw [e, e] at h2
  exact (List.map_inj_right (fun x y h => V.int.inj h)).mp h2
theorem rowK_kV (r : List Int) : (rowK r).map kV = r.map V.int := by
  unfold rowK
  rw [List.map_map]
  rfl
/-- labels of rows that stand in a list -/
def sp_labT : Sp := fun vs H Q _ => ∃ (L : Addr) (bs : List Addr) (rows : List (List Int)), vs = [.ref L] ∧
  H L = some (.lst (bs.map V.ref)) ∧ rows.length = bs.length ∧ bs.length ≤ 1000 ∧
  (∀ (i : Nat) b r, bs[i]? = some b → rows[i]? = some r → H b = some (.tup (r.map V.int))) ∧
  ∀ (p : Addr) (H' : Hp), Same H H' → H p = none →
    H' p = some (.tup ((canL [] rows).map V.int)) → Q (.ref p) H'
theorem hu65 {A : Around} {k : Nat} (hr : Room k A) : A.units + 65 < cLine := by
  have := hr.un
  omega
def rowD (r : List Int) : PyData := .tuple (r.map PyData.int)
theorem rowD_eqv (a b : List Int) : PyData.eqv (rowD a) (rowD b) = decide (a = b) := eqv_ints a b
theorem rowD_any (k : List Int) : ∀ seen : List (List Int), ((seen.map rowD).any fun z => PyData.eqv z (rowD k)) = decide (k ∈ seen)
  | [] => by simp
  | y :: seen => by
    rw [List.map_cons, List.any_cons, rowD_any k seen, rowD_eqv]
    by_cases h : y = k
    · subst h; simp
    · rw [decide_eq_false h, Bool.false_or]
      by_cases m : k ∈ seen
      · rw [decide_eq_true m, decide_eq_true (List.mem_cons_of_mem _ m)]
      · rw [decide_eq_false m, decide_eq_false (fun z => (List.mem_cons.mp z).elim (fun e => h e.symm) m)]
theorem rowD_lay : ∀ seen : List (List Int), PyData.canLayAll0 (seen.map rowD) = true
  | [] => rfl
  | y :: seen => by
    rw [List.map_cons]
    simp only [PyData.canLayAll0, rowD_lay seen, rowD, PyData.canLay0, lay_ints, Bool.and_self]
theorem rowD_depth : ∀ seen : List (List Int), PyData.depthAll (seen.map rowD) ≤ 1
  | [] => Nat.zero_le _
  | y :: seen => by
    rw [List.map_cons]
    have h1 := rowD_depth seen
    have h2 : (rowD y).depth ≤ 1 := by
      simp only [rowD, PyData.depth, depth_ints]
      decide
    simp only [PyData.depthAll]
    omega
theorem rowD_shaped (seen : List (List Int)) : SeqAt.shaped (.list (seen.map rowD)) = true :=
  shaped_of (rowD_lay seen) (by
    have := rowD_depth seen
    simp only [PyData.depth]
    omega)
end Wr

namespace Mi
open PySem PySem.Spec PyProof.Rows L2

/-! ## a list of one's own becomes a thing that may change -/
def mPub (m : MV) : MV := fun st => (m st).bnd fun r st1 => match r with
  | .ow xs => .ok (.va (.obj st1.S.length)) { st1 with S := st1.S ++ [.lst xs] }
  | _ => .no
section
variable {X : Cx} {T : Tb} {E : EX} {K : PySem.W.Frag} {F F' : AP1} {α α' : List Addr} {os os' : List (List Addr)} {st st' : Sto} {σ : L2.St} {H H' : Hp} {Dn : Ends} {e o c : Expr} {es : List Expr} {pos p : Pos} {m : MV} {mo : MH} {mhs : MHs}
theorem BB_pub {a : Addr} : BB F (α ++ [a]) os = BB (FP F [a]) α os := by
  funext b
  simp only [BB, FP, List.mem_append, List.mem_singleton, eq_iff_iff]
  constructor
  · rintro (h | (h | h) | h)
    · exact .inl (.inl h)
    · exact .inr (.inl h)
    · exact .inl (.inr h)
    · exact .inr (.inr h)
  · rintro ((h | h) | h | h)
    · exact .inl h
    · exact .inr (.inl (.inr h))
    · exact .inr (.inl (.inl h))
    · exact .inr (.inr h)
theorem Rel.pub {a : Addr} {vs : List V} {xs : List D} (nf : ¬ F a) (R1 : Rel K T (FP F [a]) α os st σ H) (e : H a = some (.lst vs)) (hd : DVs K α (BB (FP F [a]) α os) H vs xs) :
    Stp F α (BB (FP F [a]) α os) H (α ++ [a]) (BB F (α ++ [a]) os) H ∧ Rel K T F (α ++ [a]) os { st with S := st.S ++ [.lst xs] } σ H ∧ (α ++ [a])[st.S.length]? = some a := by
  have al : ∀ (k : Nat) (b : Addr), α[k]? = some b → (α ++ [a])[k]? = some b := fun k b q => by
    rw [List.getElem?_append_left (List.getElem?_eq_some_iff.mp q).1]; exact q
  have s : Stp F α (BB (FP F [a]) α os) H (α ++ [a]) (BB F (α ++ [a]) os) H := by
    rw [BB_pub]; exact ⟨al, fun _ _ q n => ⟨q, n⟩, fun _ _ _ q => q⟩
  have el : (α ++ [a])[st.S.length]? = some a := by
    rw [← R1.so.len, List.getElem?_append_right (Nat.le_refl _), Nat.sub_self]; rfl
  have nal : a ∉ α := R1.fr a (.inr (List.mem_singleton.mpr rfl))
  refine ⟨s, ⟨R1.sl.step s fun _ _ _ q => q, R1.nd, fun b m => ⟨fun z => (R1.off b m).1 (.inl z), fun z => ?_⟩, ⟨fun k i q => ?_, by simp [R1.so.len], ?_⟩, fun b z m => ?_, fun b z => R1.has b (.inl z)⟩, el⟩
  · rcases List.mem_append.mp z with z | z
    · exact (R1.off b m).2 z
    · exact (R1.off b m).1 (.inr z)
  · by_cases hk : k < st.S.length
    · rw [List.getElem?_append_left hk] at q
      exact (R1.so.at' k i q).step s fun _ _ _ w => w
    · rw [List.getElem?_append_right (by omega)] at q
      have z : k - st.S.length = 0 := by
        cases w : k - st.S.length with
        | zero => rfl
        | succ n => rw [w] at q; simp at q
      rw [z] at q
      have q' : Ins.lst xs = i := by simpa using q
      subst q'
      have ek : k = st.S.length := by omega
      subst ek
      exact ⟨a, el, vs, e, hd.step s⟩
  · exact List.nodup_append.mpr ⟨R1.so.nd, by simp, fun b hb b' hb' q => nal (by rw [List.mem_singleton.mp hb'] at q; rw [← q]; exact hb)⟩
  · rcases List.mem_append.mp m with m | m
    · exact R1.fr b (.inl z) m
    · rw [List.mem_singleton.mp m] at z; exact nf z
theorem sd_pub (h : SdV X T E e m) : SdV X T E e (mPub m) := by
  refine ⟨fun F α os st σ H Q R0 P => h.run F α os st σ H _ R0 (P.bnd fun r st1 α1 os1 H1 P1 v nf s1 R1 hv e1 P => ?_)⟩
  cases r with
  | un => exact P.elim
  | va d => exact P.elim
  | ow xs =>
    obtain ⟨⟨a, vs, rfl, e', e3, hd⟩, _⟩ := hv
    cases e'
    obtain ⟨s2, R2, el⟩ := R1.pub (nf a (List.mem_singleton.mpr rfl)) e3 hd
    exact P.done0 (s1.trans s2) R2 ⟨⟨rfl, _, rfl, .obj el⟩, nofun⟩

/-! ## E.append(e): E is such a list -/
def numAt (h : Hd) (st : Sto) : Option Nat := match h with
  | .val (.obj k) => some k
  | .slot i => (match st.ρ[i]? with
    | some (.va (.obj k)) => some k
    | _ => none)
  | _ => none
def lstAt (st : Sto) (k : Nat) : Option (List D) := match st.S[k]? with
  | some (.lst xs) => some xs
  | _ => none
theorem lstAt_eq {k : Nat} {xs : List D} (h : lstAt st k = some xs) : st.S[k]? = some (.lst xs) := by
  unfold lstAt at h
  split at h
  · rename_i q; cases h; exact q
  · cases h
theorem HdOk.num {h : Hd} {v : V} {k : Nat} {B : AP1} (R0 : Rel K T F α os st σ H) (hk : HdOk K σ α (BB F α os) H h v) (e : numAt h st = some k) : ∃ a, v = .ref a ∧ α[k]? = some a := by
  unfold numAt at e
  split at e
  · cases e
    cases (show DV K α (BB F α os) H v (.obj _) from hk) with
    | obj ea => exact ⟨_, rfl, ea⟩
  · rename_i i
    split at e
    · rename_i q
      cases e
      obtain ⟨s, o, e1, _, hx⟩ := R0.sl.at q
      have hk' : σ[i]? = some (some v) := hk
      rw [hk'] at e1
      cases e1
      obtain ⟨_, v', e2, hd⟩ := hx
      cases e2
      cases hd with
      | obj ea => exact ⟨_, rfl, ea⟩
    · cases e
  · cases e
def mAppO (mo : MH) (m : MV) : MS := fun st => (mo st).o fun h st1 => match numAt h st1 with
  | none => .no
  | some k => match lstAt st1 k with
    | none => .no
    | some _ => (m st1).o fun r st2 => match lstAt st2 k with
      | some xs => if xs.length < LIM then .nx { st2 with S := st2.S.set k (.lst (xs ++ [r.d])) } else .no
      | none => .no
theorem ss_appO {ap cp : Pos} (ho : SdH X T E o mo) (h : SdV X T E e m)
    (hbase : attributeBase o ("append" : Str) X.env (eval o X.env) = eval o X.env := by rfl)
    (hfew : ((backTo cp (starEach [e] X.env)).all (fun x => !x.1) && (backToKw cp (keywordEach [] X.env)).all (fun x => x.1.isSome)
      && decide ([e].length + ([] : List Keyword).length + (if ([] : List Keyword).isEmpty then 0 else 1) < 30)) = true := by rfl)
    (hline : (ap.endLine == cp.line) = true := by rfl) (hst : starEach [e] X.env = (false, eval e X.env) :: starEach [] X.env := by rfl) (hplain : (backTo cp (starEach [] X.env)).any (·.1) = false := by rfl)
    (hs : swapsWith (.Call (.Attribute o ("append" : Str) ap) [e] [] cp) none pos.line X.env = pure false := by rfl) :
    SdS X T E (.Expr (.Call (.Attribute o ("append" : Str) ap) [e] [] cp) pos) (mAppO mo m) := by
  refine ⟨fun F α os st σ H D R0 P => (ps_expr (pe_bm PySem.F.plainAttrs_list PySem.F.slot_list_append PySem.F.type_list_append mt_append pe_sem (pa_cons pe_sem pa_nil hst) hbase hfew hline hst hplain) hs).sem ?_⟩
  refine ho.run F α os st σ H _ R0 (P.bnd fun hd st1 α1 os1 H1 P1 v nf s1 R1 hv e1 P => ?_)
  obtain ⟨rfl, k1⟩ := hv
  rw [FP_nil] at s1 R1 k1
  cases q : numAt hd st1 with
  | none => simp only [q] at P; exact P.elim
  | some k =>
    simp only [q] at P
    obtain ⟨a, rfl, ea⟩ := k1.num (B := BB F α1 os1) R1 q
    cases q1 : lstAt st1 k with
    | none => simp only [q1] at P; exact P.elim
    | some xs0 =>
      simp only [q1] at P
      obtain ⟨a', e1', vs0, e2, hd0⟩ := R1.so.at' k _ (lstAt_eq q1)
      rw [ea] at e1'
      cases e1'
      refine ⟨.inl ⟨rfl, _, .inl (.inl e2)⟩, ?_⟩
      refine h.run F α1 os1 st1 σ H1 _ R1 ((P.later s1).bnd fun r st2 α2 os2 H2 P2 w nf2 s2 R2 hw e2' P => ?_)
      have hr := rv_frz nf2 R2 hw
      have s2 := stp_drop s2
      have R2 := R2.drop
      cases q2 : lstAt st2 k with
      | none => simp only [q2] at P; exact P.elim
      | some xs =>
        simp only [q2] at P
        split at P
        · rename_i hl
          obtain ⟨a2, e1'', vs, e3, hds⟩ := R2.so.at' k _ (lstAt_eq q2)
          rw [s2.al _ _ ea] at e1''
          cases e1''
          obtain ⟨s3, R3⟩ := R2.setIns (i := .lst (xs ++ [r.d])) (o := .lst (vs ++ [w])) (s2.al _ _ ea) fun H' s' e' => ⟨a, s2.al _ _ ea, vs ++ [w], e', (hds.app (.cons hr .nil)).step s'⟩
          exact ⟨a, vs, w, rfl, rfl, e3, by rw [hds.length]; exact Nat.lt_of_lt_of_le hl lim_ok, P.nx0 (s2.trans s3) R3⟩
        · exact P.elim

/-! ## methods of built-in types that only look -/
structure MtD (X : Cx) (id : String) (g : D → List D → Option Sl) : Prop where
  ex : ∃ r, MtR X id r ∧ ∀ (α : List Addr) (B : AP1) (H : Hp) (x : V) (d : D) (vs : List V) (ds : List D) (res : Sl), PV X.K α B H x d → PVs X.K α B H vs ds → g d ds = some res → res ≠ .un →
    ∀ Q, Want X.K α B H res Q → r x vs H Q
/-- what type a value is of -/
def tyN : D → Option String
  | .str _ => some "str"
  | .lst _ => some "list"
  | .scr _ => some "list"
  | _ => none
def mMt (ty : String) (g : D → List D → Option Sl) (mo : MH) (ms : MHs) : MV := fun st => (mo st).bnd fun h st1 => match h.at st1 with
  | some d => if tyN d = some ty then ((ms st1).bnd fun hs st2 => match h.at st2, atAll hs st2 with
    | some d', some ds => opt (g d' ds) st2
    | _, _ => .no) else .no
  | none => .no
theorem tyV_of {B : AP1} {v : V} {d : D} {ty : String} (pv : PV K α B H v d) (e : tyN d = some ty) : tyV K ty v H := by
  cases d with
  | str x => cases e; cases pv.str; exact rfl
  | lst ds => cases e; obtain ⟨a, vs, rfl, sq, _⟩ := pv.lst; exact .inl ⟨rfl, _, .inl (.inl sq)⟩
  | scr ns => cases e; obtain ⟨a, rfl, sq⟩ := pv.scr; exact .inl ⟨rfl, _, sq⟩
  | _ => cases e
theorem sd_mt {ty id : String} {name : Str} {g : D → List D → Option Sl} {ap cp : Pos} (o1 : MtD X id g) (pa : PlainAttrs ty) (slot : Slot ty name id) (hty : typeOf (.builtin id) = pure (.type "method_descriptor")) (ho : SdH X T E o mo) (ha : SdHs X T E (e :: es) mhs)
    (hbase : attributeBase o name X.env (eval o X.env) = eval o X.env := by rfl)
    (hfew : ((backTo cp (starEach (e :: es) X.env)).all (fun x => !x.1) && (backToKw cp (keywordEach [] X.env)).all (fun x => x.1.isSome)
      && decide ((e :: es).length + ([] : List Keyword).length + (if ([] : List Keyword).isEmpty then 0 else 1) < 30)) = true := by rfl)
    (hline : (ap.endLine == cp.line) = true := by rfl) (hs : starEach (e :: es) X.env = (false, eval e X.env) :: starEach es X.env := by rfl) (hplain : (backTo cp (starEach es X.env)).any (·.1) = false := by rfl) :
    SdV X T E (.Call (.Attribute o name ap) (e :: es) [] cp) (mMt ty g mo mhs) := by
  obtain ⟨r, hm, hr⟩ := o1.ex
  refine ⟨fun F α os st σ H Q R0 P => (pe_bm pa slot hty hm pe_sem pa_sem hbase hfew hline hs hplain).sem ?_⟩
  refine ho.run F α os st σ H _ R0 (P.bnd fun hd st1 α1 os1 H1 P1 v nf s1 R1 hv e1 P => ?_)
  obtain ⟨rfl, k1⟩ := hv
  rw [FP_nil] at s1 R1 k1
  cases q : hd.at st1 with
  | none => simp only [q] at P; exact P.elim
  | some d =>
    simp only [q] at P
    split at P
    · rename_i hd1
      refine ⟨tyV_of (k1.at R1 q) hd1, ?_⟩
      refine ha.run F α1 os1 st1 σ H1 _ R1 ((P.later s1).bnd fun hs st2 α2 os2 H2 P2 w nf2 s2 R2 hw e2' P => ?_)
      obtain ⟨rfl, k2⟩ := hw
      rw [FP_nil] at s2 R2 k2
      have k1 := k1.step s2
      cases q1 : hd.at st2 with
      | none => simp only [q1] at P; exact P.elim
      | some d' =>
        cases q2 : atAll hs st2 with
        | none => simp only [q1, q2] at P; exact P.elim
        | some ds =>
          simp only [q1, q2] at P
          cases q3 : opt (g d' ds) st2 with
          | no => rw [q3] at P; exact P.elim
          | er c z => unfold opt at q3; split at q3 <;> cases q3
          | ok res z =>
            obtain ⟨g1, g2, rfl⟩ := opt_ok q3
            rw [q3] at P
            exact hr _ _ _ _ _ _ _ _ (k1.at R2 q1) (HdsOk.at R2 k2 q2) g1 g2 _ (want_post R2 (P.later s2))
    · exact P.elim
/-! ### list.index -/
def idxD (d : D) : Nat → List D → Option Nat
  | _, [] => none
  | i, z :: zs => if PyData.eqv (toPy z) (toPy d) then some i else idxD d (i + 1) zs
def gIndex : D → List D → Option Sl
  | .lst ds, [d] => if ds.all (okF 40) && okF 40 d then (idxD d 0 ds).map fun i => .va (.int (i : Nat)) else none
  | _, _ => none
theorem idxD_spec {d : D} : ∀ {ds : List D} {i j : Nat}, idxD d i ds = some j → ∃ n z, j = i + n ∧ ds[n]? = some z ∧ PyData.eqv (toPy z) (toPy d) = true ∧ ∀ m z', m < n → ds[m]? = some z' → PyData.eqv (toPy z') (toPy d) = false
  | [], _, _, h => by cases h
  | z :: zs, i, j, h => by
    unfold idxD at h
    split at h
    · rename_i q; cases h; exact ⟨0, z, rfl, rfl, q, fun m z' hm _ => absurd hm (Nat.not_lt_zero _)⟩
    · rename_i q
      obtain ⟨n, y, e, e1, e2, e3⟩ := idxD_spec h
      refine ⟨n + 1, y, by omega, e1, e2, fun m z' hm hz => ?_⟩
      cases m with
      | zero => rw [List.getElem?_cons_zero] at hz; cases hz; exact Bool.eq_false_iff.mpr q
      | succ m => exact e3 m z' (by omega) hz
theorem md_index (hu : X.A.units + 65 < cLine) : MtD X "list.index" gIndex := by
  refine ⟨_, mt_indexD hu, ?_⟩
  intro α B H x d vs ds res px pvs e ne Q W
  cases d with
  | lst zs =>
    cases pvs with
    | nil => cases e
    | @cons y ys d ds py pt =>
      cases pt with
      | cons _ _ => cases e
      | nil =>
        simp only [gIndex] at e
        split at e
        · rename_i hk
          rw [Bool.and_eq_true] at hk
          cases q : idxD d 0 zs with
          | none => rw [q] at e; cases e
          | some j =>
            rw [q] at e
            cases e
            obtain ⟨n, z, rfl, e1, e2, e3⟩ := idxD_spec q
            obtain ⟨a, ws, rfl, sq, hd⟩ := px.lst
            have dpl : Dp X.K H (.ref a) (toPy (.lst zs)) := (PV.own sq hd).dp (n := 41) (by simp only [okF]; exact hk.1)
            have dpd := py.dp (n := 40) hk.2
            have et : toPy (.lst zs) = .list (zs.map toPy) := by simp only [toPy, toPys_map]
            rw [et] at dpl
            refine ⟨a, y, toPy d, zs.map toPy, n, toPy z, rfl, rfl, dpl, dpd, ?_, okF_shaped (by decide) hk.2, ?_, e2, fun m z' hm hz => ?_, ?_⟩
            · rw [← et]; exact okF_shaped (n := 41) (by decide) (by simp only [okF]; exact hk.1)
            · rw [List.getElem?_map, e1]; rfl
            · rw [List.getElem?_map] at hz
              cases w : zs[m]? with
              | none => rw [w] at hz; cases hz
              | some z2 => rw [w] at hz; cases hz; exact e3 m z2 hm w
            · rw [Nat.zero_add] at W; exact W.1 _ (.int _)
        · cases e
  | _ => cases e
end
end Mi

namespace Mi
open PySem PySem.Spec PyProof.Rows L2

/-! ## class methods' defs -/
def mDefC (nN np : Nat) (m : MS) : CF := fun ds S => if ds.length = np then fin (m ⟨.un :: ent (nN - 1) ds, S⟩) else .no
section
variable {P : Program} {w : World} {K : PySem.W.Frag} {mg : Str → Option Value} {base : Heap} {T : Tb}
theorem Rel.enterC {F : AP1} {α : List Addr} {H : Hp} {S : List Ins} {n0 : Str} {N : List Str} {c : V} {vs : List V} {ds : List D} (R0 : Rel K T F α [] ⟨[], S⟩ [] H) (hd : DVs K α (BB F α []) H vs ds) :
    ∃ os, BB F α os = BB F α [] ∧ Rel K T F α os ⟨.un :: ent N.length ds, S⟩ (L2.start (n0 :: N) (c :: vs)) H := by
  have e : BB F α ([] :: List.replicate (vs.length + (N.length - vs.length)) []) = BB F α [] := BB_flat (by rw [List.flatten_cons, flat0]; rfl)
  refine ⟨_, e, ?_, by rw [List.flatten_cons, flat0]; exact List.nodup_nil, fun a m => by rw [List.flatten_cons, flat0] at m; simp at m, by rw [e]; exact R0.so, R0.fr, R0.has⟩
  have z := sls_va (B := BB F α []) (N.length - vs.length) hd
  rw [e]
  have en : (n0 :: N).length - (c :: vs).length = N.length - vs.length := by simp
  unfold ent L2.start
  rw [en, ← hd.length]
  exact .cons rfl z
theorem fn_cls {x qual : Str} {st : Stmt} {f C : Addr} {fd : FuncData} {n0 p0 : Str} {N ps : List Str} {k : Nat} {m : MS} (Fn : L2.Fun K x qual st f fd) (Sc : FnScope (n0 :: N) (p0 :: ps) (defScope st))
    (body : ∀ (cdv : Value) (A : Around) (outer : List Env) (s : Shared) (H : Hp) (E : XK), Room k (A.deeper (envOfC qual (defScope st) s.heap.objs.size f cdv)) →
      SdSs (cxOf (L2.CX P w) P w K mg base (n0 :: N) qual (defScope st) f cdv A outer s H E) T (eOf T E) (defBody st) m) :
    FnOk P w K mg base (L2.CX P w) (k + 1) f fd (p0 :: ps) (fun vs H Q E => ∃ vs', vs = .ref C :: vs' ∧ spD K T (mDefC (N.length + 1) ps.length m) vs' H Q E) := by
  refine Fun.okX Fn Sc (fun vs H Q E ⟨vs', e, F, α, S, ds, _, hd, h⟩ => by rw [e, List.length_cons, List.length_cons, hd.length.trans h.pos]) fun cdv A outer s H vs Q E hr hsp => ⟨_, pss_sem, ?_⟩
  obtain ⟨vs', rfl, F, α, S, ds, R0, hd, h⟩ := hsp
  have hl := h.pos
  unfold mDefC at h
  rw [if_pos hl, Nat.add_sub_cancel] at h
  obtain ⟨os, e, R1⟩ := R0.enterC (n0 := n0) (N := N) (c := .ref C) hd
  exact (body cdv A outer s H E hr).run F α os _ _ H _ R1 (PostC.body e h)
/-- a def that calls itself: below the last turn nothing is told -/
theorem fn_no {f : Addr} {fd : FuncData} {ps : List Str} {k : Nat} : FnOk P w K mg base (L2.CX P w) k f fd ps (spD K T fun _ _ => .no) :=
  ⟨fun vs H Q E ⟨F, α, S, ds, _, _, h⟩ => h.elim, fun A outer s H args us vs Q E hr he hb hv ⟨F, α, S, ds, _, _, h⟩ => h.elim⟩
/-- the law's end -/
theorem law_end {k : Nat} {f : Addr} {fd : FuncData} {x : Str} {cf : CF} (Fn : FnOk P w K mg base (L2.CX P w) k f fd [x] (spD K T cf)) (hc : ∀ ns : List Int, ns.length ≤ 63 → ∃ st', cf [.scr ns] [] = .ok (.va (.bl true)) st') :
    Wr.FnG P w K mg base L2.CX0 k f fd [x] (Wr.sp_law K) := by
  refine Wr.FnG.of ((Wr.FnOk_calm Fn).imp fun vs H Q E h => ?_)
  obtain ⟨a, ns, rfl, sq, hl, q⟩ := h
  obtain ⟨st', e⟩ := hc ns hl
  have hB : ∀ b, ¬ BB (fun _ => False) ([] : List Addr) [] b := fun b z => by
    rcases z with z | z | z
    · exact z
    · simp at z
    · simp at z
  refine ⟨fun _ => False, [], [], [.scr ns], ⟨.nil, List.nodup_nil, fun b m => by simp at m, ⟨fun k i e => by simp at e, rfl, List.nodup_nil⟩, fun b z => z.elim, fun b z => z.elim⟩, .cons ?_ .nil, ?_⟩
  · rcases sq with sq | sq
    · exact .scr (hB a) sq
    · exact .scrK sq
  · rw [e]
    intro α' H' P1 v nf s R hv
    obtain ⟨⟨_, v', e', hv⟩, _⟩ := hv
    cases e'
    cases hv
    exact q H'
end
section
variable {X : Cx} {T : Tb} {E : EX}
theorem calC_of {k : Nat} {C g : Addr} {fd : FuncData} {ps : List Str} {cf : CF} (Fn : FnOk X.prog X.w X.K X.mg X.base (L2.CX X.prog X.w) k g fd ps (fun vs H Q E => ∃ vs', vs = .ref C :: vs' ∧ spD X.K T cf vs' H Q E)) (hb : Binds X.K fd ps []) (hr : Room k X.A) (tk : Takes X (XW T E)) : CalC X T E C g cf := by
  refine ⟨fun pins s σ H us vs Q I r h => ?_⟩
  refine codeAny_mono (Fn.raw hb .nil X.A X.stack s H (.ref C :: us) (.ref C :: vs) Q (WE (XW T E) σ) hr I.env0 (.cons rfl r) ⟨vs, List.append_nil _, h⟩) fun r s' hq => ?_
  cases r with
  | error e => exact passAt tk σ pins H s e s' I hq
  | ok fl =>
    cases fl with
    | ret u => exact I.after hq
    | next => exact False.elim hq
    | brk => exact False.elim hq
    | cont => exact False.elim hq
theorem calV_ok {k : Nat} {f : Addr} {fd : FuncData} {ps : List Str} {cf : CF} (Fn : FnOk X.prog X.w X.K X.mg X.base (L2.CX X.prog X.w) k f fd ps (spD X.K T cf)) (hb : Binds X.K fd ps []) (hr : Room k X.A) (hk : PySem.W.keepIn X.K (.ref f) = true) (tk : Takes X (XW T E)) : CalV X T E (.ref f) cf :=
  calV_fn (fn_raw0 Fn hb) hr hk tk
/-- where nothing is let out -/
theorem takesB : Takes X (XW T E0) := takes0.imp fun _ _ _ _ ⟨_, _, _, z⟩ => z
/-- in a def's body -/
theorem takesD {P : Program} {w : World} {K : PySem.W.Frag} {mg : Str → Option Value} {base : Heap} {N : List Str} {qual : Str} {scope : Scope} {f : Addr} {cd : Value} {A : Around} {outer : List Env} {s : Shared} {H : Hp} {E : XK} :
    Takes (cxOf (L2.CX P w) P w K mg base N qual scope f cd A outer s H E) (XW T (eOf T E)) :=
  (takes_of (E := E) rfl rfl rfl rfl).imp fun _ _ _ _ ⟨_, e1, e2, z⟩ => by subst e1 e2; exact z
end
end Mi

namespace Mi
open PySem PySem.Spec PyProof.Rows L2

/-! ## tables by class -/
def tabA (l : List Att) (c : Nat) : Att := l.getD c .no
def tabS (l : List AttS) (c : Nat) : AttS := l.getD c .no
def tabM (l : List (Option CF)) (c : Nat) : Option CF := l.getD c none
inductive AttL (X : Cx) (T : Tb) (f : Str) : Nat → List Att → Prop
  | nil {c} : AttL X T f c []
  | cons {c a l} : AttOk X T f c a → AttL X T f (c + 1) l → AttL X T f c (a :: l)
inductive AtSL (X : Cx) (T : Tb) (E : EX) (f : Str) : Nat → List AttS → Prop
  | nil {c} : AtSL X T E f c []
  | cons {c a l} : AttSOk X T E f c a → AtSL X T E f (c + 1) l → AtSL X T E f c (a :: l)
inductive MetL (X : Cx) (T : Tb) (E : EX) (f : Str) : Nat → List (Option CF) → Prop
  | nil {c} : MetL X T E f c []
  | cons {c a l} : MetOk X T E f c a → MetL X T E f (c + 1) l → MetL X T E f c (a :: l)
section
variable {X : Cx} {T : Tb} {E : EX} {f m : Str} {c : Nat}
theorem att_fld (h1 : Cls X.K (T.ic c)) (h2 : NoAttr X.K (T.ic c) f) : AttOk X T f c .fld := ⟨h1, h2⟩
theorem att_prop {p g : Addr} {fd : FuncData} {ps : List Str} {k : Nat} {cf : CF} (h1 : Cls X.K (T.ic c)) (h2 : PropOf X.K (T.ic c) f p g) (h3 : FnOk X.prog X.w X.K X.mg X.base (L2.CX X.prog X.w) k g fd ps (spD X.K T cf)) (h4 : Binds X.K fd ps []) (h5 : Room (k + 1) X.A) :
    AttOk X T f c (.prop cf) := ⟨h1, p, g, fd, ps, k, h2, h3, h4, h5⟩
theorem att_no : AttOk X T f c .no := True.intro
theorem atS_fld (h1 : Cls X.K (T.ic c)) (h2 : NoAttr X.K (T.ic c) f) : AttSOk X T E f c .fld := ⟨h1, h2⟩
theorem atS_prop {p g : Addr} {u : Value} {rest : List Value} {k : Nat} {cf : CF} (h1 : Cls X.K (T.ic c)) (h2 : PySem.W.takerIn X.K (T.ic c) f = some (some (.ref p))) (h3 : PySem.W.typeIn X.K (.ref p) = some (.type "property"))
    (h4 : PySem.W.recIn X.K p "property" = some (u :: .ref g :: rest)) (h5 : FnR X.prog X.w X.K X.mg X.base (L2.CX X.prog X.w) k g (spD X.K T cf)) (h6 : Room (k + 2) X.A) : AttSOk X T E f c (.prop cf) := ⟨h1, p, g, u, rest, k, h2, h3, h4, h5, h6⟩
theorem atS_no : AttSOk X T E f c .no := True.intro
theorem met_ok {g : Addr} {cf : CF} (h1 : Cls X.K (T.ic c)) (h2 : Meth X.K (T.ic c) m g) (h3 : CalV X T E (.ref g) cf) : MetOk X T E m c (some cf) := ⟨h1, g, h2, h3⟩
theorem met_no : MetOk X T E m c none := True.intro
theorem AttL.at : ∀ {l : List Att} {c : Nat}, AttL X T f c l → ∀ i, AttOk X T f (c + i) (l.getD i .no)
  | [], _, _, _ => by simp; exact att_no
  | a :: l, c, .cons h t, 0 => by simpa using h
  | a :: l, c, .cons h t, i + 1 => by
    have z := t.at i
    rw [show c + (i + 1) = c + 1 + i by omega]
    simpa using z
theorem AtSL.at : ∀ {l : List AttS} {c : Nat}, AtSL X T E f c l → ∀ i, AttSOk X T E f (c + i) (l.getD i .no)
  | [], _, _, _ => by simp; exact atS_no
  | a :: l, c, .cons h t, 0 => by simpa using h
  | a :: l, c, .cons h t, i + 1 => by
    have z := t.at i
    rw [show c + (i + 1) = c + 1 + i by omega]
    simpa using z
theorem MetL.at : ∀ {l : List (Option CF)} {c : Nat}, MetL X T E f c l → ∀ i, MetOk X T E f (c + i) (l.getD i none)
  | [], _, _, _ => by simp; exact met_no
  | a :: l, c, .cons h t, 0 => by simpa using h
  | a :: l, c, .cons h t, i + 1 => by
    have z := t.at i
    rw [show c + (i + 1) = c + 1 + i by omega]
    simpa using z
theorem AttL.ok {l : List Att} (h : AttL X T f 0 l) : ∀ c, AttOk X T f c (tabA l c) := fun c => by have z := h.at c; rwa [Nat.zero_add] at z
theorem AtSL.ok {l : List AttS} (h : AtSL X T E f 0 l) : ∀ c, AttSOk X T E f c (tabS l c) := fun c => by have z := h.at c; rwa [Nat.zero_add] at z
theorem MetL.ok {l : List (Option CF)} (h : MetL X T E m 0 l) : ∀ c, MetOk X T E m c (tabM l c) := fun c => by have z := h.at c; rwa [Nat.zero_add] at z
theorem hu64 {k : Nat} {A : Around} (hr : Room k A) : A.units + 64 < cLine := Nat.lt_of_le_of_lt (by omega) hr.un
theorem hu65 {k : Nat} {A : Around} (hr : Room k A) : A.units + 65 < cLine := Nat.lt_of_le_of_lt (by omega) hr.un

/-! ## isinstance -/
def ansT (f : Kd → Bool) (n : Nat) : Kd → Option Bool
  | .ins c => if c < n then some false else none
  | kd => some (f kd)
def ansC (l : List Bool) : Kd → Option Bool
  | .ins c => l[c]?
  | _ => some false
def kI : Kd → Bool | .int => true | .bl => true | _ => false
def kB : Kd → Bool | .bl => true | _ => false
def kT : Kd → Bool | .tup => true | _ => false
def kL : Kd → Bool | .lst => true | _ => false
def kS : Kd → Bool | .str => true | _ => false
def kD : Kd → Bool | .dic => true | _ => false
def kdN : Kd → String | .non => "NoneType" | .bl => "bool" | .int => "int" | .str => "str" | .tup => "tuple" | .lst => "list" | .dic => "dict" | .ins _ => ""
theorem isiT {ty : String} {f : Kd → Bool} {n : Nat} (h : ∀ kd, (∀ c, kd ≠ .ins c) → kitB (kdN kd) ty = some (f kd)) (hc : ∀ c, c < n → PySem.W.kitOne X.K (.ref (T.ic c)) (.type ty) = some false ∧ InsTy X.K (T.ic c)) :
    IsiOk X T (.type ty) (ansT f n) := by
  intro kd b e
  cases kd with
  | ins c =>
    simp only [ansT] at e
    split at e
    · rename_i q
      cases e
      exact ⟨(hc c q).1, fun c' e' => by cases e'; exact (hc c q).2⟩
    · cases e
  | non => cases e; exact ⟨kit_ty (h .non nofun), nofun⟩
  | bl => cases e; exact ⟨kit_ty (h .bl nofun), nofun⟩
  | int => cases e; exact ⟨kit_ty (h .int nofun), nofun⟩
  | str => cases e; exact ⟨kit_ty (h .str nofun), nofun⟩
  | tup => cases e; exact ⟨kit_ty (h .tup nofun), nofun⟩
  | lst => cases e; exact ⟨kit_ty (h .lst nofun), nofun⟩
  | dic => cases e; exact ⟨kit_ty (h .dic nofun), nofun⟩
theorem kI_kit (kd : Kd) (h : ∀ c, kd ≠ .ins c) : kitB (kdN kd) "int" = some (kI kd) := by cases kd <;> first | decide +kernel | exact absurd rfl (h _)
theorem kB_kit (kd : Kd) (h : ∀ c, kd ≠ .ins c) : kitB (kdN kd) "bool" = some (kB kd) := by cases kd <;> first | decide +kernel | exact absurd rfl (h _)
theorem kT_kit (kd : Kd) (h : ∀ c, kd ≠ .ins c) : kitB (kdN kd) "tuple" = some (kT kd) := by cases kd <;> first | decide +kernel | exact absurd rfl (h _)
theorem kL_kit (kd : Kd) (h : ∀ c, kd ≠ .ins c) : kitB (kdN kd) "list" = some (kL kd) := by cases kd <;> first | decide +kernel | exact absurd rfl (h _)
theorem kS_kit (kd : Kd) (h : ∀ c, kd ≠ .ins c) : kitB (kdN kd) "str" = some (kS kd) := by cases kd <;> first | decide +kernel | exact absurd rfl (h _)
theorem kD_kit (kd : Kd) (h : ∀ c, kd ≠ .ins c) : kitB (kdN kd) "dict" = some (kD kd) := by cases kd <;> first | decide +kernel | exact absurd rfl (h _)
theorem below0 {Φ : Nat → Prop} : ∀ c, c < 0 → Φ c := fun c h => absurd h (Nat.not_lt_zero c)
theorem belowS {Φ : Nat → Prop} {n : Nat} (h : ∀ c, c < n → Φ c) (h2 : Φ n) : ∀ c, c < n + 1 → Φ c := fun c hc => by
  by_cases e : c = n
  · rw [e]; exact h2
  · exact h c (by omega)
/-- an own class -/
structure KitC (K : PySem.W.Frag) (C : Addr) : Prop where
  non : PySem.W.kitOne K (.type "NoneType") (.ref C) = some false
  bl : PySem.W.kitOne K (.type "bool") (.ref C) = some false
  int : PySem.W.kitOne K (.type "int") (.ref C) = some false
  str : PySem.W.kitOne K (.type "str") (.ref C) = some false
  tup : PySem.W.kitOne K (.type "tuple") (.ref C) = some false
  lst : PySem.W.kitOne K (.type "list") (.ref C) = some false
  dic : PySem.W.kitOne K (.type "dict") (.ref C) = some false
theorem isiC {C : Addr} {l : List Bool} (h : KitC X.K C) (hc : ∀ c, c < l.length → PySem.W.kitOne X.K (.ref (T.ic c)) (.ref C) = l[c]? ∧ InsTy X.K (T.ic c)) : IsiOk X T (.ref C) (ansC l) := by
  intro kd b e
  cases kd with
  | ins c =>
    have hl : c < l.length := (List.getElem?_eq_some_iff.mp (show l[c]? = some b from e)).1
    exact ⟨(hc c hl).1.trans e, fun c' e' => by cases e'; exact (hc c hl).2⟩
  | non => cases e; exact ⟨h.non, nofun⟩
  | bl => cases e; exact ⟨h.bl, nofun⟩
  | int => cases e; exact ⟨h.int, nofun⟩
  | str => cases e; exact ⟨h.str, nofun⟩
  | tup => cases e; exact ⟨h.tup, nofun⟩
  | lst => cases e; exact ⟨h.lst, nofun⟩
  | dic => cases e; exact ⟨h.dic, nofun⟩
end
end Mi
namespace Mi
open PySem PySem.Spec PyProof.Rows L2
/-- turns that a loop is given -/
def fuel (st : Sto) : Nat := st.ρ.foldl (fun a s => match s with | .va (.int i) => a + i.natAbs | _ => a) 2
def nth {β : Type} (d : β) : List β → Nat → β
  | [], _ => d
  | a :: _, 0 => a
  | _ :: l, n + 1 => nth d l n
inductive Exm (K : PySem.W.Frag) (cv : Value) : List Addr → List Bool → Prop
  | nil : Exm K cv [] []
  | cons {a b as bs} : PySem.W.exmOne K (.ref a) cv = some b → Exm K cv as bs → Exm K cv (a :: as) (b :: bs)
theorem Exm.at {K : PySem.W.Frag} {cv : Value} {d : Addr} {b : Bool} (hd : PySem.W.exmOne K (.ref d) cv = some b) {as : List Addr} {bs : List Bool} (h : Exm K cv as bs) : ∀ c, PySem.W.exmOne K (.ref (nth d as c)) cv = some (nth b bs c) := by
  induction h with
  | nil => exact fun c => hd
  | cons h _ ih =>
    intro c
    cases c with
    | zero => exact h
    | succ c => exact ih c
end Mi

/-! the mirrors' values: rules of computation -/
namespace Mi
open PySem L2
theorem gEq_int (a b : Int) : gEq (.int a) (.int b) = some (.va (.bl (decide (a = b)))) := by
  simp only [gEq, okF, toPy, Bool.and_self, if_true]
  congr 3
theorem gNe_int (a b : Int) : gNe (.int a) (.int b) = some (.va (.bl (!decide (a = b)))) := by
  simp only [gNe, okF, toPy, Bool.and_self, if_true]
  congr 4
/-- x in xs, for a list told by its items: a comprehension without a test -/
theorem lc_map {own : List Nat} {mg : MG} {me : MV} {st0 : Sto} (f : D → D) (ρ' : D → List Sl) (hw : wipeS own st0.ρ = st0.ρ) : ∀ (items : List D),
    (∀ d ∈ items, mg d st0.ρ = some (ρ' d) ∧ wipeS own (ρ' d) = st0.ρ ∧ ∃ r, me ⟨ρ' d, st0.S⟩ = .ok r ⟨ρ' d, st0.S⟩ ∧ r.d = f d) → lcLoop own mg mYes me items st0 = .ok (items.map f) st0
  | [], _ => rfl
  | d :: items, h => by
    obtain ⟨h1, h2, r, h3, h4⟩ := h d List.mem_cons_self
    simp only [lcLoop, h1, mYes, ne_ok, bnd_ok, if_true, h3, h2, lc_map f ρ' hw items fun e m => h e (List.mem_cons_of_mem _ m), h4, List.map_cons]
/-- .. over the items h x -/
theorem lc_mapB {β : Type} {own : List Nat} {mg : MG} {me : MV} {st0 : Sto} (h : β → D) (f : β → D) (ρ' : β → List Sl) (hw : wipeS own st0.ρ = st0.ρ) : ∀ (items : List β),
    (∀ d ∈ items, mg (h d) st0.ρ = some (ρ' d) ∧ wipeS own (ρ' d) = st0.ρ ∧ ∃ r, me ⟨ρ' d, st0.S⟩ = .ok r ⟨ρ' d, st0.S⟩ ∧ r.d = f d) → lcLoop own mg mYes me (items.map h) st0 = .ok (items.map f) st0
  | [], _ => rfl
  | d :: items, hh => by
    obtain ⟨h1, h2, r, h3, h4⟩ := hh d List.mem_cons_self
    simp only [List.map_cons, lcLoop, h1, mYes, ne_ok, bnd_ok, if_true, h3, h2, lc_mapB h f ρ' hw items fun e m => hh e (List.mem_cons_of_mem _ m), h4]
theorem lc_filterB {β : Type} {own : List Nat} {mg : MG} {mt : MB} {me : MV} {st0 : Sto} (h : β → D) (p : β → Bool) (f : β → D) (ρ' : β → List Sl) (hw : wipeS own st0.ρ = st0.ρ) : ∀ (items : List β),
    (∀ d ∈ items, mg (h d) st0.ρ = some (ρ' d) ∧ wipeS own (ρ' d) = st0.ρ ∧ mt ⟨ρ' d, st0.S⟩ = .ok (p d) ⟨ρ' d, st0.S⟩ ∧ (p d = true → ∃ r, me ⟨ρ' d, st0.S⟩ = .ok r ⟨ρ' d, st0.S⟩ ∧ r.d = f d)) →
      lcLoop own mg mt me (items.map h) st0 = .ok ((items.filter p).map f) st0
  | [], _ => rfl
  | d :: items, hh => by
    obtain ⟨h1, h2, h3, h4⟩ := hh d List.mem_cons_self
    have ih := lc_filterB h p f ρ' hw items fun e m => hh e (List.mem_cons_of_mem _ m)
    cases q : p d with
    | true =>
      obtain ⟨r, h5, h6⟩ := h4 q
      simp only [List.map_cons, lcLoop, h1, h3, ne_ok, bnd_ok, q, if_true, h5, h2, ih, h6, List.filter_cons_of_pos]
    | false =>
      simp only [List.map_cons, lcLoop, h1, h3, ne_ok, bnd_ok, q, Bool.false_eq_true, if_false, h2, ih, List.filter_cons, if_false]
/-- .. with a test -/
theorem lc_filter {own : List Nat} {mg : MG} {mt : MB} {me : MV} {st0 : Sto} (p : D → Bool) (f : D → D) (ρ' : D → List Sl) (hw : wipeS own st0.ρ = st0.ρ) : ∀ (items : List D),
    (∀ d ∈ items, mg d st0.ρ = some (ρ' d) ∧ wipeS own (ρ' d) = st0.ρ ∧ mt ⟨ρ' d, st0.S⟩ = .ok (p d) ⟨ρ' d, st0.S⟩ ∧ (p d = true → ∃ r, me ⟨ρ' d, st0.S⟩ = .ok r ⟨ρ' d, st0.S⟩ ∧ r.d = f d)) →
      lcLoop own mg mt me items st0 = .ok ((items.filter p).map f) st0
  | [], _ => rfl
  | d :: items, h => by
    obtain ⟨h1, h2, h3, h4⟩ := h d List.mem_cons_self
    have ih := lc_filter p f ρ' hw items fun e m => h e (List.mem_cons_of_mem _ m)
    cases q : p d with
    | true =>
      obtain ⟨r, h5, h6⟩ := h4 q
      simp only [lcLoop, h1, h3, ne_ok, bnd_ok, q, if_true, h5, h2, ih, h6, List.filter_cons_of_pos, List.map_cons]
    | false =>
      simp only [lcLoop, h1, h3, ne_ok, bnd_ok, q, Bool.false_eq_true, if_false, h2, ih, List.filter_cons, if_false]
theorem atI_nat {α : Type} (xs : List α) (k : Nat) : L2.atI xs (k : Int) = xs[k]? := by
  unfold L2.atI L2.ixN
  rw [if_pos (Int.natCast_nonneg k)]
  by_cases h : k < xs.length
  · rw [if_pos (by omega), Option.bind_some, Int.toNat_natCast]
  · rw [if_neg (by omega), Option.bind_none, List.getElem?_eq_none (by omega)]
theorem atI_0 {α : Type} (x : α) (xs : List α) : L2.atI (x :: xs) 0 = some x := atI_nat (x :: xs) 0
theorem atI_1 {α : Type} (x y : α) (xs : List α) : L2.atI (x :: y :: xs) 1 = some y := atI_nat (x :: y :: xs) 1
theorem le_LIM {n : Nat} (h : n ≤ 1000000) : (n ≤ LIM) = True := eq_true h
theorem lt_LIM {n : Nat} (h : n < 1000000) : (n < LIM) = True := eq_true h
theorem natLit (n : Nat) : ((no_index (OfNat.ofNat n) : Nat) : Int) = OfNat.ofNat n := rfl
theorem gLt_ii (i j : Int) : gLt (.int i) (.int j) = some (.va (.bl (decide (i < j)))) := rfl
theorem gLe_ii (i j : Int) : gLe (.int i) (.int j) = some (.va (.bl (decide (i ≤ j)))) := rfl
theorem gGt_ii (i j : Int) : gGt (.int i) (.int j) = some (.va (.bl (decide (j < i)))) := rfl
theorem gGe_ii (i j : Int) : gGe (.int i) (.int j) = some (.va (.bl (decide (j ≤ i)))) := rfl
/-- a fraction -/
abbrev frD (t b : Int) : D := .tup [.int t, .int b]
/-! ## what each mirror gives at a state -/
theorem e_mSeq (m1 m2 : MS) (st : Sto) : mSeq m1 m2 st = (match m1 st with
  | .nx st1 => m2 st1
  | o => o) := rfl
theorem e_mIfS (mt : MB) (m1 m2 : MS) (st : Sto) : mIfS mt m1 m2 st = ((mt st).o fun k st1 => if k then m1 st1 else m2 st1) := rfl
theorem e_mT (m : MV) (st : Sto) : mT m st = ((m st).bnd fun r st' => match r with
  | .va (.bl k) => .ok k st'
  | _ => .no) := rfl
theorem e_mBin (g : D → D → Option Sl) (ma mb : MH) (st : Sto) : mBin g ma mb st = ((ma st).bnd fun h1 st1 => (mb st1).bnd fun h2 st2 =>
  match h1.at st2, h2.at st2 with
  | some d, some e => opt (g d e) st2
  | _, _ => .no) := rfl
theorem e_mUn (g : D → Option Sl) (ma : MH) (st : Sto) : mUn g ma st = ((ma st).bnd fun h1 st1 =>
  match h1.at st1 with
  | some d => opt (g d) st1
  | _ => .no) := rfl
theorem e_mNm (i : Nat) (st : Sto) : mNm i st = (match st.ρ[i]? with
  | some (.va _) => .ok (.slot i) st
  | some (.ow _) => .ok (.slot i) st
  | _ => .no) := rfl
theorem e_mNv (i : Nat) (st : Sto) : mNv i st = (match st.ρ[i]? with
  | some (.va d) => .ok (.va d) st
  | some (.ow xs) => .ok (.va (.lst xs)) { st with ρ := st.ρ.set i (.va (.lst xs)) }
  | _ => .no) := rfl
theorem e_mF (m : MV) (st : Sto) : mF m st = ((m st).bnd fun r st' => .ok (.val r.d) st') := rfl
theorem e_mC (d : D) (st : Sto) : mC d st = (.ok (.va d) st) := rfl
theorem e_mRet (m : MV) (st : Sto) : mRet m st = ((m st).o fun r st1 => .rt r st1) := rfl
theorem e_mSet (i : Nat) (m : MV) (st : Sto) : mSet i m st = ((m st).o fun r st1 => .nx { st1 with ρ := st1.ρ.set i r }) := rfl
theorem e_mSetIx (i : Nat) (m : MV) (mk : MH) (st : Sto) : mSetIx i m mk st = ((m st).o fun r st1 => match ownAt st1.ρ i with
  | none => .no
  | some _ => (mk st1).o fun h st2 => match ownAt st2.ρ i, h.at st2 with
    | some xs, some (.int k) => (match ixN xs.length k with
      | some j => .nx { st2 with ρ := st2.ρ.set i (.ow (xs.set j r.d)) }
      | none => .no)
    | _, _ => .no) := rfl
theorem e_mApp (i : Nat) (m : MV) (st : Sto) : mApp i m st = (match ownAt st.ρ i with
  | none => .no
  | some _ => (m st).o fun r st1 => match ownAt st1.ρ i with
    | some xs => if xs.length < LIM then .nx { st1 with ρ := st1.ρ.set i (.ow (xs ++ [r.d])) } else .no
    | none => .no) := rfl
theorem e_mExpr (m : MV) (st : Sto) : mExpr m st = ((m st).o fun _ st1 => .nx st1) := rfl
theorem e_mCB (g : List D → Option Sl) (ms : MHs) (st : Sto) : mCB g ms st = ((ms st).bnd fun hs st1 => match atAll hs st1 with
  | some ds => opt (g ds) st1
  | none => .no) := rfl
theorem e_mHcons (m : MH) (ms : MHs) (st : Sto) : mHcons m ms st = ((m st).bnd fun r st1 => (ms st1).bnd fun ds st2 => .ok (r :: ds) st2) := rfl
theorem e_mHnil  (st : Sto) : mHnil  st = (.ok [] st) := rfl
theorem e_mAcons (m : MV) (ms : MA) (st : Sto) : mAcons m ms st = ((m st).bnd fun r st1 => (ms st1).bnd fun ds st2 => .ok (r.d :: ds) st2) := rfl
theorem e_mAnil  (st : Sto) : mAnil  st = (.ok [] st) := rfl
theorem e_mTup (ms : MA) (st : Sto) : mTup ms st = ((ms st).bnd fun ds st1 => if ds.length ≤ LIM then .ok (.va (.tup ds)) st1 else .no) := rfl
theorem e_mLst (ms : MA) (st : Sto) : mLst ms st = ((ms st).bnd fun ds st1 => if ds.length ≤ LIM then .ok (.ow ds) st1 else .no) := rfl
theorem e_mNx  (st : Sto) : mNx  st = (.nx st) := rfl
theorem e_mRetN  (st : Sto) : mRetN  st = (.rt (.va .non) st) := rfl
theorem e_mIsN (k : Bool) (m : MH) (st : Sto) : mIsN k m st = ((m st).bnd fun h st' => match h.at st' with
  | some d => .ok (.va (.bl (isNonD d == k))) st'
  | none => .no) := rfl
theorem e_mIsi (ans : Kd → Option Bool) (m : MH) (st : Sto) : mIsi ans m st = ((m st).bnd fun h st1 => match (h.at st1).bind (kdOf st1) with
  | some kd => (match ans kd with
    | some b => .ok (.va (.bl b)) st1
    | none => .no)
  | none => .no) := rfl
theorem e_mTru (m : MH) (st : Sto) : mTru m st = ((m st).bnd fun h st' => match h.at st' with
  | some d => (match truD d with
    | some k => .ok k st'
    | none => .no)
  | none => .no) := rfl
theorem e_mAnd (m1 m2 : MB) (st : Sto) : mAnd m1 m2 st = ((m1 st).bnd fun k st1 => if k then m2 st1 else .ok false st1) := rfl
theorem e_mOr (m1 m2 : MB) (st : Sto) : mOr m1 m2 st = ((m1 st).bnd fun k st1 => if k then .ok true st1 else m2 st1) := rfl
theorem e_mNot (m : MB) (st : Sto) : mNot m st = ((m st).bnd fun k st1 => .ok (!k) st1) := rfl
theorem e_mV (m : MB) (st : Sto) : mV m st = ((m st).bnd fun k st1 => .ok (.va (.bl k)) st1) := rfl
theorem e_mAndV (n1 n2 : MV) (st : Sto) : mAndV n1 n2 st = ((n1 st).bnd fun r st1 => match r with
  | .va (.bl k) => if k then n2 st1 else .ok (.va (.bl false)) st1
  | _ => .no) := rfl
theorem e_mOrV (n1 n2 : MV) (st : Sto) : mOrV n1 n2 st = ((n1 st).bnd fun r st1 => match r with
  | .va (.bl k) => if k then .ok (.va (.bl true)) st1 else n2 st1
  | _ => .no) := rfl
theorem e_mNotV (n1 : MV) (st : Sto) : mNotV n1 st = ((n1 st).bnd fun r st1 => match r with
  | .va (.bl k) => .ok (.va (.bl (!k))) st1
  | _ => .no) := rfl
theorem e_mChain (g g' : D → D → Option Sl) (ma mb mc : MH) (st : Sto) : mChain g g' ma mb mc st = ((ma st).bnd fun h1 st1 => (mb st1).bnd fun h2 st2 =>
  match h1.at st2, h2.at st2 with
  | some d, some e => (match g d e with
    | some (.va (.bl true)) => (mc st2).bnd fun h3 st3 => match h2.at st3, h3.at st3 with
      | some e', some f => opt (g' e' f) st3
      | _, _ => .no
    | some (.va (.bl false)) => .ok (.va (.bl false)) st2
    | _ => .no)
  | _, _ => .no) := rfl
theorem e_mPar (i j : Nat) (ms : MA) (st : Sto) : mPar i j ms st = ((ms st).o fun ds st1 => match ds with
  | [d, e] => .nx { st1 with ρ := (st1.ρ.set i (.va d)).set j (.va e) }
  | _ => .no) := rfl
theorem e_mAsg (m : MV) (mg : MG) (st : Sto) : mAsg m mg st = ((m st).o fun r st1 => match mg r.d st1.ρ with
  | some ρ' => .nx { st1 with ρ := ρ' }
  | none => .no) := rfl
theorem e_mFor (mi : MI) (mg : MG) (mb : MS) (st : Sto) : mFor mi mg mb st = ((mi st).o fun items st1 => forL mg mb items st1) := rfl
theorem e_mItems (m : MV) (st : Sto) : mItems m st = ((m st).bnd fun r st1 => match r.d with
  | .tup ds => .ok ds st1
  | .lst ds => .ok ds st1
  | .scr ns => .ok (ns.map .int) st1
  | _ => .no) := rfl
def rngOk (j : Int) : Bool := Nat.ble j.natAbs 4000000000000000000
theorem rngOk_iff (j : Int) : rngOk j = true ↔ (-RNG ≤ j ∧ j ≤ RNG) := by
  unfold rngOk RNG
  rw [Nat.ble_eq]
  omega
theorem rngOk_nat {k : Nat} (h : k ≤ 1000000) : rngOk (k : Int) = true := (rngOk_iff _).mpr (by unfold RNG; omega)
theorem e_mRng1 (ms : MHs) (st : Sto) : mRng1 ms st = ((ms st).bnd fun hs st1 => match atAll hs st1 with
  | some [.int j] => (match rngOk j with
    | true => .ok (rngD 0 j.toNat) st1
    | false => .no)
  | _ => .no) := by
  unfold mRng1
  congr 1
  funext hs st1
  generalize atAll hs st1 = x
  split
  · rename_i j
    by_cases h : -RNG ≤ j ∧ j ≤ RNG
    · simp only [if_pos h, (rngOk_iff j).mpr h]
    · have h' : rngOk j = false := Bool.eq_false_iff.mpr fun z => h ((rngOk_iff j).mp z)
      simp only [if_neg h, h']
  · rename_i h
    first
    | rfl
    | (split
       · rename_i j; exact absurd rfl (h j)
       · rfl)
theorem e_mRng2 (ms : MHs) (st : Sto) : mRng2 ms st = ((ms st).bnd fun hs st1 => match atAll hs st1 with
  | some [.int i, .int j] => (match rngOk i && rngOk j with
    | true => .ok (rngD i (j - i).toNat) st1
    | false => .no)
  | _ => .no) := by
  unfold mRng2
  congr 1
  funext hs st1
  generalize atAll hs st1 = x
  split
  · rename_i i j
    by_cases h : (-RNG ≤ i ∧ i ≤ RNG) ∧ (-RNG ≤ j ∧ j ≤ RNG)
    · simp only [if_pos h, (rngOk_iff i).mpr h.1, (rngOk_iff j).mpr h.2, Bool.and_self]
    · have h' : (rngOk i && rngOk j) = false := Bool.eq_false_iff.mpr fun z => by
        rw [Bool.and_eq_true] at z
        exact h ⟨(rngOk_iff i).mp z.1, (rngOk_iff j).mp z.2⟩
      simp only [if_neg h, h']
  · rename_i h
    first
    | rfl
    | (split
       · rename_i i j; exact absurd rfl (h i j)
       · rfl)
theorem e_mEnum (ms : MA) (st : Sto) : mEnum ms st = ((ms st).bnd fun ds st1 => match ds with
  | [.tup xs] => .ok (enumD 0 xs) st1
  | _ => .no) := rfl
theorem e_mRaise (c : Nat) (st : Sto) : mRaise c st = (.er c st) := rfl
theorem e_mCall (cf : CF) (ms : MA) (st : Sto) : mCall cf ms st = ((ms st).bnd fun ds st1 => mCallAt cf ds st1) := rfl
theorem e_mAtt (att : Nat → Att) (f : Str) (m : MH) (st : Sto) : mAtt att f m st = ((m st).bnd fun h st1 => match insAt st1 (h.at st1) with
  | some (k, c, fs) => (match att c with
    | .fld => (match fs.lookup f with
      | some d => .ok (.va d) st1
      | none => .no)
    | .prop cf => (mCallAt cf [.obj k] st1).ne
    | .no => .no)
  | none => .no) := rfl
theorem e_mSetAtt (att : Nat → AttS) (f : Str) (m : MV) (mo : MH) (st : Sto) : mSetAtt att f m mo st = ((m st).o fun r st1 => (mo st1).o fun h st2 => match insAt st2 (h.at st2) with
  | some (k, c, fs) => (match att c with
    | .fld => if fs.length < 1000 then .nx { st2 with S := st2.S.set k (.ins c (putD f r.d fs)) } else .no
    | .prop cf => (mCallAt cf [.obj k, r.d] st2).o fun _ st3 => .nx st3
    | .no => .no)
  | none => .no) := rfl
theorem e_mMeth (g : Nat → Option CF) (m : Str) (mo : MH) (ms : MA) (st : Sto) : mMeth g m mo ms st = ((mo st).bnd fun h st1 => match insAt st1 (h.at st1) with
  | some (k, c, fs) => (match g c, fs.lookup m with
    | some cf, none => (ms st1).bnd fun ds st2 => mCallAt cf (.obj k :: ds) st2
    | _, _ => .no)
  | none => .no) := rfl
theorem e_mAnil0  (st : Sto) : mAnil0  st = (.ok [] st) := rfl
theorem e_mTry (mb : MS) (hs : List Hn) (st : Sto) : mTry mb hs st = (match mb st with
  | .er c st1 => handle hs c st1
  | o => o) := rfl
theorem e_mWh (f : Sto → Nat) (mt : MB) (mb : MS) (st : Sto) : mWh f mt mb st = (whL mt mb (f st) st) := rfl
theorem e_mLc (own : List Nat) (mi : MI) (mg : MG) (mt : MB) (me : MV) (st : Sto) : mLc own mi mg mt me st = ((mi st).bnd fun items st1 =>
  if items.length ≤ LIM then (lcLoop own mg mt me items { st1 with ρ := wipeS own st1.ρ }).bnd fun ds st2 => .ok (.ow ds) { st2 with ρ := rst own st1.ρ st2.ρ }
  else .no) := rfl
theorem e_mYes  (st : Sto) : mYes  st = (.ok true st) := rfl
theorem e_mStar1 (m : MH) (st : Sto) : mStar1 m st = ((m st).bnd fun h st1 => match (h.at st1).bind seqOf with
  | some ds => .ok ds st1
  | none => .no) := rfl
theorem e_mPub (m : MV) (st : Sto) : mPub m st = ((m st).bnd fun r st1 => match r with
  | .ow xs => .ok (.va (.obj st1.S.length)) { st1 with S := st1.S ++ [.lst xs] }
  | _ => .no) := rfl
theorem e_mAppO (mo : MH) (m : MV) (st : Sto) : mAppO mo m st = ((mo st).o fun h st1 => match numAt h st1 with
  | none => .no
  | some k => match lstAt st1 k with
    | none => .no
    | some _ => (m st1).o fun r st2 => match lstAt st2 k with
      | some xs => if xs.length < LIM then .nx { st2 with S := st2.S.set k (.lst (xs ++ [r.d])) } else .no
      | none => .no) := rfl
theorem e_mMt (ty : String) (g : D → List D → Option Sl) (mo : MH) (ms : MHs) (st : Sto) : mMt ty g mo ms st = ((mo st).bnd fun h st1 => match h.at st1 with
  | some d => if tyN d = some ty then ((ms st1).bnd fun hs st2 => match h.at st2, atAll hs st2 with
    | some d', some ds => opt (g d' ds) st2
    | _, _ => .no) else .no
  | none => .no) := rfl
theorem e_mAstar (m : MH) (ms : MA) (st : Sto) : mAstar m ms st = ((m st).bnd fun h st1 => match h.at st1 with
  | some (.tup xs) => (ms st1).bnd fun ds st2 => .ok (xs ++ ds) st2
  | some (.lst xs) => (ms st1).bnd fun ds st2 => .ok (xs ++ ds) st2
  | _ => .no) := rfl
theorem e_mSl (m : MH) (ml mh : Sto → R (Option Int)) (st : Sto) : mSl m ml mh st = ((m st).bnd fun h st1 => (ml st1).bnd fun lo st2 => (mh st2).bnd fun hi st3 => match h.at st3 with
  | some d => opt (gSl d lo hi) st3
  | none => .no) := rfl
theorem e_mPart (m : MH) (st : Sto) : mPart m st = ((m st).bnd fun h st1 => match h.at st1 with
  | some (.int i) => .ok (some i) st1
  | _ => .no) := rfl
theorem e_mNoPart  (st : Sto) : mNoPart  st = (.ok none st) := rfl
theorem e_mBrk  (st : Sto) : mBrk  st = (.bk st) := rfl
theorem e_mIf {β : Type} (m : MB) (x y : Sto → R β) (st : Sto) : mIf m x y st = ((m st).bnd fun k st1 => if k then x st1 else y st1) := rfl
theorem e_mIx (ma mb : MH) (st : Sto) : mIx ma mb st = mBin gIx ma mb st := rfl
theorem e_mgName (i : Nat) (d : D) (ρ : List Sl) : mgName i d ρ = some (ρ.set i (.va d)) := rfl
theorem e_mgTup (n : Nat) (ms : MGs) (ds : List D) (ρ : List Sl) : mgTup n ms (.tup ds) ρ = if ds.length = n then ms ds ρ else none := rfl
theorem e_mgNil (ρ : List Sl) : mgNil [] ρ = some ρ := rfl
theorem e_mgCons (m : MG) (ms : MGs) (d : D) (ds : List D) (ρ : List Sl) : mgCons m ms (d :: ds) ρ = (match m d ρ with
  | some ρ' => ms ds ρ'
  | none => none) := by
  cases h : m d ρ <;> simp [mgCons, h]
end Mi

/-! zip of tuples, any number of them, taken by list() -/
namespace PySem
open Sem (wp)
section
variable {M : Model} {A : Around} {E : Value → Shared → Prop}
theorem wr_forIn {α β : Type} {f : α → β → Sem (ForInStep β)} {Q : β → Shared → Prop} (Inv : Nat → β → Shared → Prop) :
    ∀ (l : List α) (b : β) (s : Shared) (k : Nat), Inv k b s →
    (∀ j x b s, l[j]? = some x → Inv (k + j) b s → wpAny M A (f x b) (fun r s' => ∃ b', r = .yield b' ∧ Inv (k + j + 1) b' s') E s) →
    (∀ b s, Inv (k + l.length) b s → Q b s) → wpAny M A (forIn l b f) Q E s
  | [], b, s, k, h, _, q => by
    rw [List.forIn_nil]
    exact wpAny_pure (q b s h)
  | x :: l, b, s, k, h, step, q => by
    rw [List.forIn_cons]
    refine wpAny_bind (wpAny_mono (step 0 x b s rfl h) (fun r s' hr => ?_) fun _ _ z => z)
    obtain ⟨b', rfl, hb⟩ := hr
    refine wr_forIn Inv l b' s' (k + 1) hb (fun j y b s hj hi => ?_) fun b s hi => ?_
    · have := step (j + 1) y b s (by rw [List.getElem?_cons_succ]; exact hj) (by rw [show k + (j + 1) = k + 1 + j by omega]; exact hi)
      rw [show k + (j + 1) + 1 = k + 1 + j + 1 by omega] at this
      exact this
    · exact q b s (by rw [List.length_cons, show k + (l.length + 1) = k + 1 + l.length by omega]; exact hi)
end

/-- iterators over tuples, each at its own place -/
def Zn (h : Heap) (its ts : List Addr) (cols : List (Array Value)) (pos : Nat → Nat) : Prop :=
  ∀ j a, its[j]? = some a → ∃ t c, ts[j]? = some t ∧ cols[j]? = some c ∧ h.IsTupleIter a t (pos j) ∧ h.IsTuple t c
theorem Zn.keep {h h' : Heap} {its ts : List Addr} {cols : List (Array Value)} {pos : Nat → Nat} (Z : Zn h its ts cols pos)
    (k : ∀ b o, b ∈ its ∨ b ∈ ts → h.get? b = some o → h'.get? b = some o) : Zn h' its ts cols pos := fun j a e => by
  obtain ⟨t, c, e1, e2, h1, h2⟩ := Z j a e
  exact ⟨t, c, e1, e2, h1.at fun o q => k _ o (.inl (List.mem_of_getElem? e)) q, h2.at fun o q => k _ o (.inr (List.mem_of_getElem? e1)) q⟩
structure Za (z TI TO : Addr) (its ts : List Addr) : Prop where
  nd : ∀ (i j : Nat) (a : Addr), its[i]? = some a → its[j]? = some a → i = j
  zi : z ∉ its
  Ii : TI ∉ its
  Oi : TO ∉ its
  Iz : TI ≠ z
  Oz : TO ≠ z
  IO : TI ≠ TO
  ti : ∀ t ∈ ts, t ∉ its
  tz : z ∉ ts
  tO : TO ∉ ts
abbrev TupV (h : Heap) (a : Addr) (vs : List Value) : Prop := h.get? a = some { cls := .type "tuple", data := .seq vs.toArray }
def rowZ (cols : List (Array Value)) (i : Nat) : List Value := cols.map fun c => c.getD i .none
section
variable {prog : Program} {w : World} {A : Around} {E : Value → Shared → Prop} {s : Shared} {z TI TO T : Addr} {f : Bool} {oT : Obj}
  {its ts : List Addr} {cols : List (Array Value)} {i n : Nat}
theorem Zn.step {h h' : Heap} {pos : Nat → Nat} {j : Nat} {a : Addr} {t : Addr} (Z : Zn h its ts cols pos) (D : Za z TI TO its ts) (e : its[j]? = some a) (et : ts[j]? = some t)
    (hi : h'.IsTupleIter a t (pos j + 1)) (hs : Heap.SameBut a h h') : Zn h' its ts cols (fun m => if m = j then pos j + 1 else pos m) := fun m b eb => by
  obtain ⟨t', c, e1, e2, h1, h2⟩ := Z m b eb
  have tn : t' ≠ a := fun q => D.ti t' (List.mem_of_getElem? e1) (by rw [q]; exact List.mem_of_getElem? e)
  refine ⟨t', c, e1, e2, ?_, h2.extBut hs.extBut tn⟩
  show h'.IsTupleIter b t' (if m = j then pos j + 1 else pos m)
  by_cases q : m = j
  · subst q
    rw [eb] at e
    cases e
    rw [et] at e1
    cases e1
    rw [if_pos rfl]
    exact hi
  · rw [if_neg q]
    exact h1.extBut hs.extBut fun x => q (D.nd m j a (by rw [← x]; exact eb) e)
theorem wr_zip_held {Q : Value → Shared → Prop} (D : Za z TI TO its ts) (h0 : 0 < its.length) (hl : its.length = cols.length) (hc : ∀ c ∈ cols, i < c.size) (hsz : cols.length ≤ sizeLine)
    (hz : IsZipHeld s.heap z TI TO T f) (hT : s.heap.get? T = some oT) (hTI : TupV s.heap TI (its.map Value.ref)) (Z : Zn s.heap its ts cols fun _ => i)
    (hQ : ∀ h', IsZipHeld h' z TI TO T true → Zn h' its ts cols (fun _ => i + 1) → TupV h' s.heap.objs.size (rowZ cols i) → h'.objs.size = s.heap.objs.size + 1 →
      (∀ c o, c ≠ z → c ∉ its → s.heap.get? c = some o → h'.get? c = some o) → Q (.ref s.heap.objs.size) { s with heap := h' }) :
    wpAny (model prog w) A (Builtin.«zip.__next__» ⟨[.ref z], []⟩) (fun fin s' => ∃ v, fin = .done (.ret v) ∧ Q v s') E s := by
  show wpAny _ _ (field (.ref z) 2 >>= _) _ _ _
  refine wpAny_bind (wpAny_field hz rfl (x := .bool false) rfl ?_)
  show wpAny _ _ (field (.ref z) 3 >>= _) _ _ _
  refine wpAny_bind (wpAny_field hz rfl (x := .ref TI) rfl ?_)
  refine wpAny_bind (wpAny_seqItems hTI rfl ?_)
  have hne : ((its.map Value.ref).toArray.isEmpty) = false := by
    cases its with
    | nil => exact absurd h0 (by simp)
    | cons a l => rfl
  simp only [hne, Bool.false_eq_true, if_false]
  show wpAny _ _ (Builtin.SmallTypes.ownedTupleIsFree (.ref z) >>= _) _ _ _
  refine wpAny_bind (wpAny_tupleHeld_zip hz hT fun h₁ hz₁ hs₁ => ?_)
  simp only [Bool.false_eq_true, if_false]
  rw [← Array.forIn_toList]
  refine wpAny_bind (wr_forIn (fun j b s' => b = (none, ((rowZ cols i).take j).toArray) ∧ ∃ h', s' = { s with heap := h' } ∧ IsZipHeld h' z TI TO T true ∧
    Zn h' its ts cols (fun m => if m < j then i + 1 else i) ∧ h'.objs.size = s.heap.objs.size ∧ ∀ c o, c ≠ z → c ∉ its → s.heap.get? c = some o → h'.get? c = some o)
    (its.map Value.ref) _ _ 0 ⟨rfl, h₁, rfl, hz₁, ?_, hs₁.1, fun c o c1 _ e => hs₁.extBut _ _ c1 e⟩ (fun j x b s' hx hi => ?_) fun b s' hb => ?_)
  · refine (Z.keep (h' := h₁) fun b o hb e => hs₁.extBut _ _ (fun q => ?_) e)
    rw [q] at hb
    exact hb.elim D.zi D.tz
  · obtain ⟨rfl, h', rfl, hz', Z', hn, hk⟩ := hi
    rw [List.getElem?_map] at hx
    obtain ⟨a, ha, rfl⟩ := Option.map_eq_some_iff.mp hx
    obtain ⟨t, c, e1, e2, i1, i2⟩ := Z' j a ha
    rw [Nat.zero_add] at i1 ⊢
    have ci : i < c.size := hc c (List.mem_of_getElem? e2)
    have i1' : h'.IsTupleIter a t i := by
      have q := i1
      simp only [Nat.lt_irrefl, if_false] at q
      exact q
    have ga : c[i]? = some (c.getD i .none) := by simp [Array.getD, ci]
    refine wpAny_bind (wpAny_holding ?_)
    show wpAny _ _ (Builtin.SmallTypes.nextOf (.ref a) >>= _) _ _ _
    refine wpAny_bind (wpAny_nextOf_tuple_item (s := { s with heap := h' }) i1' i2 ga fun h'' it'' hs'' => wpAny_pure ?_)
    refine wpAny_pure ⟨_, rfl, ?_, h'', rfl, ?_, ?_, ?_, ?_⟩
    · have hr : (rowZ cols i)[j]? = some (c.getD i .none) := by
        unfold rowZ
        rw [List.getElem?_map, e2]
        rfl
      rw [List.take_add_one, hr]
      show (none, _) = (none, _)
      simp
    · exact hs''.extBut _ _ (fun q => D.zi (by rw [q]; exact List.mem_of_getElem? ha)) hz'
    · have := Z'.step D ha e1 (h' := h'') (by
        have q := it''
        simp only [Nat.zero_add, Nat.lt_irrefl, if_false]
        exact q) hs''
      intro m b eb
      obtain ⟨t', c', x1, x2, x3, x4⟩ := this m b eb
      refine ⟨t', c', x1, x2, ?_, x4⟩
      have e : (if m = j then (if j < 0 + j then i + 1 else i) + 1 else if m < 0 + j then i + 1 else i) = if m < 0 + j + 1 then i + 1 else i := by
        simp only [Nat.zero_add, Nat.lt_irrefl, if_false]
        by_cases q : m = j
        · rw [if_pos q, if_pos (by omega)]
        · rw [if_neg q]
          by_cases q2 : m < j
          · rw [if_pos q2, if_pos (by omega)]
          · rw [if_neg q2, if_neg (by omega)]
      simp only [Nat.zero_add] at e x3 ⊢
      rw [← e]
      exact x3
    · exact hs''.1.trans hn
    · exact fun c o c1 c2 e => hs''.extBut _ _ (fun q => c2 (by rw [q]; exact List.mem_of_getElem? ha)) (hk c o c1 c2 e)
  · obtain ⟨rfl, h', rfl, hz', Z', hn, hk⟩ := hb
    have lr : (rowZ cols i).length = its.length := by unfold rowZ; rw [List.length_map, hl]
    rw [show (rowZ cols i).take (0 + (its.map Value.ref).length) = rowZ cols i from by rw [Nat.zero_add, List.length_map, ← lr, List.take_length]]
    rw [Nat.zero_add, List.length_map] at Z'
    refine wpAny_bind (wpAny_newTuple ?_ (by show (rowZ cols i).length ≤ sizeLine; omega))
    refine wpAny_pure ⟨_, rfl, ?_⟩
    show Q (.ref h'.objs.size) _
    have hp : TupV (h'.push { cls := .type "tuple", data := .seq (rowZ cols i).toArray }) h'.objs.size (rowZ cols i) := Heap.get?_push_size _ rfl
    have hz4 : (h'.push { cls := .type "tuple", data := .seq (rowZ cols i).toArray }).objs.size = h'.objs.size + 1 := Heap.size_push ..
    have Z2 : Zn (h'.push { cls := .type "tuple", data := .seq (rowZ cols i).toArray }) its ts cols fun _ => i + 1 := fun m b eb => by
      obtain ⟨t', c', x1, x2, x3, x4⟩ := Z' m b eb
      have ml : m < its.length := (List.getElem?_eq_some_iff.mp eb).1
      simp only [ml, if_true] at x3
      exact ⟨t', c', x1, x2, x3.at fun o e => Heap.get?_push_of_some _ e, x4.at fun o e => Heap.get?_push_of_some _ e⟩
    rw [hn] at hp hz4 ⊢
    exact hQ _ (Heap.get?_push_of_some _ hz') Z2 hp hz4 fun c o c1 c2 e => Heap.get?_push_of_some _ (hk c o c1 c2 e)

theorem wr_zip_end {Q : Fin → Shared → Prop} (hh : A.handled = none) (D : Za z TI TO its ts) (h0 : 0 < its.length) (hc : ∀ c ∈ cols, c.size = i)
    (hz : IsZipHeld s.heap z TI TO T f) (hT : s.heap.get? T = some oT) (hTI : TupV s.heap TI (its.map Value.ref)) (Z : Zn s.heap its ts cols fun _ => i)
    (hE : ∀ h' e, (∀ c o, c ≠ z → c ∉ its → s.heap.get? c = some o → h'.get? c = some o) → (∃ o, h'.get? e = some o ∧ o.cls = .type "StopIteration") → E (.ref e) { s with heap := h' }) :
    wpAny (model prog w) A (Builtin.«zip.__next__» ⟨[.ref z], []⟩) Q E s := by
  show wpAny _ _ (field (.ref z) 2 >>= _) _ _ _
  refine wpAny_bind (wpAny_field hz rfl (x := .bool false) rfl ?_)
  show wpAny _ _ (field (.ref z) 3 >>= _) _ _ _
  refine wpAny_bind (wpAny_field hz rfl (x := .ref TI) rfl ?_)
  refine wpAny_bind (wpAny_seqItems hTI rfl ?_)
  cases its with
  | nil => exact absurd h0 (by simp)
  | cons a l =>
    have hne : (((a :: l).map Value.ref).toArray.isEmpty) = false := rfl
    simp only [hne, Bool.false_eq_true, if_false]
    show wpAny _ _ (Builtin.SmallTypes.ownedTupleIsFree (.ref z) >>= _) _ _ _
    refine wpAny_bind (wpAny_tupleHeld_zip hz hT fun h₁ hz₁ hs₁ => ?_)
    simp only [Bool.false_eq_true, if_false]
    rw [← Array.forIn_toList]
    refine wpAny_bind ?_
    show wpAny _ _ (forIn (Value.ref a :: l.map Value.ref) _ _) _ _ _
    rw [List.forIn_cons]
    refine wpAny_bind (wpAny_bind (wpAny_holding ?_))
    show wpAny _ _ (Builtin.SmallTypes.nextOf (.ref a) >>= _) _ _ _
    obtain ⟨t, c, e1, e2, i1, i2⟩ := Z 0 a rfl
    have az : a ≠ z := fun q => D.zi (by rw [← q]; exact List.mem_cons_self ..)
    have tz : t ≠ z := fun q => D.tz (by rw [← q]; exact List.mem_of_getElem? e1)
    refine wpAny_bind (wpAny_nextOf_tuple_end (s := { s with heap := h₁ }) hh (i1.extBut hs₁.extBut az) (i2.extBut hs₁.extBut tz)
      (by simp [hc c (List.mem_of_getElem? e2)]) fun h₂ e hs₂ he => ?_)
    exact hE h₂ e (fun c o c1 c2 x => hs₂ _ _ (fun q => c2 (by rw [q]; exact List.mem_cons_self ..)) (hs₁.extBut _ _ c1 x)) he
theorem wr_setMid {α : Type} {R old : List α} {j : Nat} {x : α} (h : R[j]? = some x) (l : j < old.length) :
    (R.take j ++ old.drop j).set j x = R.take (j + 1) ++ old.drop (j + 1) := by
  have lj : j < R.length := (List.getElem?_eq_some_iff.mp h).1
  have lt : (R.take j).length = j := by rw [List.length_take]; omega
  rw [List.set_append_right _ _ (by omega), lt, Nat.sub_self, List.drop_eq_getElem_cons l, List.set_cons_zero, List.take_add_one, h]
  simp
theorem wr_updTup {T : Addr} {vs : List Value} {x : Value} {k : Nat} {Q : Unit → Shared → Prop} (hT : TupV s.heap T vs) (hz : vs.length ≤ sizeLine)
    (h : ∀ h', TupV h' T (vs.set k x) → Heap.SameBut T s.heap h' → Q () { s with heap := h' }) :
    wpAny (model prog w) A (updateSeq T (·.setIfInBounds k x)) Q E s := by
  refine wpAny_updateSeq hT rfl (h _ ?_ (Heap.SameBut.update ..)) (by rw [List.size_toArray]; exact hz) (by rw [Array.size_setIfInBounds, List.size_toArray]; omega)
  show Heap.get? _ _ = _
  rw [Heap.get?_update_self _ hT rfl]
  simp [Obj.mapSeq]
theorem wr_zip_free {Q : Value → Shared → Prop} {old : List Value} (D : Za z TI TO its ts) (h0 : 0 < its.length) (hl : its.length = cols.length) (hc : ∀ c ∈ cols, i < c.size) (hsz : cols.length ≤ sizeLine)
    (hz : IsZip s.heap z TI TO .none) (hTI : TupV s.heap TI (its.map Value.ref)) (hTO : TupV s.heap TO old) (ho : old.length = its.length) (Z : Zn s.heap its ts cols fun _ => i)
    (hQ : ∀ h', IsZipHeld h' z TI TO s.heap.objs.size false → Zn h' its ts cols (fun _ => i + 1) → TupV h' s.heap.objs.size (rowZ cols i) → h'.objs.size = s.heap.objs.size + 1 →
      (∀ c o, c ≠ z → c ≠ TO → c ∉ its → s.heap.get? c = some o → h'.get? c = some o) → Q (.ref s.heap.objs.size) { s with heap := h' }) :
    wpAny (model prog w) A (Builtin.«zip.__next__» ⟨[.ref z], []⟩) (fun fin s' => ∃ v, fin = .done (.ret v) ∧ Q v s') E s := by
  show wpAny _ _ (field (.ref z) 2 >>= _) _ _ _
  refine wpAny_bind (wpAny_field hz rfl (x := .bool false) rfl ?_)
  show wpAny _ _ (field (.ref z) 3 >>= _) _ _ _
  refine wpAny_bind (wpAny_field hz rfl (x := .ref TI) rfl ?_)
  refine wpAny_bind (wpAny_seqItems hTI rfl ?_)
  have hne : ((its.map Value.ref).toArray.isEmpty) = false := by
    cases its with
    | nil => exact absurd h0 (by simp)
    | cons a l => rfl
  simp only [hne, Bool.false_eq_true, if_false]
  show wpAny _ _ (Builtin.SmallTypes.ownedTupleIsFree (.ref z) >>= _) _ _ _
  refine wpAny_bind ?_
  unfold Builtin.SmallTypes.ownedTupleIsFree
  refine wpAny_bind (wpAny_field hz rfl (x := .none) rfl (wpAny_pure ?_))
  simp only [if_true]
  refine wpAny_bind (wpAny_rule ?_)
  refine wpAny_bind (wpAny_field hz rfl (x := .ref TO) rfl ?_)
  refine wpAny_bind (wpAny_setField_rec hz (by simp) fun g0 hz0 hs0 => ?_)
  replace hz0 : IsZip g0 z TI TO .ellipsis := hz0
  replace hs0 : Heap.SameBut z s.heap g0 := hs0
  have lr : (rowZ cols i).length = its.length := by unfold rowZ; rw [List.length_map, hl]
  refine wpAny_bind (wr_forIn (fun j b s' => b = (none, ()) ∧ ∃ h', s' = { s with heap := h' } ∧ IsZip h' z TI TO .ellipsis ∧
    TupV h' TO ((rowZ cols i).take j ++ old.drop j) ∧
    Zn h' its ts cols (fun m => if m < j then i + 1 else i) ∧ h'.objs.size = s.heap.objs.size ∧ ∀ c o, c ≠ z → c ≠ TO → c ∉ its → s.heap.get? c = some o → h'.get? c = some o)
    (its.map Value.ref).zipIdx _ _ 0 ⟨rfl, g0, rfl, hz0, hs0.extBut _ _ D.Oz hTO, ?_, hs0.1, fun c o c1 _ _ e => hs0.extBut _ _ c1 e⟩ (fun j x b s' hx hi => ?_) fun b s' hb => ?_)
  · refine (Z.keep (h' := g0) fun b o hb e => hs0.extBut _ _ (fun q => ?_) e)
    rw [q] at hb
    exact hb.elim D.zi D.tz
  · obtain ⟨rfl, h', rfl, hz', hO', Z', hn, hk⟩ := hi
    rw [List.getElem?_zipIdx, List.getElem?_map] at hx
    obtain ⟨y, hy, rfl⟩ := Option.map_eq_some_iff.mp hx
    obtain ⟨a, ha, rfl⟩ := Option.map_eq_some_iff.mp hy
    obtain ⟨t, c, e1, e2, i1, i2⟩ := Z' j a ha
    simp only [Nat.zero_add] at i1 hO' Z' ⊢
    have ci : i < c.size := hc c (List.mem_of_getElem? e2)
    have i1' : h'.IsTupleIter a t i := by
      have q := i1
      simp only [Nat.lt_irrefl, if_false] at q
      exact q
    have ga : c[i]? = some (c.getD i .none) := by simp [Array.getD, ci]
    have lj : j < its.length := (List.getElem?_eq_some_iff.mp ha).1
    have ao : TO ≠ a := fun q => D.Oi (by rw [q]; exact List.mem_of_getElem? ha)
    refine wpAny_bind (wpAny_onRaise ?_)
    show wpAny _ _ (Builtin.SmallTypes.nextOf (.ref a) >>= _) _ _ _
    refine wpAny_bind (wpAny_nextOf_tuple_item (s := { s with heap := h' }) i1' i2 ga fun p it'' hs'' => wpAny_pure ?_)
    replace hs'' : Heap.SameBut a h' p := hs''
    have hU : TupV p TO ((rowZ cols i).take j ++ old.drop j) := hs''.extBut _ _ ao hO'
    refine wpAny_bind (wpAny_seqItems (s := { s with heap := p }) hU rfl ?_)
    have hr : (rowZ cols i)[j]? = some (c.getD i .none) := by
      unfold rowZ
      rw [List.getElem?_map, e2]
      rfl
    refine wpAny_bind (wr_updTup (s := { s with heap := p }) hU (by rw [List.length_append, List.length_take, List.length_drop]; omega) fun g1 hT1 hs1 => ?_)
    rw [wr_setMid hr (by omega)] at hT1
    replace hs1 : Heap.SameBut TO p g1 := hs1
    refine wpAny_bind (wpAny_letGo (wpAny_pure ⟨_, rfl, rfl, _, rfl, ?_, hT1, ?_, ?_, ?_⟩))
    · exact hs1.extBut _ _ D.Oz.symm (hs''.extBut _ _ (fun q => D.zi (by rw [q]; exact List.mem_of_getElem? ha)) hz')
    · have := (Z'.step D ha e1 (h' := p) (by
        have q := it''
        simp only [Nat.lt_irrefl, if_false]
        exact q) hs'').keep (h' := g1) fun b o hb e => hs1.extBut _ _ (fun q => by
          rw [q] at hb
          exact hb.elim D.Oi D.tO) e
      intro m b eb
      obtain ⟨t', c', x1, x2, x3, x4⟩ := this m b eb
      refine ⟨t', c', x1, x2, ?_, x4⟩
      have e : (if m = j then (if j < j then i + 1 else i) + 1 else if m < j then i + 1 else i) = if m < j + 1 then i + 1 else i := by
        simp only [Nat.lt_irrefl, if_false]
        by_cases q : m = j
        · rw [if_pos q, if_pos (by omega)]
        · rw [if_neg q]
          by_cases q2 : m < j
          · rw [if_pos q2, if_pos (by omega)]
          · rw [if_neg q2, if_neg (by omega)]
      show g1.IsTupleIter b t' (if m < j + 1 then i + 1 else i)
      rw [← e]
      exact x3
    · exact hs1.1.trans (hs''.1.trans hn)
    · exact fun c o c1 c2 c3 e => hs1.extBut _ _ c2 (hs''.extBut _ _ (fun q => c3 (by rw [q]; exact List.mem_of_getElem? ha)) (hk c o c1 c2 c3 e))
  · obtain ⟨rfl, h', rfl, hz', hO', Z', hn, hk⟩ := hb
    have ll : (its.map Value.ref).zipIdx.length = its.length := by rw [List.length_zipIdx, List.length_map]
    rw [Nat.zero_add, ll] at hO' Z'
    rw [show (rowZ cols i).take its.length ++ old.drop its.length = rowZ cols i from by rw [← lr, List.take_length, lr, ← ho, List.drop_length, List.append_nil]] at hO'
    refine wpAny_bind (wpAny_seqItems (s := { s with heap := h' }) hO' rfl ?_)
    refine wpAny_bind (wpAny_newTuple ?_ (by show (rowZ cols i).length ≤ sizeLine; omega))
    have zl : z < h'.objs.size := Heap.lt_size hz'
    refine wpAny_bind ?_
    show wpAny _ _ (Builtin.SmallTypes.ownedTupleHandOut (.ref z) (.ref h'.objs.size)) _ _ { s with heap := h'.push { cls := .type "tuple", data := .seq (rowZ cols i).toArray } }
    unfold Builtin.SmallTypes.ownedTupleHandOut
    have hz₆ : IsZip (h'.push { cls := .type "tuple", data := .seq (rowZ cols i).toArray }) z TI TO .ellipsis := Heap.get?_push_of_some _ hz'
    refine wpAny_bind (wpAny_setField_rec hz₆ (by simp) fun h₇ hz₇ hs₇ => ?_)
    replace hz₇ : IsZip h₇ z TI TO (rawInt h'.objs.size) := hz₇
    refine wpAny_setField_rec hz₇ (by simp) fun h₈ hz₈ hs₈ => ?_
    replace hz₈ : IsZip h₈ z TI TO (rawInt h'.objs.size) := hz₈
    replace hs₇ : Heap.SameBut z (h'.push { cls := .type "tuple", data := .seq (rowZ cols i).toArray }) h₇ := hs₇
    replace hs₈ : Heap.SameBut z h₇ h₈ := hs₈
    have up : ∀ c o, c ≠ z → h'.get? c = some o → h₈.get? c = some o := fun c o c1 e => hs₈.extBut _ _ c1 (hs₇.extBut _ _ c1 (Heap.get?_push_of_some _ e))
    have hT₈ : TupV h₈ h'.objs.size (rowZ cols i) := hs₈.extBut _ _ (Nat.ne_of_gt zl) (hs₇.extBut _ _ (Nat.ne_of_gt zl) (Heap.get?_push_size _ rfl))
    have hz8 : h₈.objs.size = h'.objs.size + 1 := by rw [hs₈.1, hs₇.1, Heap.size_push]
    have Z2 : Zn h₈ its ts cols fun _ => i + 1 := fun m b eb => by
      obtain ⟨t', c', x1, x2, x3, x4⟩ := Z' m b eb
      have ml : m < its.length := (List.getElem?_eq_some_iff.mp eb).1
      simp only [ml, if_true] at x3
      exact ⟨t', c', x1, x2, x3.at fun o e => up _ o (fun q => D.zi (by rw [← q]; exact List.mem_of_getElem? eb)) e, x4.at fun o e => up _ o (fun q => D.tz (by rw [← q]; exact List.mem_of_getElem? x1)) e⟩
    rw [hn] at hz₈ hT₈ hz8
    refine wpAny_pure ⟨_, rfl, ?_⟩
    show Q (.ref h'.objs.size) { s with heap := h₈ }
    rw [hn]
    exact hQ _ hz₈ Z2 hT₈ hz8 fun c o c1 c2 c3 e => up c o c1 (hk c o c1 c2 c3 e)

/-- a zip that stands at its i-th row -/
def ZSt (z TI TO : Addr) (its ts : List Addr) (cols : List (Array Value)) (i : Nat) (h : Heap) : Prop :=
  TupV h TI (its.map Value.ref) ∧ Zn h its ts cols (fun _ => i) ∧
    ((i = 0 ∧ IsZip h z TI TO .none ∧ ∃ old : List Value, old.length = its.length ∧ TupV h TO old) ∨
     ∃ T f vs, IsZipHeld h z TI TO T f ∧ TupV h T vs ∧ T ≠ z ∧ T ∉ its)
theorem ZSt.keep {h h' : Heap} (Z : ZSt z TI TO its ts cols i h) {S : Addr} {o : Obj} (hS : h.get? S = some o) (hc : o.cls ≠ .type "tuple")
    (hi : S ∉ its) (hz : S ≠ z) (ht : S ∉ ts) (k : ∀ b o, b ≠ S → h.get? b = some o → h'.get? b = some o) : ZSt z TI TO its ts cols i h' := by
  have nt : ∀ {T : Addr} {vs : List Value}, TupV h T vs → T ≠ S := fun {T vs} e q => by
    rw [q] at e
    have e' : h.get? S = some _ := e
    rw [hS] at e'
    exact hc (by rw [Option.some.inj e'])
  obtain ⟨h1, h2, h3⟩ := Z
  refine ⟨k _ _ (nt h1) h1, h2.keep fun b o hb e => k b o (fun q => ?_) e, ?_⟩
  · rw [q] at hb
    exact hb.elim hi ht
  · rcases h3 with ⟨e, a1, old, lo, a2⟩ | ⟨T, f, vs, a1, a2, n1, n2⟩
    · exact .inl ⟨e, k _ _ (Ne.symm hz) a1, old, lo, k _ _ (nt a2) a2⟩
    · exact .inr ⟨T, f, vs, k _ _ (Ne.symm hz) a1, k _ _ (nt a2) a2, n1, n2⟩
theorem ZSt.isZip {h : Heap} (Z : ZSt z TI TO its ts cols i h) : ∃ o, h.get? z = some o ∧ o.cls = .type "zip" := by
  obtain ⟨_, _, h3⟩ := Z
  rcases h3 with ⟨_, a1, _⟩ | ⟨_, _, _, a1, _⟩
  · exact ⟨_, a1, rfl⟩
  · exact ⟨_, a1, rfl⟩
theorem wr_next_zip {Q : Option Value → Shared → Prop} (D : Za z TI TO its ts) (h0 : 0 < its.length) (hl : its.length = cols.length) (hc : ∀ c ∈ cols, i < c.size) (hsz : cols.length ≤ sizeLine)
    (Z : ZSt z TI TO its ts cols i s.heap)
    (hQ : ∀ h', ZSt z TI TO its ts cols (i + 1) h' → TupV h' s.heap.objs.size (rowZ cols i) → h'.objs.size = s.heap.objs.size + 1 →
      (∀ c o, c ≠ z → c ≠ TO → c ∉ its → s.heap.get? c = some o → h'.get? c = some o) → Q (some (.ref s.heap.objs.size)) { s with heap := h' }) :
    wpAny (model prog w) A (pyNext (.ref z)) Q E s := by
  obtain ⟨o, ho, hcl⟩ := Z.isZip
  have hTy : s.TypeIs (.ref z) "zip" := ⟨o, ho, hcl⟩
  have zl : z < s.heap.objs.size := Heap.lt_size ho
  obtain ⟨h1, h2, h3⟩ := Z
  have nits : s.heap.objs.size ∉ its := fun m => by
    obtain ⟨j, hj⟩ := List.mem_iff_getElem?.mp m
    obtain ⟨t, c, _, _, ⟨o', q, _⟩, _⟩ := h2 j _ hj
    exact Nat.lt_irrefl _ (Heap.lt_size q)
  unfold pyNext
  refine wpAny_bind (wpAny_attempt (wpAny_callSpecial?_slot (name := Str.ofString "__next__") hTy F.slot_zip_next
    (wpAny_call_entry F.slot_zip_next hTy F.entry_zip_next ?_ (F.args_zip_next_1 _))))
  rcases h3 with ⟨e, a1, old, lo, a2⟩ | ⟨T, f, vs, a1, a2, n1, n2⟩
  · refine wr_zip_free D h0 hl hc hsz a1 h1 a2 lo h2 fun h' b1 b2 b3 b4 b5 => wpAny_pure ?_
    exact hQ h' ⟨b5 _ _ D.Iz D.IO D.Ii h1, b2, .inr ⟨_, _, _, b1, b3, Nat.ne_of_gt zl, nits⟩⟩ b3 b4 b5
  · refine wr_zip_held D h0 hl hc hsz a1 a2 h1 h2 fun h' b1 b2 b3 b4 b5 => wpAny_pure ?_
    exact hQ h' ⟨b5 _ _ D.Iz D.Ii h1, b2, .inr ⟨_, _, _, b1, b5 _ _ n1 n2 a2, n1, n2⟩⟩ b3 b4 fun c o c1 _ c3 e => b5 c o c1 c3 e
theorem wr_next_zipEnd {Q : Option Value → Shared → Prop} (hh : A.in1.handled = none) (D : Za z TI TO its ts) (h0 : 0 < its.length) (hc : ∀ c ∈ cols, c.size = i) (i0 : i ≠ 0)
    (Z : ZSt z TI TO its ts cols i s.heap)
    (hQ : ∀ h', (∀ c o, c ≠ z → c ∉ its → s.heap.get? c = some o → h'.get? c = some o) → Q none { s with heap := h' }) :
    wpAny (model prog w) A (pyNext (.ref z)) Q E s := by
  obtain ⟨o, ho, hcl⟩ := Z.isZip
  have hTy : s.TypeIs (.ref z) "zip" := ⟨o, ho, hcl⟩
  obtain ⟨h1, h2, h3⟩ := Z
  rcases h3 with ⟨e, _⟩ | ⟨T, f, vs, a1, a2, n1, n2⟩
  · exact absurd e i0
  unfold pyNext
  refine wpAny_bind (wpAny_attempt (wpAny_callSpecial?_slot (name := Str.ofString "__next__") hTy F.slot_zip_next
    (wpAny_call_entry F.slot_zip_next hTy F.entry_zip_next (wr_zip_end hh D h0 hc a1 a2 h1 h2 fun h' e hk he => ?_) (F.args_zip_next_1 _))))
  obtain ⟨o, ho, hc⟩ := he
  refine wpAny_bind (wpAny_isInstance (T := "StopIteration") (b := true) ⟨o, ho, hc⟩ isSubtype_stop ?_)
  exact wpAny_pure (hQ _ hk)
theorem zip_no_len : typeLookup (.type "zip") "__len__" = pure none := by rw [typeLookup_type, builtinLookup_eq_fast]; kernel_rfl
theorem zip_no_hint : typeLookup (.type "zip") "__length_hint__" = pure none := by rw [typeLookup_type, builtinLookup_eq_fast]; kernel_rfl
abbrev LstV (h : Heap) (a : Addr) (vs : List Value) : Prop := ∃ c, h.get? a = some { cls := .type "list", dict := none, data := .seq vs.toArray c, slots := #[] }
end
section
variable {prog : Program} {w : World} {A : Around} {R : Result → Shared → Prop} {z TI TO S : Addr} {its ts : List Addr} {cols : List (Array Value)} {n N0 : Nat}
theorem wr_zip_loop (hh : A.in1.in1.handled = none) (D : Za z TI TO its ts) (h0 : 0 < its.length) (hl : its.length = cols.length) (hc : ∀ c ∈ cols, c.size = n) (hsz : cols.length ≤ sizeLine)
    (hn : n ≤ sizeLine) (n0 : n ≠ 0) (hi : S ∉ its) (hz : S ≠ z) (ht : S ∉ ts) (hO : S ≠ TO) (res : Value) (h₀ : Heap) :
    ∀ (k i : Nat) (s : Shared) (bs : List Addr), n - i = k → i ≤ n → ZSt z TI TO its ts cols i s.heap → TO < s.heap.objs.size → LstV s.heap S (bs.map Value.ref) → bs.length = i →
    (∀ j b, bs[j]? = some b → (TupV s.heap b (rowZ cols j) ∧ b ∉ its ∧ b ≠ z ∧ b ≠ TO) ∧ N0 ≤ b ∧ b < s.heap.objs.size) → N0 ≤ s.heap.objs.size → (∀ (i j : Nat) (b : Addr), bs[i]? = some b → bs[j]? = some b → i = j) → (∀ c o, c ≠ z → c ≠ TO → c ∉ its → c ≠ S → h₀.get? c = some o → s.heap.get? c = some o) →
    (∀ (h' : Heap) (bs : List Addr), LstV h' S (bs.map Value.ref) → bs.length = n → (∀ j b, bs[j]? = some b → TupV h' b (rowZ cols j) ∧ N0 ≤ b) → (∀ (i j : Nat) (b : Addr), bs[i]? = some b → bs[j]? = some b → i = j) →
      (∀ c o, c ≠ z → c ≠ TO → c ∉ its → c ≠ S → h₀.get? c = some o → h'.get? c = some o) → R (.ok (.ret res)) { s with heap := h' }) →
    codeAny (model prog w) A (.builtin "list.extend.loop" ⟨[.ref S, .ref z, res], []⟩) R s := by
  intro k
  induction k with
  | zero =>
    intro i s bs hk hin Z tl hS lb hb hN hU hkp hR
    have e : i = n := by omega
    subst e
    refine codeAny_builtin F.entry_extend_loop ?_
    rw [Around.under_plainId F.plain_extend_loop _]
    show wpAny _ A.in1 (pyNext (.ref z) >>= _) _ _ s
    refine wpAny_bind (wr_next_zipEnd hh D h0 hc n0 Z fun h' hm => ?_)
    obtain ⟨c, hS⟩ := hS
    exact wpAny_pure (hR h' bs ⟨c, hm _ _ hz hi hS⟩ lb (fun j b e => ⟨hm _ _ (hb j b e).1.2.2.1 (hb j b e).1.2.1 (hb j b e).1.1, (hb j b e).2.1⟩) hU fun c o c1 c2 c3 c4 e => hm _ _ c1 c3 (hkp c o c1 c2 c3 c4 e))
  | succ k ih =>
    intro i s bs hk hin Z tl hS lb hb hN hU hkp hR
    refine codeAny_builtin F.entry_extend_loop ?_
    rw [Around.under_plainId F.plain_extend_loop _]
    show wpAny _ A.in1 (pyNext (.ref z) >>= _) _ _ s
    have zl : z < s.heap.objs.size := by obtain ⟨o, ho, _⟩ := Z.isZip; exact Heap.lt_size ho
    have nits : s.heap.objs.size ∉ its := fun m => by
      obtain ⟨j, hj⟩ := List.mem_iff_getElem?.mp m
      obtain ⟨t, c, _, _, ⟨o', q, _⟩, _⟩ := Z.2.1 j _ hj
      exact Nat.lt_irrefl _ (Heap.lt_size q)
    refine wpAny_bind (wr_next_zip D h0 hl (fun c m => by rw [hc c m]; omega) hsz Z fun h' Z' hT hs' hm => ?_)
    obtain ⟨c, hS⟩ := hS
    have hS' := hm S _ hz hO hi hS
    have sl : S < s.heap.objs.size := Heap.lt_size hS
    show wpAny _ A.in1 (updateSeq S (·.push (.ref s.heap.objs.size)) >>= _) _ _ _
    refine wpAny_bind ?_
    have up : ∀ {g : Heap}, Heap.SameBut S h' g → ∀ c o, c ≠ S → h'.get? c = some o → g.get? c = some o := fun hs c o c1 e => hs.extBut _ _ c1 e
    refine wpAny_updateSeq (s := { s with heap := h' }) hS' rfl (wpAny_pure ⟨plainId_quiet F.plain_extend_loop _, ih (i + 1) _ (bs ++ [s.heap.objs.size]) (by omega) (by omega) ?_ ?_ ?_ ?_ ?_ ?_ ?_ ?_ ?_⟩)
      (by rw [List.size_toArray, List.length_map]; omega) (by rw [Array.size_push, List.size_toArray, List.length_map]; omega)
    · exact Z'.keep hS' (show Value.type "list" ≠ Value.type "tuple" by decide) hi hz ht fun b o nb e => (Heap.get?_update_other _ _ (Ne.symm nb)).trans e
    · have q : (h'.update S (Obj.mapSeq (·.push (Value.ref s.heap.objs.size)))).objs.size = h'.objs.size := (Heap.SameBut.update ..).1
      show TO < (h'.update S (Obj.mapSeq (·.push (Value.ref s.heap.objs.size)))).objs.size
      rw [q, hs']
      exact Nat.lt_succ_of_lt tl
    · have q := Heap.get?_update_self (Obj.mapSeq (·.push (Value.ref s.heap.objs.size))) hS' rfl
      apply Exists.intro
      rw [show ((bs ++ [s.heap.objs.size]).map Value.ref).toArray = (bs.map Value.ref).toArray.push (.ref s.heap.objs.size) from by simp]
      exact q
    · rw [List.length_append, lb]; rfl
    · intro j b e
      rw [List.getElem?_append] at e
      have key : ∀ {x : Addr} {vs : List Value}, x ≠ S → TupV h' x vs → TupV (h'.update S (Obj.mapSeq (·.push (Value.ref s.heap.objs.size)))) x vs := fun nx e => (Heap.get?_update_other _ _ (Ne.symm nx)).trans e
      have sz : (h'.update S (Obj.mapSeq (·.push (Value.ref s.heap.objs.size)))).objs.size = s.heap.objs.size + 1 := (Heap.SameBut.update ..).1.trans hs'
      split at e
      · obtain ⟨⟨b1, b2, b3, b4⟩, b5, b6⟩ := hb j b e
        refine ⟨⟨key (fun q => ?_) (hm _ _ b3 b4 b2 b1), b2, b3, b4⟩, b5, Nat.lt_of_lt_of_eq (Nat.lt_succ_of_lt b6) sz.symm⟩
        rw [q] at b1
        have b1' : s.heap.get? S = some _ := b1
        rw [hS] at b1'
        have := congrArg (fun o : Option Obj => o.map (·.cls)) b1'
        exact absurd (Option.some.inj this) (show Value.type "list" ≠ Value.type "tuple" by decide)
      · have lj : j = bs.length := by
          have := (List.getElem?_eq_some_iff.mp e).1
          have l1 : [s.heap.objs.size].length = 1 := rfl
          omega
        subst lj
        rw [Nat.sub_self, List.getElem?_cons_zero] at e
        cases e
        rw [lb]
        exact ⟨⟨key (Nat.ne_of_gt sl) hT, nits, Nat.ne_of_gt zl, Nat.ne_of_gt tl⟩, hN, Nat.lt_of_lt_of_eq (Nat.lt_succ_self _) sz.symm⟩
    · have sz : (h'.update S (Obj.mapSeq (·.push (Value.ref s.heap.objs.size)))).objs.size = s.heap.objs.size + 1 := (Heap.SameBut.update ..).1.trans hs'
      exact Nat.le_trans hN (Nat.le_trans (Nat.le_succ _) (Nat.le_of_eq sz.symm))
    · intro x y b e1 e2
      have new : ∀ m, (bs ++ [s.heap.objs.size])[m]? = some b → (bs[m]? = some b ∧ b < s.heap.objs.size) ∨ (m = bs.length ∧ b = s.heap.objs.size) := fun m e => by
        rw [List.getElem?_append] at e
        split at e
        · exact .inl ⟨e, (hb m b e).2.2⟩
        · have lm : m = bs.length := by
            have := (List.getElem?_eq_some_iff.mp e).1
            have l1 : [s.heap.objs.size].length = 1 := rfl
            omega
          subst lm
          rw [Nat.sub_self, List.getElem?_cons_zero] at e
          exact .inr ⟨rfl, (Option.some.inj e).symm⟩
      rcases new x e1 with ⟨a1, a2⟩ | ⟨a1, a2⟩ <;> rcases new y e2 with ⟨c1, c2⟩ | ⟨c1, c2⟩
      · exact hU x y b a1 c1
      · rw [c2] at a2; exact absurd a2 (Nat.lt_irrefl _)
      · rw [a2] at c2; exact absurd c2 (Nat.lt_irrefl _)
      · rw [a1, c1]
    · intro c o c1 c2 c3 c4 e
      exact (Heap.get?_update_other _ _ (Ne.symm c4)).trans (hm _ _ c1 c2 c3 (hkp c o c1 c2 c3 c4 e))
    · exact hR

theorem wr_list_zip {E : Value → Shared → Prop} {s : Shared} {Q : Value → Shared → Prop} (hh : A.handled = none) (D : Za z TI TO its ts) (h0 : 0 < its.length) (hl : its.length = cols.length) (hc : ∀ c ∈ cols, c.size = n) (hsz : cols.length ≤ sizeLine)
    (hn : n ≤ sizeLine) (n0 : n ≠ 0) (hlt : its.length = ts.length) {old : List Value} (lo : old.length = its.length)
    (iz : IsZip s.heap z TI TO .none) (iI : TupV s.heap TI (its.map Value.ref)) (iO : TupV s.heap TO old) (iZ : Zn s.heap its ts cols fun _ => 0)
    (hQ : ∀ (h' : Heap) (bs : List Addr), LstV h' s.heap.objs.size (bs.map Value.ref) → bs.length = n → (∀ j b, bs[j]? = some b → TupV h' b (rowZ cols j) ∧ s.heap.objs.size ≤ b) →
      (∀ (i j : Nat) (b : Addr), bs[i]? = some b → bs[j]? = some b → i = j) →
      (∀ c o, c ≠ z → c ≠ TO → c ∉ its → s.heap.get? c = some o → h'.get? c = some o) → Q (.ref s.heap.objs.size) { s with heap := h' }) :
    wpAny (model prog w) A (call (.type "list") [.ref z]) Q E s := by
  have Z : ZSt z TI TO its ts cols 0 s.heap := ⟨iI, iZ, .inl ⟨rfl, iz, old, lo, iO⟩⟩
  have zl : z < s.heap.objs.size := Heap.lt_size iz
  have tl : TO < s.heap.objs.size := Heap.lt_size iO
  have nits : s.heap.objs.size ∉ its := fun m => by
    obtain ⟨j, hj⟩ := List.mem_iff_getElem?.mp m
    obtain ⟨t, c, _, _, ⟨o', q, _⟩, _⟩ := Z.2.1 j _ hj
    exact Nat.lt_irrefl _ (Heap.lt_size q)
  have nts : s.heap.objs.size ∉ ts := fun m => by
    obtain ⟨j, hj⟩ := List.mem_iff_getElem?.mp m
    have lj : j < its.length := by have := (List.getElem?_eq_some_iff.mp hj).1; omega
    obtain ⟨t, c, e1, _, _, ⟨o', q, _⟩⟩ := Z.2.1 j its[j] (List.getElem?_eq_getElem lj)
    rw [hj] at e1
    cases e1
    exact Nat.lt_irrefl _ (Heap.lt_size q)
  refine callType_codes (Q₁ := fun obj s₁ => obj = .ref s.heap.objs.size ∧ s₁ = { s with heap := s.heap.push { cls := .type "list", data := .seq #[] } }) F.called_list (F.typeCall_list_1 _) F.entry_list_init
    (code_list_new _ ⟨rfl, rfl⟩) fun obj s₁ h₁ => ?_
  obtain ⟨rfl, rfl⟩ := h₁
  have hS : (s.heap.push { cls := .type "list", data := .seq #[] }).get? s.heap.objs.size = some { cls := .type "list", data := .seq #[] } := Heap.get?_push_size _ rfl
  refine ⟨⟨_, hS, rfl⟩, F.args_list_init_2 _ _, ?_⟩
  generalize hS0 : s.heap.objs.size = S at *
  have Z1 : ZSt z TI TO its ts cols 0 (s.heap.push { cls := .type "list", data := .seq #[] }) :=
    ⟨Heap.get?_push_of_some _ iI, iZ.keep fun b o _ e => Heap.get?_push_of_some _ e, .inl ⟨rfl, Heap.get?_push_of_some _ iz, old, lo, Heap.get?_push_of_some _ iO⟩⟩
  show wpAny _ A.in1.in1 (Builtin.List.listItems (.ref S) >>= _) _ _ _
  refine wpAny_bind ?_
  unfold Builtin.List.listItems
  refine wpAny_bind (wpAny_seqItems hS rfl (wpAny_pure ?_))
  show wpAny _ A.in1.in1 (updateSeq S (fun _ => #[]) >>= _) _ _ _
  refine wpAny_bind (wpAny_updateSeq hS rfl ?_)
  have hS₂ := Heap.get?_update_self (Obj.mapSeq (fun _ => (#[] : Array Value))) hS rfl
  refine wpAny_bind (wpAny_letGo ?_)
  unfold Builtin.List.listExtendWith
  have Z2 : ZSt z TI TO its ts cols 0 ((s.heap.push { cls := .type "list", data := .seq #[] }).update S (Obj.mapSeq (fun _ => (#[] : Array Value)))) :=
    Z1.keep hS (show Value.type "list" ≠ Value.type "tuple" by decide) nits (Ne.symm (Nat.ne_of_lt zl)) nts fun b o nb e => (Heap.get?_update_other _ _ (Ne.symm nb)).trans e
  obtain ⟨oz, hoz, hcz⟩ := Z2.isZip
  refine wpAny_bind (wpAny_typeOf (show Shared.TypeIs _ (.ref z) "zip" from ⟨oz, hoz, hcz⟩) ?_)
  have h1 : Builtin.List.listSameRef (.ref S) (.ref z) = false := by simp [Builtin.List.listSameRef, Ne.symm (Nat.ne_of_lt zl)]
  have h2 : (Value.type "zip" == Value.type "list") = false := by decide
  have h3 : (Value.type "zip" == Value.type "tuple") = false := by decide
  simp only [h1, h2, h3, Bool.or_false, Bool.false_eq_true, if_false]
  have iz2 : IsZip ((s.heap.push { cls := .type "list", data := .seq #[] }).update S (Obj.mapSeq (fun _ => (#[] : Array Value)))) z TI TO .none :=
    (Heap.get?_update_other _ _ (Nat.ne_of_gt zl)).trans (Heap.get?_push_of_some _ iz)
  refine wpAny_bind (wpAny_pyIter_zip iz2 ?_)
  refine wpAny_bind (wpAny_holding ?_)
  unfold Builtin.List.listLengthHint
  refine wpAny_bind (wpAny_specialOf (show Shared.TypeIs _ (.ref z) "zip" from ⟨oz, hoz, hcz⟩) zip_no_len ?_)
  show wpAny _ _ (specialOf (Value.ref z) (Str.ofString "__length_hint__") >>= _) _ _ _
  refine wpAny_bind (wpAny_specialOf (show Shared.TypeIs _ (.ref z) "zip" from ⟨oz, hoz, hcz⟩) zip_no_hint ?_)
  refine wpAny_pure ?_
  show wpAny _ _ (rule "list.extend.makes-room" >>= fun _ => Builtin.List.listTouch (.ref S) >>= fun _ =>
    again (.builtin "list.extend.loop" ⟨[.ref S, .ref z, .none], []⟩)) _ _ _
  refine wpAny_bind (wpAny_rule (wpAny_bind ?_))
  show wpAny _ _ (updateSeq S (·.push .none) >>= fun _ => updateSeq S (·.pop)) _ _ _
  refine wpAny_bind (wpAny_updateSeq hS₂ rfl ?_)
  have hS₃ := Heap.get?_update_self (Obj.mapSeq (·.push Value.none)) hS₂ rfl
  refine wpAny_updateSeq (hz := by seq_fits) hS₃ rfl ?_
  have hS₄ := Heap.get?_update_self (Obj.mapSeq (·.pop)) hS₃ rfl
  have oth : ∀ b o, b ≠ S → s.heap.get? b = some o → ((((s.heap.push { cls := .type "list", data := .seq #[] }).update S (Obj.mapSeq (fun _ => (#[] : Array Value)))).update S (Obj.mapSeq (·.push Value.none))).update S (Obj.mapSeq (·.pop))).get? b = some o :=
    fun b o hb e => (Heap.get?_update_other _ _ (Ne.symm hb)).trans ((Heap.get?_update_other _ _ (Ne.symm hb)).trans ((Heap.get?_update_other _ _ (Ne.symm hb)).trans (Heap.get?_push_of_some _ e)))
  obtain ⟨c4, e4⟩ : ∃ c, ((((s.heap.push { cls := .type "list", data := .seq #[] }).update S (Obj.mapSeq (fun _ => (#[] : Array Value)))).update S (Obj.mapSeq (·.push Value.none))).update S (Obj.mapSeq (·.pop))).get? S = some { cls := .type "list", dict := none, data := .seq #[] c, slots := #[] } := ⟨_, hS₄⟩
  refine wpAny_pure ⟨plainId_quiet F.plain_extend_loop _, ?_⟩
  clear hS₄ hS₃ hS₂
  show codeAny _ _ _ _ { s with heap := ((((s.heap.push { cls := .type "list", data := .seq #[] }).update S (Obj.mapSeq (fun _ => (#[] : Array Value)))).update S (Obj.mapSeq (·.push Value.none))).update S (Obj.mapSeq (·.pop))) }
  generalize ((((s.heap.push { cls := .type "list", data := .seq #[] }).update S (Obj.mapSeq (fun _ => (#[] : Array Value)))).update S (Obj.mapSeq (·.push Value.none))).update S (Obj.mapSeq (·.pop))) = h4 at *
  have b4 : ∀ {b : Addr} {o : Obj}, s.heap.get? b = some o → h4.get? b = some o := fun {b o} e => oth b o (by rw [← hS0]; exact Nat.ne_of_lt (Heap.lt_size e)) e
  refine wr_zip_loop (prog := prog) (w := w) (A := A.in1) hh D h0 hl hc hsz hn n0 nits (Nat.ne_of_gt zl) nts (Nat.ne_of_gt tl) .none (N0 := S) s.heap n 0 { s with heap := h4 } ([] : List Addr) rfl (Nat.zero_le _) ?_ ?_ ⟨c4, e4⟩ rfl (fun j b e => by cases e) (Nat.le_of_lt (Heap.lt_size e4)) (fun i j b e => by cases e) ?_ fun h' bs x1 x2 x3 x5 x4 => ?_
  · exact ⟨b4 iI, iZ.keep fun b o _ e => b4 e, .inl ⟨rfl, b4 iz, old, lo, b4 iO⟩⟩
  · exact Heap.lt_size (b4 iO)
  · exact fun c o _ _ _ _ e => b4 e
  · exact ⟨rfl, hQ h' bs x1 x2 x3 x5 fun c o c1 c2 c3 e => x4 c o c1 c2 c3 (by rw [← hS0]; exact Nat.ne_of_lt (Heap.lt_size e)) e⟩
end
end PySem

namespace PySem
open Sem (wp)
theorem F.wr_typeCall_zip1 (a : Value) : checkTypeCall "zip" ⟨[a], []⟩ = pure () := by kernel_rfl
theorem F.wr_newCall_zip1 (a : Value) : checkBuiltinCall "zip.__new__" ⟨[.type "zip", a], []⟩ = pure () := by kernel_rfl
abbrev wzT (h : Heap) (o1 : Obj) : Heap := (h.push o1).push { cls := .type "tuple", data := .seq #[.ref h.objs.size] }
abbrev wzO (h : Heap) (o1 : Obj) : Heap := (wzT h o1).push { cls := .type "tuple", data := .seq #[.none] }
abbrev wzZ (h : Heap) (o1 : Obj) : Heap := (wzO h o1).push { cls := .type "zip", data := .fields #[.none, .bool false, .bool false, .ref (h.push o1).objs.size, .ref (wzT h o1).objs.size] }
theorem wr_meets_zip1 {v : Value} {o1 : Obj} {H1 : Heap → Prop} (B : Begins v o1 H1) :
    Meets (Builtin.«zip.__new__» ⟨[.type "zip", v], []⟩) (fun _ R s => H1 s.heap ∧
      R (.ok (.ret (.ref (wzO s.heap o1).objs.size))) { s with heap := wzZ s.heap o1 }) :=
  .of_wp fun prog w A R s h => by
    obtain ⟨hp, g, d, tk, os⟩ := s; obtain ⟨h1, h⟩ := h
    have hsub := sub_zip
    have q1 : ∀ {A' : Around} {E : Value → Shared → Prop} {Q : Value → Shared → Prop}, Q (.ref hp.objs.size) ⟨hp.push o1, g, d, tk, os⟩ → wpAny (model prog w) A' (pyIter v) Q E ⟨hp, g, d, tk, os⟩ :=
      fun q => B.iter prog w _ _ ⟨hp, g, d, tk, os⟩ _ h1 q
    wp_walk using q1
    exact ⟨_, rfl, h⟩
section
variable {prog : Program} {w : World} {A : Around} {E : Value → Shared → Prop} {s : Shared}
/-- where a new zip of these tuples stands -/
def ZNew (s : Shared) (ts : List Addr) (cols : List (Array Value)) (Q : Value → Shared → Prop) : Prop :=
  ∀ h', IsZip h' (s.heap.objs.size + ts.length + 2) (s.heap.objs.size + ts.length) (s.heap.objs.size + ts.length + 1) .none →
    TupV h' (s.heap.objs.size + ts.length) (((List.range ts.length).map fun j => s.heap.objs.size + j).map Value.ref) →
    TupV h' (s.heap.objs.size + ts.length + 1) (ts.map fun _ => Value.none) →
    Zn h' ((List.range ts.length).map fun j => s.heap.objs.size + j) ts cols (fun _ => 0) →
    (∀ c o, s.heap.get? c = some o → h'.get? c = some o) → Q (.ref (s.heap.objs.size + ts.length + 2)) { s with heap := h' }
theorem wr_zip1 {t1 : Addr} {c1 : Array Value} {Q : Value → Shared → Prop} (h1 : s.heap.IsTuple t1 c1) (h : ZNew s [t1] [c1] Q) :
    wpAny (model prog w) A (call (.type "zip") [.ref t1]) Q E s := by
  refine callType_new F.called_zip (by decide) (F.wr_typeCall_zip1 _) (F.wr_newCall_zip1 _) (fun obj => F.args_object_init_2 obj _) F.entry_zip_new
    (wr_meets_zip1 (begins_tuple t1 c1)) ⟨h1, ?_⟩
  generalize ho1 : ({ cls := .type "tuple_iterator", data := .fields #[.ref t1, .int 0 0] } : Obj) = o1
  have hf : o1.isFreed = false := by rw [← ho1]; rfl
  have z1 : (s.heap.push o1).objs.size = s.heap.objs.size + 1 := by rw [Heap.size_push]
  have zT : (wzT s.heap o1).objs.size = s.heap.objs.size + 2 := by rw [Heap.size_push, z1]
  have zO : (wzO s.heap o1).objs.size = s.heap.objs.size + 3 := by rw [Heap.size_push, zT]
  have gZ : (wzZ s.heap o1).get? (wzO s.heap o1).objs.size = some { cls := .type "zip", data := .fields #[.none, .bool false, .bool false, .ref (s.heap.push o1).objs.size, .ref (wzT s.heap o1).objs.size] } := Heap.get?_push_size _ rfl
  have gO : (wzZ s.heap o1).get? (wzT s.heap o1).objs.size = some { cls := .type "tuple", data := .seq #[.none] } := Heap.get?_push_of_some _ (Heap.get?_push_size _ rfl)
  have gT : (wzZ s.heap o1).get? (s.heap.push o1).objs.size = some { cls := .type "tuple", data := .seq #[.ref s.heap.objs.size] } := Heap.get?_push_of_some _ (Heap.get?_push_of_some _ (Heap.get?_push_size _ rfl))
  have g1 : (wzZ s.heap o1).get? s.heap.objs.size = some o1 := Heap.get?_push_of_some _ (Heap.get?_push_of_some _ (Heap.get?_push_of_some _ (Heap.get?_push_size _ hf)))
  have up : ∀ c o, s.heap.get? c = some o → (wzZ s.heap o1).get? c = some o := fun c o e => Heap.get?_push_of_some _ (Heap.get?_push_of_some _ (Heap.get?_push_of_some _ (Heap.get?_push_of_some _ e)))
  rw [zO, zT, z1] at gZ
  rw [zT] at gO
  rw [z1] at gT
  show _ ∧ _
  rw [zO]
  refine ⟨⟨_, gZ, rfl⟩, h _ gZ gT gO (fun j a e => ?_) up⟩
  match j, e with
  | 0, e =>
    cases e
    subst ho1
    exact ⟨t1, c1, rfl, rfl, ⟨_, g1, rfl, rfl⟩, h1.at fun o e => up _ _ e⟩
theorem wr_zip2 {t1 t2 : Addr} {c1 c2 : Array Value} {Q : Value → Shared → Prop} (h1 : s.heap.IsTuple t1 c1) (h2 : s.heap.IsTuple t2 c2) (h : ZNew s [t1, t2] [c1, c2] Q) :
    wpAny (model prog w) A (call (.type "zip") [.ref t1, .ref t2]) Q E s := by
  refine zip_begins2 (begins_tuple t1 c1) (begins_tuple t2 c2) h1 h2 fun h' gZ gT gO g1 g2 _ up => ?_
  refine h _ gZ gT gO (fun j a e => ?_) up
  match j, e with
  | 0, e => cases e; exact ⟨t1, c1, rfl, rfl, ⟨_, g1, rfl, rfl⟩, h1.at fun o e => up _ _ e⟩
  | 1, e => cases e; exact ⟨t2, c2, rfl, rfl, ⟨_, g2, rfl, rfl⟩, h2.at fun o e => up _ _ e⟩
theorem wr_zip3 {t1 t2 t3 : Addr} {c1 c2 c3 : Array Value} {Q : Value → Shared → Prop} (h1 : s.heap.IsTuple t1 c1) (h2 : s.heap.IsTuple t2 c2) (h3 : s.heap.IsTuple t3 c3) (h : ZNew s [t1, t2, t3] [c1, c2, c3] Q) :
    wpAny (model prog w) A (call (.type "zip") [.ref t1, .ref t2, .ref t3]) Q E s := by
  refine zip_begins3 (begins_tuple t1 c1) (begins_tuple t2 c2) (begins_tuple t3 c3) h1 h2 h3 fun h' gZ gT gO g1 g2 g3 _ up => ?_
  refine h _ gZ gT gO (fun j a e => ?_) up
  match j, e with
  | 0, e => cases e; exact ⟨t1, c1, rfl, rfl, ⟨_, g1, rfl, rfl⟩, h1.at fun o e => up _ _ e⟩
  | 1, e => cases e; exact ⟨t2, c2, rfl, rfl, ⟨_, g2, rfl, rfl⟩, h2.at fun o e => up _ _ e⟩
  | 2, e => cases e; exact ⟨t3, c3, rfl, rfl, ⟨_, g3, rfl, rfl⟩, h3.at fun o e => up _ _ e⟩
/-- list(zip(*ts)) for one to three tuples -/
theorem wr_listZip {ts : List Addr} {cols : List (Array Value)} {n : Nat} {Q : Value → Shared → Prop} (hh : A.handled = none) (hl : ts.length = cols.length) (h1 : 1 ≤ ts.length) (h3 : ts.length ≤ 3)
    (ht : ∀ (j : Nat) (t : Addr) (c : Array Value), ts[j]? = some t → cols[j]? = some c → s.heap.IsTuple t c) (hc : ∀ c ∈ cols, c.size = n) (hn : n ≤ sizeLine) (n0 : n ≠ 0)
    (hQ : ∀ (h' : Heap) (S : Addr) (bs : List Addr), s.heap.objs.size ≤ S → LstV h' S (bs.map Value.ref) → bs.length = n → (∀ j b, bs[j]? = some b → TupV h' b (rowZ cols j) ∧ s.heap.objs.size ≤ b) →
      (∀ (i j : Nat) (b : Addr), bs[i]? = some b → bs[j]? = some b → i = j) → (∀ c o, s.heap.get? c = some o → h'.get? c = some o) → Q (.ref S) { s with heap := h' }) :
    wpAny (model prog w) A (call (.type "zip") (ts.map Value.ref)) (fun z s' => wpAny (model prog w) A (call (.type "list") [z]) Q E s') E s := by
  have key : ZNew s ts cols (fun z s' => wpAny (model prog w) A (call (.type "list") [z]) Q E s') := by
    intro h' gZ gT gO gN up
    have old : ∀ t ∈ ts, t < s.heap.objs.size := fun t m => by
      obtain ⟨j, hj⟩ := List.mem_iff_getElem?.mp m
      have lj : j < cols.length := by have := (List.getElem?_eq_some_iff.mp hj).1; (try unfold Addr at *); omega
      obtain ⟨o, e, _⟩ := ht j t cols[j] hj (List.getElem?_eq_getElem lj)
      exact Heap.lt_size e
    have mits : ∀ a, a ∈ ((List.range ts.length).map fun j => s.heap.objs.size + j) → s.heap.objs.size ≤ a ∧ a < s.heap.objs.size + ts.length := fun a m => by
      obtain ⟨j, hj, rfl⟩ := List.mem_map.mp m
      have := List.mem_range.mp hj
      exact ⟨Nat.le_add_right .., Nat.add_lt_add_left this _⟩
    have D : Za (s.heap.objs.size + ts.length + 2) (s.heap.objs.size + ts.length) (s.heap.objs.size + ts.length + 1) ((List.range ts.length).map fun j => s.heap.objs.size + j) ts := by
      refine ⟨fun i j a e1 e2 => ?_, fun m => ?_, fun m => ?_, fun m => ?_, by (try unfold Addr at *); omega, by (try unfold Addr at *); omega, by (try unfold Addr at *); omega, fun t m m2 => ?_, fun m => ?_, fun m => ?_⟩
      · rw [List.getElem?_map] at e1 e2
        obtain ⟨x, hx, rfl⟩ := Option.map_eq_some_iff.mp e1
        obtain ⟨y, hy, e⟩ := Option.map_eq_some_iff.mp e2
        obtain ⟨lx, ex⟩ := List.getElem?_eq_some_iff.mp hx
        obtain ⟨ly, ey⟩ := List.getElem?_eq_some_iff.mp hy
        rw [List.getElem_range] at ex ey
        (try unfold Addr at *); omega
      · have := mits _ m; (try unfold Addr at *); omega
      · have := mits _ m; (try unfold Addr at *); omega
      · have := mits _ m; (try unfold Addr at *); omega
      · have := mits _ m2; have := old _ m; (try unfold Addr at *); omega
      · have := old _ m; (try unfold Addr at *); omega
      · have := old _ m; (try unfold Addr at *); omega
    have li : ((List.range ts.length).map fun j => s.heap.objs.size + j).length = ts.length := by rw [List.length_map, List.length_range]
    refine wr_list_zip (s := { s with heap := h' }) (n := n) hh D (by (try unfold Addr at *); omega) (by (try unfold Addr at *); omega) hc (Nat.le_trans (by (try unfold Addr at *); omega) (show 3 ≤ sizeLine by decide)) hn n0 li (old := ts.map fun _ => Value.none) (by rw [List.length_map, li]) gZ gT gO gN fun h'' bs b1 b2 b3 b5 b4 => ?_
    have hs : s.heap.objs.size ≤ h'.objs.size := Nat.le_of_lt (Nat.lt_of_le_of_lt (by (try unfold Addr at *); omega) (Heap.lt_size gZ))
    refine hQ h'' _ bs ?_ b1 b2 (fun j b e => ⟨(b3 j b e).1, Nat.le_trans hs (b3 j b e).2⟩) b5 fun c o e => ?_
    · exact hs
    · have lc := Heap.lt_size e
      exact b4 c o (by (try unfold Addr at *); omega) (by (try unfold Addr at *); omega) (fun m => by have := mits _ m; (try unfold Addr at *); omega) (up c o e)
  match ts, cols, hl, h1, h3, ht, key with
  | [t1], [c1], _, _, _, ht, key => exact wr_zip1 (ht 0 _ _ rfl rfl) key
  | [t1, t2], [c1, c2], _, _, _, ht, key => exact wr_zip2 (ht 0 _ _ rfl rfl) (ht 1 _ _ rfl rfl) key
  | [t1, t2, t3], [c1, c2, c3], _, _, _, ht, key => exact wr_zip3 (ht 0 _ _ rfl rfl) (ht 1 _ _ rfl rfl) (ht 2 _ _ rfl rfl) key
end
end PySem

/-! list(zip(*tuples)) -/
namespace Wr
open PySem PySem.Spec PyProof.Rows L2
section
variable {X : Cx} {pins : List (Addr × Obj)} {σ : L2.St} {H H' : Hp} {s : Shared} {h' : Heap}
/-- several new objects laid and tracked at once -/
theorem Inv_many (I : Inv X pins σ H s) (k : ∀ b u, s.heap.get? b = some u → h'.get? b = some u) (hs : Same H H')
    (hn : ∀ a o, H' a = some o → H a = some o ∨ (s.heap.get? a = none ∧ H a = none ∧ ObjOk X.prog X.w H' h' a o)) :
    Inv X pins σ H' { s with heap := h' } := by
  refine I.un (t' := s.toks) ⟨fun b o e _ _ _ => k b o e, fun b o e _ _ _ => ⟨o.slots, k b o e⟩, fun b o e n _ => ?_, fun b o e _ => ⟨o, k b o e⟩, fun b xs e => hs _ _ e, fun b o u e => hs _ _ e, fun b ps e => ⟨#[], by rw [hs _ _ e]; simp⟩⟩ fun a o e => ?_
  · cases q : H' b with
    | none => rfl
    | some u =>
      rcases hn b u q with x | ⟨x, _⟩
      · rw [n] at x; cases x
      · rw [e] at x; cases x
  · rcases hn a o e with x | ⟨_, _, x⟩
    · exact (I.hok a o x).stay (fun b u _ q => k b u q) (fun b q => hs _ _ q) fun b xs q => hs _ _ q
    · exact x
theorem cols_of {K : PySem.W.Frag} (I : Inv X pins σ H s) (hK : X.K = K) : ∀ (ts : List Addr) (rows : List (List V)), ts.length = rows.length →
    (∀ (j : Nat) t r, ts[j]? = some t → rows[j]? = some r → SqT K H t r) →
    ∃ cols : List (Array Value), cols.length = ts.length ∧ ∀ (j : Nat) t r c, ts[j]? = some t → rows[j]? = some r → cols[j]? = some c →
      Vals r c.toList ∧ s.heap.IsTuple t c
  | [], [], _, _ => ⟨[], rfl, fun j t r c e => by cases e⟩
  | t :: ts, r :: rows, hl, h => by
    subst hK
    obtain ⟨cols, lc, hc⟩ := cols_of I rfl ts rows (by simpa using hl) fun j t' r' e1 e2 => h (j + 1) t' r' (by rw [List.getElem?_cons_succ]; exact e1) (by rw [List.getElem?_cons_succ]; exact e2)
    obtain ⟨its, rv, p, _⟩ := I.tuple (h 0 t r rfl rfl)
    refine ⟨its.toArray :: cols, by simp [lc], fun j t' r' c e1 e2 e3 => ?_⟩
    cases j with
    | zero =>
      cases e1; cases e2; cases e3
      exact ⟨rv, p⟩
    | succ j =>
      rw [List.getElem?_cons_succ] at e1 e2 e3
      exact hc j t' r' c e1 e2 e3
  | [], r :: rows, hl, _ => by simp at hl
  | t :: ts, [], hl, _ => by simp at hl
def rowV (rows : List (List V)) (i : Nat) : List V := rows.map fun r => r.getD i .non
def tLZ (K : PySem.W.Frag) (te : TE) : TE := fun σ H Q => te σ H fun x H1 => ∃ (a : Addr) (ts : List Addr) (rows : List (List V)) (n : Nat),
  x = .ref a ∧ SqT K H1 a (ts.map V.ref) ∧ ts.length = rows.length ∧ 1 ≤ ts.length ∧ ts.length ≤ 3 ∧
  (∀ (j : Nat) t r, ts[j]? = some t → rows[j]? = some r → SqT K H1 t r) ∧ (∀ r ∈ rows, r.length = n) ∧ n ≠ 0 ∧ n ≤ sizeLine ∧
  ∀ (H' : Hp) (S : Addr) (bs : List Addr), Same H1 H' → H1 S = none → H' S = some (.lst (bs.map V.ref)) → bs.length = n →
    (∀ (i : Nat) b, bs[i]? = some b → H' b = some (.tup (rowV rows i))) → Q (.ref S) H'
theorem vals_refs : ∀ {ts : List Addr} {us : List Value}, Vals (ts.map V.ref) us → us = ts.map Value.ref
  | [], _, .nil => rfl
  | t :: ts, _, .cons a r => by
    have e : _ = Value.ref t := a
    rw [vals_refs (ts := ts) r, e]
    rfl
theorem vals_ofRefs : ∀ ts : List Addr, Vals (ts.map V.ref) (ts.map Value.ref)
  | [] => .nil
  | t :: ts => .cons rfl (vals_ofRefs ts)
theorem vals_row {n i : Nat} (hi : i < n) : ∀ {rows : List (List V)} {cols : List (Array Value)}, rows.length = cols.length →
    (∀ (j : Nat) r c, rows[j]? = some r → cols[j]? = some c → r.length = n ∧ Vals r c.toList) → Vals (rowV rows i) (PySem.rowZ cols i)
  | [], [], _, _ => .nil
  | r :: rows, c :: cols, hl, h => by
    obtain ⟨ln, rv⟩ := h 0 r c rfl rfl
    have lc := rv.length
    refine .cons ?_ (vals_row hi (by simpa using hl) fun j r' c' e1 e2 => h (j + 1) r' c' (by rw [List.getElem?_cons_succ]; exact e1) (by rw [List.getElem?_cons_succ]; exact e2))
    have e : r[i]? = some (r.getD i .non) := by
      rw [List.getD_eq_getElem?_getD]
      rw [List.getElem?_eq_getElem (by omega)]
      rfl
    obtain ⟨u, hu, ru⟩ := rv.get e
    have hu' : c[i]? = some u := by rw [← Array.getElem?_toList]; exact hu
    have hc : c.getD i .none = u := by rw [Array.getD_eq_getD_getElem?, hu']; rfl
    show L2.RelV (r.getD i .non) (c.getD i .none)
    rw [hc]
    exact ru
  | [], c :: cols, hl, _ => by simp at hl
  | r :: rows, [], hl, _ => by simp at hl
theorem pe_listZip {K : PySem.W.Frag} {e : Expr} {te : TE} {p1 p2 sp pos1 pos2 : Pos} (hK : X.K = K) (hc : X.calm = true) (he : PE X e te)
    (hg1 : Gl X "list") (hm1 : X.mg "list" = none) (hg2 : Gl X "zip") (hm2 : X.mg "zip" = none)
    (hst : starEach [.Starred e sp] X.env = [(true, eval e X.env)] := by rfl) :
    PE X (.Call (.Name "list" p1) [.Call (.Name "zip" p2) [.Starred e sp] [] pos2] [] pos1) (tLZ K te) := by
  subst hK
  refine ⟨fun pins s σ H Q I h => ?_⟩
  refine wpAny_Call_Name_kw (ld_blt I hg1 hm1 (by rfl) ?_ (by decide) (by decide))
  refine PyProof.Rows.callWith_type1 ?_ (by rfl) (by rfl)
  show wpAny _ _ (spliced [(false, _)]) _ _ s
  refine Calls.spliced_cons ?_
  refine wpAny_mono (E := X.xe) ?_ (fun v s1 h1 => Calls.spliced_nil h1) fun _ _ z => z
  show wpAny _ _ (eval (.Call (.Name "zip" p2) [.Starred e sp] [] pos2) X.env) _ _ s
  refine wpAny_Call_Name_kw (ld_blt I hg2 hm2 (by rfl) ?_ (by decide) (by decide))
  rw [hst]
  refine PySem.W.ks_call (P := fun _ => True) rfl (fun h _ => ⟨.machine, .inr (.inl rfl), PySem.W.Looks.now⟩) (PySem.W.ks_lone (thn (he.run pins s σ H _ I h) fun v s1 ⟨y, H1, I1, ry, a, ts, rows, n, ey, hxs, hl, l1, l3, hrow, hlen, n0, hn, q⟩ => ?_))
  subst ey
  obtain rfl : v = Value.ref a := ry
  refine StX.star_any I1 (.inl hxs) fun us s2 I2 rv => ⟨trivial, ?_⟩
  obtain rfl := vals_refs rv
  obtain ⟨cols, lc, hcol⟩ := cols_of I2 rfl ts rows hl hrow
  have lrc : rows.length = cols.length := hl.symm.trans lc.symm
  have rows_at : ∀ (j : Nat) (c : Array Value), cols[j]? = some c → ∃ t r, ts[j]? = some t ∧ rows[j]? = some r := fun j c e => by
    have lj := (List.getElem?_eq_some_iff.mp e).1
    exact ⟨_, _, List.getElem?_eq_getElem (by omega), List.getElem?_eq_getElem (by omega)⟩
  refine wpAny_mono (PySem.wr_listZip (A := X.A) (E := X.xe) (ts := ts) (cols := cols) (n := n) (Q := EP X pins σ Q) (I2.ok.hd hc) lc.symm l1 l3 (fun j t c e1 e2 => ?_) (fun c m => ?_) hn n0 fun h' S bs b0 b1 b2 b3 b5 b4 => ?_) (fun _ _ z => z) fun _ _ z => z
  · obtain ⟨t', r, x1, x2⟩ := rows_at j c e2
    exact (hcol j t r c e1 x2 e2).2
  · obtain ⟨j, hj⟩ := List.mem_iff_getElem?.mp m
    obtain ⟨t, r, x1, x2⟩ := rows_at j c hj
    have := (hcol j t r c x1 x2 hj).1.length
    have l := hlen r (List.mem_of_getElem? x2)
    rw [← Array.length_toList]
    omega
  · classical
    have nS : H1 S = none := I2.hok.fresh b0
    have nb : ∀ (i : Nat) b, bs[i]? = some b → H1 b = none := fun i b e => I2.hok.fresh (b3 i b e).2
    have sS : s2.heap.get? S = none := Heap.get?_none_of_le b0
    obtain ⟨cS, eS⟩ := b1
    have Sb : ∀ (i : Nat) b, bs[i]? = some b → b ≠ S := fun i b e z => by
      have t := (b3 i b e).1
      rw [z] at t
      have t' : h'.get? S = some _ := t
      rw [eS] at t'
      exact absurd (congrArg Obj.cls (Option.some.inj t')) (show Value.type "list" ≠ Value.type "tuple" by decide)
    let H' : Hp := fun a => if a = S then some (.lst (bs.map V.ref)) else
      if h : ∃ i : Nat, bs[i]? = some a then some (.tup (rowV rows h.choose)) else H1 a
    have HS : H' S = some (.lst (bs.map V.ref)) := if_pos rfl
    have Hb : ∀ (i : Nat) b, bs[i]? = some b → H' b = some (.tup (rowV rows i)) := fun i b e => by
      show (if b = S then _ else _) = _
      rw [if_neg (Sb i b e)]
      have hx : ∃ i : Nat, bs[i]? = some b := ⟨i, e⟩
      rw [dif_pos hx, b5 _ _ b hx.choose_spec e]
    have Ho : ∀ b, b ≠ S → (∀ i : Nat, bs[i]? ≠ some b) → H' b = H1 b := fun b h1 h2 => by
      show (if b = S then _ else _) = _
      rw [if_neg h1, dif_neg fun ⟨i, e⟩ => h2 i e]
    have sm : Same H1 H' := fun b o e => by
      rw [Ho b (fun z => by rw [z, nS] at e; cases e) (fun i z => by rw [nb i b z] at e; cases e)]
      exact e
    refine ⟨V.ref S, H', Inv_many I2 b4 sm fun b o e => ?_, rfl, q H' S bs sm nS HS b2 Hb⟩
    by_cases zS : b = S
    · subst zS
      rw [HS] at e
      cases e
      refine .inr ⟨sS, nS, ?_⟩
      exact ⟨by rw [List.length_map]; omega, bs.map Value.ref, cS, vals_ofRefs bs, eS⟩
    · by_cases zb : ∃ i : Nat, bs[i]? = some b
      · obtain ⟨i, hi⟩ := zb
        rw [Hb i b hi] at e
        cases e
        obtain ⟨t, le⟩ := b3 i b hi
        have li : i < n := by rw [← b2]; exact (List.getElem?_eq_some_iff.mp hi).1
        refine .inr ⟨Heap.get?_none_of_le le, nb i b hi, ?_, PySem.rowZ cols i, vals_row li lrc fun j r c e1 e2 => ⟨hlen r (List.mem_of_getElem? e1), ?_⟩, ⟨_, t, rfl, _, rfl⟩⟩
        · unfold rowV
          rw [List.length_map, ← hl]
          exact Nat.le_trans l3 (by decide)
        · obtain ⟨t', r', x1, x2⟩ := rows_at j c e2
          rw [e1] at x2
          cases x2
          exact (hcol j t' r c x1 e1 e2).1
      · rw [Ho b zS fun i z => zb ⟨i, z⟩] at e
        exact .inl e
end
end Wr

/-! partitions refined -/
namespace Wr
open PySem PySem.Spec PyProof.Rows L2
section
variable {α β : Type} [DecidableEq α] [DecidableEq β] {f : α → β}
theorem plc_map (hf : ∀ a b, f a = f b → a = b) (x : α) : ∀ l : List α, plc (f x) (l.map f) = plc x l
  | [] => rfl
  | y :: l => by
    rw [List.map_cons]
    simp only [plc]
    by_cases e : y = x
    · rw [if_pos e, if_pos (by rw [e])]
    · rw [if_neg e, if_neg (fun z => e (hf _ _ z)), plc_map hf x l]
theorem mem_mapI (hf : ∀ a b, f a = f b → a = b) {x : α} {l : List α} : f x ∈ l.map f ↔ x ∈ l := by
  refine ⟨fun h => ?_, fun h => List.mem_map_of_mem h⟩
  obtain ⟨y, m, e⟩ := List.mem_map.mp h
  rw [← hf _ _ e]
  exact m
theorem sn_map (hf : ∀ a b, f a = f b → a = b) (x : α) (l : List α) : sn (l.map f) (f x) = (sn l x).map f := by
  unfold sn
  by_cases h : x ∈ l
  · rw [if_pos h, if_pos ((mem_mapI hf).mpr h)]
  · rw [if_neg h, if_neg (fun z => h ((mem_mapI hf).mp z)), List.map_append]
    rfl
theorem canL_map (hf : ∀ a b, f a = f b → a = b) : ∀ (xs seen : List α), canL (seen.map f) (xs.map f) = canL seen xs
  | [], _ => rfl
  | x :: xs, seen => by
    rw [List.map_cons]
    simp only [canL]
    rw [sn_map hf, plc_map hf, canL_map hf xs]
end
def rowsI (cols : List (List Int)) : List (List Int) := (List.range (cols.headD []).length).map fun i => cols.map fun c => c.getD i 0
theorem rowsI_of {cols : List (List Int)} {n : Nat} (h0 : cols ≠ []) (h : ∀ c ∈ cols, c.length = n) :
    rowsI cols = (List.range n).map fun i => cols.map fun c => c.getD i 0 := by
  cases cols with
  | nil => exact absurd rfl h0
  | cons c cols =>
    unfold rowsI
    rw [List.headD_cons, h c (List.mem_cons_self ..)]
def rotL {α : Type} (l : List α) : List α := l.drop 1 ++ l.take 1
theorem rotL_inj {α : Type} (a b : List α) (h : rotL a = rotL b) : a = b := by
  cases a with
  | nil =>
    cases b with
    | nil => rfl
    | cons y b => have := congrArg List.length h; simp [rotL] at this
  | cons x a =>
    cases b with
    | nil => have := congrArg List.length h; simp [rotL] at this
    | cons y b =>
      have h' : a ++ [x] = b ++ [y] := h
      obtain ⟨h1, h2⟩ := List.append_inj' h' rfl
      rw [h1, (List.cons.inj h2).1]
theorem rowsI_rev {cols : List (List Int)} {n : Nat} (h0 : cols ≠ []) (h : ∀ c ∈ cols, c.length = n) :
    canL [] (rowsI cols.reverse) = canL [] (rowsI cols) := by
  rw [rowsI_of (n := n) (by simpa using h0) (fun c m => h c (List.mem_reverse.mp m)), rowsI_of h0 h]
  rw [show ((List.range n).map fun i => cols.reverse.map fun c => c.getD i 0) = ((List.range n).map fun i => cols.map fun c => c.getD i 0).map List.reverse from by
    rw [List.map_map]
    refine List.map_congr_left fun i _ => ?_
    show _ = List.reverse _
    rw [List.map_reverse]]
  exact canL_map (f := List.reverse) (fun a b e => List.reverse_inj.mp e) _ []
theorem rowsI_rot {cols : List (List Int)} {n : Nat} (h0 : cols ≠ []) (h : ∀ c ∈ cols, c.length = n) :
    canL [] (rowsI (rotL cols)) = canL [] (rowsI cols) := by
  rw [rowsI_of (n := n) (cols := rotL cols) (fun e => h0 (rotL_inj _ _ e)) (fun c m => h c ?_), rowsI_of h0 h]
  · rw [show ((List.range n).map fun i => (rotL cols).map fun c => c.getD i 0) = ((List.range n).map fun i => cols.map fun c => c.getD i 0).map rotL from by
      rw [List.map_map]
      refine List.map_congr_left fun i _ => ?_
      show _ = rotL _
      unfold rotL
      rw [List.map_append, List.map_drop, List.map_take]]
    exact canL_map (f := rotL) rotL_inj _ []
  · unfold rotL at m
    rcases List.mem_append.mp m with z | z
    · exact List.mem_of_mem_drop z
    · exact List.mem_of_mem_take z
theorem rowV_ints (cols : List (List Int)) (i : Nat) (h : ∀ c ∈ cols, i < c.length) :
    rowV (cols.map fun c => c.map V.int) i = (cols.map fun c => c.getD i 0).map V.int := by
  unfold rowV
  rw [List.map_map, List.map_map]
  refine List.map_congr_left fun c m => ?_
  have := h c m
  show (c.map V.int).getD i .non = V.int (c.getD i 0)
  rw [List.getD_eq_getElem?_getD, List.getElem?_map, List.getElem?_eq_getElem this, List.getD_eq_getElem?_getD, List.getElem?_eq_getElem this]
  rfl
/-- rows of labels, all of them valid: their numbers -/
theorem labs_cols : ∀ {ds : List PyData}, ds.all isLabD = true → ds = (ds.map numsD).map rowD
  | [], _ => rfl
  | d :: ds, h => by
    rw [List.all_cons, Bool.and_eq_true] at h
    obtain ⟨ns, rfl, _⟩ := isLab_form h.1
    rw [List.map_cons, List.map_cons, numsD_ints, ← labs_cols h.2]
    rfl
theorem alike_len {ds : List PyData} (h : alikeL ds = true) (hl : ds.all isLabD = true) :
    ds.map numsD ≠ [] ∧ ∃ n : Nat, 1 ≤ n ∧ n ≤ 12 ∧ ∀ c ∈ ds.map numsD, c.length = n := by
  cases ds with
  | nil => cases h
  | cons d ds =>
    have len : ∀ e, isLabD e = true → (numsD e).length = lenD e ∧ 1 ≤ lenD e ∧ lenD e ≤ 12 := fun e he => by
      obtain ⟨ns, rfl, h1, h2, _⟩ := isLab_form he
      rw [numsD_ints]
      refine ⟨?_, ?_, ?_⟩
      · show ns.length = (ns.map PyData.int).length
        rw [List.length_map]
      · show 1 ≤ (ns.map PyData.int).length
        rw [List.length_map]; exact h1
      · show (ns.map PyData.int).length ≤ 12
        rw [List.length_map]; exact h2
    have hd := len d (List.all_eq_true.mp hl d (List.mem_cons_self ..))
    refine ⟨by simp, lenD d, hd.2.1, hd.2.2, fun c m => ?_⟩
    obtain ⟨e, me, rfl⟩ := List.mem_map.mp m
    have h2 := List.all_eq_true.mp h e me
    rw [(len e (List.all_eq_true.mp hl e me)).1]
    simpa using h2
theorem DV.labRef {z : Prop} {B : Addr → Prop} {H : Hp} {v : V} {d : PyData} (h : DV z B H v d) (e : isLabD d = true) :
    ∃ t : Addr, v = .ref t ∧ H t = some (.tup ((numsD d).map V.int)) := by
  obtain ⟨ns, rfl, _⟩ := isLab_form e
  obtain ⟨a, xs, rfl, _, ea, hx⟩ := h.tupI
  obtain rfl := DVs.intsI hx
  exact ⟨a, rfl, by rw [numsD_ints]; exact ea⟩
theorem labs_refs {z : Prop} {B : Addr → Prop} {H : Hp} : ∀ {vs : List V} {ds : List PyData}, DVs z B H vs ds → ds.all isLabD = true →
    ∃ ts : List Addr, vs = ts.map V.ref ∧ ∀ (j : Nat) t c, ts[j]? = some t → (ds.map numsD)[j]? = some c → H t = some (.tup (c.map V.int))
  | _, _, .nil, _ => ⟨[], rfl, fun j t c e => by cases e⟩
  | _, _, .cons h t, e => by
    rw [List.all_cons, Bool.and_eq_true] at e
    obtain ⟨a, rfl, ea⟩ := h.labRef e.1
    obtain ⟨ts, rfl, hts⟩ := labs_refs t e.2
    refine ⟨a :: ts, rfl, fun j t c e1 e2 => ?_⟩
    cases j with
    | zero => cases e1; cases e2; exact ea
    | succ j => exact hts j t c e1 e2
def sp_refinedX (CI CM : Addr) : Sp := fun vs H Q E => ∃ (ds : List PyData) (z : Prop) (B : Addr → Prop), DVs z B H vs ds ∧ ds.length ≤ 3 ∧
  (∀ H', Same H H' → ds.all isLabD = false → E (.ref CI) none H') ∧
  (∀ H', Same H H' → ds.all isLabD = true → alikeL ds = false → E (.ref CM) none H') ∧
  (ds.all isLabD = true → alikeL ds = true → ∀ (p : Addr) (H' : Hp), Same H H' → H p = none →
    H' p = some (.tup ((canL [] (rowsI (ds.map numsD))).map V.int)) → Q (.ref p) H')
def sp_refinedIn (CI CM : Addr) : Sp := fun us H1 Q E => ∃ (p : Addr) (vs : List V) (H : Hp), us = [.ref p] ∧ H p = none ∧
  H1 = upd H p (.tup vs) ∧ sp_refinedX CI CM vs H Q E
theorem sp_refinedStart {CI CM : Addr} (vs : List V) (H : Hp) (Q : VK) (E : XK) (h : sp_refinedX CI CM vs H Q E) :
    vs.length ≤ sizeLine ∧ ∀ p, H p = none → sp_refinedIn CI CM [V.ref p] (upd H p (.tup vs)) Q E := by
  refine ⟨?_, fun p np => ⟨p, vs, H, rfl, np, rfl, h⟩⟩
  obtain ⟨ds, z, B, hx, hl, _⟩ := h
  rw [hx.length]
  exact Nat.le_of_lt (small1000 (by omega))
def sp_refRows : Sp := fun vs H Q _ => ∃ (L : Addr) (ws : List V) (ds : List PyData) (z : Prop) (B : Addr → Prop), vs = [.ref L] ∧
  H L = some (.lst ws) ∧ DVs z B H ws ds ∧ ds.length ≤ 3 ∧ ds.all isLabD = true ∧ alikeL ds = true ∧
  ∀ (p : Addr) (H' : Hp), Same H H' → H p = none → H' p = some (.tup ((canL [] (rowsI (ds.map numsD))).map V.int)) → Q (.ref p) H'
theorem len_two {α : Type} : ∀ {l : List α}, l.length = 2 → ∃ x y, l = [x, y]
  | [x, y], _ => ⟨x, y, rfl⟩
theorem len_three {α : Type} : ∀ {l : List α}, l.length = 3 → ∃ x y z, l = [x, y, z]
  | [x, y, z], _ => ⟨x, y, z, rfl⟩
section
variable {X : Cx} {K : PySem.W.Frag} {tg : Expr}
theorem pi_listK (h : X.K = K) {l : Expr} {tl : TE} (hl : PE X l tl) : PI X tg l (iList K tl) := by
  subst h
  exact pi_list hl
theorem pi_tupK (h : X.K = K) {l : Expr} {tl : TE} (hl : PE X l tl) : PI X tg l (iTup K tl) := by
  subst h
  exact pi_tup hl
end
theorem rows_refs {z : Prop} {B : Addr → Prop} {H : Hp} : ∀ {rows : List (List Int)} {xs : List V}, DVs z B H xs (rows.map rowD) →
    ∃ bs : List Addr, xs = bs.map V.ref ∧ bs.length = rows.length ∧ ∀ (i : Nat) b r, bs[i]? = some b → rows[i]? = some r → H b = some (.tup (r.map V.int))
  | [], _, .nil => ⟨[], rfl, rfl, fun i b r e => by cases e⟩
  | r :: rows, _, .cons h t => by
    obtain ⟨a, xs, rfl, _, ea, hx⟩ := DV.tupI (show DV z B H _ (.tuple (r.map PyData.int)) from h)
    obtain rfl := DVs.intsI hx
    obtain ⟨bs, rfl, lb, hb⟩ := rows_refs t
    refine ⟨a :: bs, rfl, by rw [List.length_cons, List.length_cons, lb], fun i b r' e1 e2 => ?_⟩
    cases i with
    | zero => cases e1; cases e2; exact ea
    | succ i => exact hb i b r' e1 e2
/-- rows of labels of n cases -/
structure LabRows (n : Nat) (ds : List PyData) : Prop where
  lab : ds.all isLabD = true
  len : ∀ d ∈ ds, (numsD d).length = n
theorem LabRows.nil {n : Nat} : LabRows n [] := ⟨rfl, fun d m => nomatch m⟩
theorem LabRows.snoc {n : Nat} {ds : List PyData} {d : PyData} (h : LabRows n ds) (hl : isLabD d = true) (hn : (numsD d).length = n) : LabRows n (ds ++ [d]) := by
  refine ⟨by rw [List.all_append, h.lab, List.all_cons, hl]; rfl, fun e m => ?_⟩
  rcases List.mem_append.mp m with z | z
  · exact h.len e z
  · rw [List.mem_singleton.mp z]; exact hn
theorem lab_numLen {d : PyData} (h : isLabD d = true) : (numsD d).length = lenD d := by
  obtain ⟨ns, rfl, _⟩ := isLab_form h
  rw [numsD_ints]
  exact (List.length_map ..).symm
theorem LabRows.alike {n : Nat} {ds : List PyData} (h : LabRows n ds) (h0 : ds ≠ []) : alikeL ds = true := by
  cases ds with
  | nil => exact absurd rfl h0
  | cons d ds =>
    show ((d :: ds).all fun e => decide (lenD e = lenD d)) = true
    have key : ∀ e ∈ d :: ds, lenD e = n := fun e m => by
      rw [← h.len e m]
      exact (lab_numLen (List.all_eq_true.mp h.lab e m)).symm
    refine List.all_eq_true.mpr fun e m => ?_
    rw [key e m, key d (List.mem_cons_self ..)]
    exact decide_eq_true rfl
theorem LabRows.sub {n : Nat} {ds es : List PyData} (h : LabRows n ds) (hs : ∀ e ∈ es, e ∈ ds) : LabRows n es :=
  ⟨List.all_eq_true.mpr fun e m => List.all_eq_true.mp h.lab e (hs e m), fun e m => h.len e (hs e m)⟩
theorem LabRows.cols {n : Nat} {ds : List PyData} (h : LabRows n ds) : ∀ c ∈ ds.map numsD, c.length = n := fun c m => by
  obtain ⟨d, md, rfl⟩ := List.mem_map.mp m
  exact h.len d md
theorem isLab_mk {ns : List Int} (h1 : 1 ≤ ns.length) (h2 : ns.length ≤ 12) (h : labI 0 ns = true) : isLabD (.tuple (ns.map PyData.int)) = true := by
  show (decide (1 ≤ (ns.map PyData.int).length ∧ (ns.map PyData.int).length ≤ 12) && labG 0 (ns.map PyData.int)) = true
  rw [List.length_map, decide_eq_true ⟨h1, h2⟩, labG_ints, h]
  rfl
theorem cut_from1 (xs : List V) : cutV xs (some 1) none = xs.drop 1 := by
  cases xs with
  | nil => rfl
  | cons x l =>
    unfold cutV
    rw [show HT.sIx (x :: l).length 0 (some 1) = 1 from by
      rw [show (1 : Int) = ((1 : Nat) : Int) from rfl, HT.sIx_nat, List.length_cons]; omega, HT.sIx_none]
    show List.take _ l = l
    rw [List.take_of_length_le (by rw [List.length_cons]; omega)]
theorem cut_to1 (xs : List V) : cutV xs none (some 1) = xs.take 1 := by
  cases xs with
  | nil => rfl
  | cons x l =>
    unfold cutV
    rw [HT.sIx_none, show HT.sIx (x :: l).length (x :: l).length (some 1) = 1 from by
      rw [show (1 : Int) = ((1 : Nat) : Int) from rfl, HT.sIx_nat, List.length_cons]; omega]
    rfl
theorem canL_small {α : Type} [DecidableEq α] : ∀ (xs seen : List α), ∀ y ∈ canL seen xs, 0 ≤ y ∧ y < seen.length + xs.length
  | [], _, y, h => nomatch h
  | x :: xs, seen, y, h => by
    simp only [canL, List.mem_cons] at h
    have hs := sn_len seen x
    rw [List.length_cons]
    rcases h with rfl | h
    · have := plc_lt (sn_mem seen x)
      omega
    · have := canL_small xs (sn seen x) y h
      omega
theorem canL_gd {α : Type} [DecidableEq α] {xs : List α} (h : xs.length ≤ 12) : Gd 60 1 (.tuple ((canL [] xs).map PyData.int)) := by
  refine Gd.ints (k := 4) (m := 12) (fun y hy => ?_) (by rw [canL_len]; omega)
  have := canL_small xs [] y hy
  rw [List.length_nil] at this
  omega
end Wr

/-! partitions joined; list(range(n)) -/
namespace Wr
open PySem PySem.Spec PyProof.Rows L2
def natsV (n : Nat) : List V := (List.range n).map fun (i : Nat) => V.int (i : Int)
section
variable {X : Cx}
def tLR (te : TE) : TE := fun σ H Q => te σ H fun x H1 => ∃ n : Nat, x = .int (n : Int) ∧ n ≤ 1000 ∧ ∀ p, H1 p = none → Q (.ref p) (upd H1 p (.lst (natsV n)))
theorem vals_nats {us : List Value} {n : Nat} (hl : us.length = n) (h : ∀ (j : Nat) v, us[j]? = some v → ∃ t, v = .int ((j : Int)) t) : Vals (natsV n) us := by
  have key : ∀ (k : Nat) (us : List Value), (∀ (j : Nat) v, us[j]? = some v → ∃ t, v = .int (((k + j : Nat) : Int)) t) → Vals ((List.range us.length).map fun (i : Nat) => V.int ((k + i : Nat) : Int)) us := by
    intro k us
    induction us generalizing k with
    | nil => intro _; exact .nil
    | cons u us ih =>
      intro h
      rw [List.length_cons, List.range_succ_eq_map, List.map_cons, List.map_map]
      refine .cons ?_ ?_
      · obtain ⟨t, e⟩ := h 0 u rfl
        exact ⟨t, e⟩
      · have := ih (k + 1) fun j v e => by
          obtain ⟨t, q⟩ := h (j + 1) v (by rw [List.getElem?_cons_succ]; exact e)
          exact ⟨t, by rw [q, show k + (j + 1) = k + 1 + j by omega]⟩
        have e : (List.range us.length).map ((fun (i : Nat) => V.int ((k + i : Nat) : Int)) ∘ Nat.succ) = (List.range us.length).map fun (i : Nat) => V.int ((k + 1 + i : Nat) : Int) :=
          List.map_congr_left fun i _ => by
            show V.int _ = V.int _
            rw [show k + 1 + i = k + Nat.succ i by omega]
        rw [e]
        exact this
  have := key 0 us fun j v e => by
    obtain ⟨t, q⟩ := h j v e
    exact ⟨t, by rw [q, Nat.zero_add]⟩
  rw [hl] at this
  simp only [Nat.zero_add] at this
  exact this
theorem pe_listRange {e : Expr} {te : TE} {p1 p2 pos1 pos2 : Pos} (hc : X.calm = true) (he : PE X e te)
    (hg1 : Gl X "list") (hm1 : X.mg "list" = none) (hg2 : Gl X "range") (hm2 : X.mg "range" = none)
    (hs : starEach [e] X.env = [(false, eval e X.env)] := by rfl) :
    PE X (.Call (.Name "list" p1) [.Call (.Name "range" p2) [e] [] pos2] [] pos1) (tLR te) := by
  refine ⟨fun pins s σ H Q I h => ?_⟩
  refine wpAny_Call_Name_kw (ld_blt I hg1 hm1 (by rfl) ?_ (by decide) (by decide))
  refine PyProof.Rows.callWith_type1 ?_ (by rfl) (by rfl)
  show wpAny _ _ (spliced [(false, _)]) _ _ s
  refine Calls.spliced_cons ?_
  refine wpAny_mono (E := X.xe) ?_ (fun v s1 h1 => Calls.spliced_nil h1) fun _ _ z => z
  show wpAny _ _ (eval (.Call (.Name "range" p2) [e] [] pos2) X.env) _ _ s
  refine wpAny_Call_Name_kw (ld_blt I hg2 hm2 (by rfl) ?_ (by decide) (by decide))
  refine PyProof.Rows.callWith_type1 ?_ (by rw [hs]; rfl) (by rfl)
  rw [hs]
  show wpAny _ _ (spliced [(false, _)]) _ _ s
  refine Calls.spliced_cons (thn (he.run pins s σ H _ I h) fun v s1 ⟨x, H1, I1, r1, n, e1, hn, q⟩ => ?_)
  refine Calls.spliced_nil ?_
  subst e1
  obtain ⟨t, rfl⟩ := r1
  refine call_range_1 ?_
  have I2 : L2.Inv X pins σ H1 { s1 with heap := s1.heap.push { cls := .type "range", data := .fields #[.int 0 s1.toks, .int (n : Int) t, .int 1 (s1.toks + 1)] }, toks := s1.toks + 1 + 1 } := I1.kept fun b o e => Heap.get?_push_of_some _ e
  refine call_list_range (n := n) (I2.ok.hd hc) (IsRange.new ..) (small_one (by decide) (by decide) (by omega) (by omega)) (by rw [rangeSize_one]; split <;> omega) (by omega) fun h' tk acc c hk hD hI => ?_
  refine ⟨.ref _, _, I2.laid (t' := tk) (o := .lst (natsV n)) hk (Nat.le_refl _) ?_, rfl, q _ (I2.hok.fresh (Nat.le_refl _))⟩
  refine ⟨?_, acc.toList, c, vals_nats (by rw [Array.length_toList]; exact hI.1) fun j v hj => ?_, by rw [Array.toArray_toList]; exact hD⟩
  · unfold natsV
    rw [List.length_map, List.length_range]
    exact Nat.le_of_lt (small1000 hn)
  · obtain ⟨t, e⟩ := hI.2 j v (by rw [← hj, Array.getElem?_toList])
    exact ⟨t, by rw [e]; congr 1; omega⟩
end
/-! ### what hangs together -/
inductive Con (R : Nat → Nat → Prop) : Nat → Nat → Prop
  | refl (x : Nat) : Con R x x
  | step {x y z : Nat} : Con R x y → R y z → Con R x z
theorem Con.trans {R : Nat → Nat → Prop} {x y z : Nat} (a : Con R x y) (b : Con R y z) : Con R x z := by
  induction b with
  | refl => exact a
  | step _ r ih => exact .step ih r
theorem Con.mono {R R' : Nat → Nat → Prop} (h : ∀ y z, R y z → R' y z) {x y : Nat} (a : Con R x y) : Con R' x y := by
  induction a with
  | refl => exact .refl _
  | step _ r ih => exact .step ih (h _ _ r)
theorem Con.symm {R : Nat → Nat → Prop} (h : ∀ y z, R y z → R z y) {x y : Nat} (a : Con R x y) : Con R y x := by
  induction a with
  | refl => exact .refl _
  | step _ r ih => exact (Con.step (.refl _) (h _ _ r)).trans ih
/-- each case has the least case that it hangs together with -/
structure Mk1 (n : Nat) (R : Nat → Nat → Prop) (ms : List Int) : Prop where
  len : ms.length = n
  at_ : ∀ x, x < n → ∃ m : Nat, ms[x]? = some (m : Int) ∧ m ≤ x ∧ Con R x m
  inv : ∀ y z, R y z → ms[y]? = ms[z]?
theorem Mk1.con {n : Nat} {R : Nat → Nat → Prop} {ms : List Int} (h : Mk1 n R ms) {x y : Nat} (c : Con R x y) : ms[x]? = ms[y]? := by
  induction c with
  | refl => rfl
  | step _ r ih => exact ih.trans (h.inv _ _ r)
/-- there is only one such row -/
theorem Mk1.one {n : Nat} {R R' : Nat → Nat → Prop} {ms ms' : List Int} (h : Mk1 n R ms) (h' : Mk1 n R' ms')
    (e1 : ∀ y z, R y z → Con R' y z) (e2 : ∀ y z, R' y z → Con R y z) : ms = ms' := by
  have up1 : ∀ {x y}, Con R x y → Con R' x y := fun c => by
    induction c with
    | refl => exact .refl _
    | step _ r ih => exact ih.trans (e1 _ _ r)
  have up2 : ∀ {x y}, Con R' x y → Con R x y := fun c => by
    induction c with
    | refl => exact .refl _
    | step _ r ih => exact ih.trans (e2 _ _ r)
  have key : ∀ {R R' : Nat → Nat → Prop} {ms ms' : List Int}, Mk1 n R ms → Mk1 n R' ms' → (∀ {x y}, Con R x y → Con R' x y) → ∀ x (m m' : Nat), x < n → ms[x]? = some (m : Int) → ms'[x]? = some (m' : Int) → m' ≤ m :=
    fun {R R' ms ms'} h h' up x m m' lx em em' => by
      obtain ⟨a, ea, la, ca⟩ := h.at_ x lx
      rw [em] at ea
      have : m = a := by have := Option.some.inj ea; omega
      subst this
      obtain ⟨b, eb, lb, _⟩ := h'.at_ m (by omega)
      have q := h'.con (up ca)
      rw [em', eb] at q
      have := Option.some.inj q
      omega
  refine List.ext_getElem? fun x => ?_
  by_cases lx : x < n
  · obtain ⟨m, em, _⟩ := h.at_ x lx
    obtain ⟨m', em', _⟩ := h'.at_ x lx
    have a1 := key h h' up1 x m m' lx em em'
    have a2 := key h' h up2 x m' m lx em' em
    rw [em, em', show m = m' by omega]
  · rw [List.getElem?_eq_none (by rw [h.len]; omega), List.getElem?_eq_none (by rw [h'.len]; omega)]
def natsI (n : Nat) : List Int := (List.range n).map fun (i : Nat) => (i : Int)
theorem natsI_at {n x : Nat} (h : x < n) : (natsI n)[x]? = some (x : Int) := by
  unfold natsI
  rw [List.getElem?_map, List.getElem?_range h]
  rfl
theorem Mk1.start (n : Nat) : Mk1 n (fun _ _ => False) (natsI n) :=
  ⟨by unfold natsI; rw [List.length_map, List.length_range], fun x lx => ⟨x, natsI_at lx, Nat.le_refl _, .refl _⟩, fun _ _ h => h.elim⟩
def linkL (ms sh : List Int) (least : Int) : List Int := ms.map fun m => if m ∈ sh then least else m
/-- the cases of a part are linked -/
theorem Mk1.link {n : Nat} {R : Nat → Nat → Prop} {ms : List Int} (h : Mk1 n R ms) (hR : ∀ y z, R y z → R z y) (hn : ∀ y z, R y z → y < n ∧ z < n) {p : List Nat} (hp : ∀ c ∈ p, c < n)
    {sh : List Int} (hs : ∀ v : Int, v ∈ sh ↔ ∃ c ∈ p, ms[c]? = some v) {least : Int} (hl : least ∈ sh) (hm : ∀ v ∈ sh, least ≤ v) :
    Mk1 n (fun y z => R y z ∨ (y ∈ p ∧ z ∈ p)) (linkL ms sh least) := by
  have at' : ∀ x (m : Int), ms[x]? = some m → (linkL ms sh least)[x]? = some (if m ∈ sh then least else m) := fun x m e => by
    unfold linkL
    rw [List.getElem?_map, e]
    rfl
  obtain ⟨c0, m0, e0⟩ := (hs least).mp hl
  refine ⟨by unfold linkL; rw [List.length_map]; exact h.len, fun x lx => ?_, fun y z r => ?_⟩
  · obtain ⟨m, em, lm, cm⟩ := h.at_ x lx
    rw [at' x m em]
    by_cases hx : (m : Int) ∈ sh
    · rw [if_pos hx]
      obtain ⟨c, mc, ec⟩ := (hs m).mp hx
      obtain ⟨l, el, ll, cl⟩ := h.at_ c0 (hp c0 m0)
      rw [e0] at el
      have e : least = (l : Int) := Option.some.inj el
      subst e
      refine ⟨l, rfl, by have := hm m hx; omega, ?_⟩
      have mono : ∀ {a b}, Con R a b → Con (fun y z => R y z ∨ (y ∈ p ∧ z ∈ p)) a b := fun c => c.mono fun _ _ r => .inl r
      obtain ⟨k, ek, lk, ck⟩ := h.at_ c (hp c mc)
      rw [ec] at ek
      have : m = k := by have := Option.some.inj ek; omega
      subst this
      exact ((mono cm).trans (mono (ck.symm hR))).trans ((Con.step (.refl _) (.inr ⟨mc, m0⟩)).trans (mono cl))
    · rw [if_neg hx]
      exact ⟨m, rfl, lm, cm.mono fun _ _ r => .inl r⟩
  · rcases r with r | ⟨r1, r2⟩
    · have e := h.inv y z r
      obtain ⟨ly, lz⟩ := hn y z r
      obtain ⟨m, em, _⟩ := h.at_ y ly
      rw [at' y m em, at' z m (by rw [← e]; exact em)]
    · obtain ⟨m, em, _⟩ := h.at_ y (hp y r1)
      obtain ⟨k, ek, _⟩ := h.at_ z (hp z r2)
      rw [at' y m em, at' z k ek, if_pos ((hs m).mpr ⟨y, r1, em⟩), if_pos ((hs k).mpr ⟨z, r2, ek⟩)]
end Wr

namespace Wr
open PySem PySem.Spec PyProof.Rows L2
section
variable {X : Cx} {K : PySem.W.Frag}
theorem op_inK (h : X.K = K) : OpR X (compareOp .In) (rIn K false) := by
  subst h
  exact op_in_seq
theorem op_notInK (h : X.K = K) : OpR X (compareOp .NotIn) (rIn K true) := by
  subst h
  exact op_notIn_seq
end
/-- two cases in one part of one of the partitions -/
def LinkR (cols : List (List Int)) (n : Nat) (y z : Nat) : Prop := y < n ∧ z < n ∧ ∃ c ∈ cols, c[y]? = c[z]?
theorem LinkR.symm {cols : List (List Int)} {n : Nat} : ∀ y z, LinkR cols n y z → LinkR cols n z y := fun y z ⟨a, b, c, m, e⟩ => ⟨b, a, c, m, e.symm⟩
theorem LinkR.lt {cols : List (List Int)} {n : Nat} : ∀ y z, LinkR cols n y z → y < n ∧ z < n := fun y z ⟨a, b, _⟩ => ⟨a, b⟩
theorem Mk1.congr {n : Nat} {R R' : Nat → Nat → Prop} {ms : List Int} (h : Mk1 n R ms) (e : ∀ y z, R y z ↔ R' y z) : Mk1 n R' ms := by
  have : R = R' := by
    funext y z
    exact propext (e y z)
  rw [← this]
  exact h
def partN (ns : List Int) (k : Int) : List Nat := (List.range ns.length).filter fun m => decide (ns[m]? = some k)
theorem partL_N (ns : List Int) (k : Int) : partL ns ns.length k = (partN ns k).map Int.ofNat := rfl
theorem mem_partN {ns : List Int} {k : Int} {y : Nat} : y ∈ partN ns k ↔ ns[y]? = some k := by
  unfold partN
  rw [List.mem_filter, List.mem_range, decide_eq_true_eq]
  exact ⟨fun h => h.2, fun h => ⟨(List.getElem?_eq_some_iff.mp h).1, h⟩⟩
theorem lab_has : ∀ (ns : List Int) (k0 k : Int), labI k0 ns = true → k0 ≤ k → k < labK k0 ns → k ∈ ns
  | [], k0, k, _, h1, h2 => by simp only [labK] at h2; omega
  | x :: ns, k0, k, h, h1, h2 => by
    simp only [labI, Bool.and_eq_true, decide_eq_true_eq] at h
    simp only [labK] at h2
    by_cases e : k = x
    · rw [e]; exact List.mem_cons_self ..
    · exact List.mem_cons_of_mem _ (lab_has ns (max k0 (x + 1)) k h.2 (by omega) h2)
theorem partN_ne {ns : List Int} (h : labI 0 ns = true) {k : Nat} (hk : (k : Int) < labK 0 ns) : partN ns (k : Int) ≠ [] := fun e => by
  have m := lab_has ns 0 k h (by omega) hk
  obtain ⟨y, hy⟩ := List.mem_iff_getElem?.mp m
  have : y ∈ partN ns (k : Int) := mem_partN.mpr hy
  rw [e] at this
  cases this
/-- the parts of one partition, the first j of them -/
def partsR (cols : List (List Int)) (n : Nat) (ns : List Int) (j : Nat) (y z : Nat) : Prop :=
  LinkR cols n y z ∨ ∃ k : Nat, k < j ∧ y ∈ partN ns (k : Int) ∧ z ∈ partN ns (k : Int)
theorem partsR_zero {cols : List (List Int)} {n : Nat} {ns : List Int} (y z : Nat) : LinkR cols n y z ↔ partsR cols n ns 0 y z :=
  ⟨fun h => .inl h, fun h => h.elim (fun h => h) fun ⟨k, hk, _⟩ => absurd hk (Nat.not_lt_zero k)⟩
theorem partsR_succ {cols : List (List Int)} {n : Nat} {ns : List Int} (j y z : Nat) :
    (partsR cols n ns j y z ∨ (y ∈ partN ns (j : Int) ∧ z ∈ partN ns (j : Int))) ↔ partsR cols n ns (j + 1) y z := by
  constructor
  · rintro ((h | ⟨k, hk, h⟩) | h)
    · exact .inl h
    · exact .inr ⟨k, by omega, h⟩
    · exact .inr ⟨j, by omega, h⟩
  · rintro (h | ⟨k, hk, h⟩)
    · exact .inl (.inl h)
    · by_cases e : k = j
      · subst e; exact .inr h
      · exact .inl (.inr ⟨k, by omega, h⟩)
theorem partsR_end {cols : List (List Int)} {n : Nat} {ns : List Int} (hn : ns.length = n) (h : labI 0 ns = true) (y z : Nat) :
    partsR cols n ns (labK 0 ns).toNat y z ↔ LinkR (cols ++ [ns]) n y z := by
  constructor
  · rintro (⟨a, b, c, m, e⟩ | ⟨k, hk, m1, m2⟩)
    · exact ⟨a, b, c, List.mem_append_left _ m, e⟩
    · have e1 := mem_partN.mp m1
      have e2 := mem_partN.mp m2
      have l1 := (List.getElem?_eq_some_iff.mp e1).1
      have l2 := (List.getElem?_eq_some_iff.mp e2).1
      exact ⟨by omega, by omega, ns, by simp, e1.trans e2.symm⟩
  · rintro ⟨a, b, c, m, e⟩
    rcases List.mem_append.mp m with m | m
    · exact .inl ⟨a, b, c, m, e⟩
    · rw [List.mem_singleton.mp m] at e
      have ey : ns[y]? = some ns[y] := List.getElem?_eq_getElem (by omega)
      have hm := List.mem_of_getElem? ey
      have h0 := (labI_mem 0 ns h _ hm).1
      have h1 := labK_mem 0 ns _ hm
      have ek : ((ns[y].toNat : Nat) : Int) = ns[y] := by omega
      refine .inr ⟨ns[y].toNat, by omega, mem_partN.mpr (by rw [ek]; exact ey), mem_partN.mpr (by rw [ek, ← e]; exact ey)⟩
theorem partsR_symm {cols : List (List Int)} {n : Nat} {ns : List Int} {j : Nat} : ∀ y z, partsR cols n ns j y z → partsR cols n ns j z y :=
  fun y z h => h.elim (fun h => .inl (h.symm)) fun ⟨k, hk, a, b⟩ => .inr ⟨k, hk, b, a⟩
theorem partsR_lt {cols : List (List Int)} {n : Nat} {ns : List Int} {j : Nat} (hn : ns.length = n) : ∀ y z, partsR cols n ns j y z → y < n ∧ z < n :=
  fun y z h => h.elim (fun h => h.lt) fun ⟨k, hk, a, b⟩ => by
    have l1 := (List.getElem?_eq_some_iff.mp (mem_partN.mp a)).1
    have l2 := (List.getElem?_eq_some_iff.mp (mem_partN.mp b)).1
    omega
theorem LinkR_perm {cols cols' : List (List Int)} {n : Nat} (h : ∀ c ∈ cols, c ∈ cols') (y z : Nat) (r : LinkR cols n y z) : LinkR cols' n y z := by
  obtain ⟨a, b, c, m, e⟩ := r
  exact ⟨a, b, c, h c m, e⟩
theorem LinkR_nil {n : Nat} (y z : Nat) : False ↔ LinkR [] n y z := ⟨fun h => h.elim, fun ⟨_, _, c, m, _⟩ => nomatch m⟩
/-! promises -/
def sp_labI : Sp := fun vs H Q _ => ∃ (L : Addr) (ns : List Int), vs = [.ref L] ∧ H L = some (.lst (ns.map V.int)) ∧ ns.length ≤ 1000 ∧
  ∀ (p : Addr) (H' : Hp), Same H H' → H p = none → H' p = some (.tup ((canL [] ns).map V.int)) → Q (.ref p) H'
def sp_lab2 : Sp := fun vs H Q E => sp_labT vs H Q E ∨ sp_labI vs H Q E
def shOf (ms : List Int) (p : List Nat) : List Int := p.map fun c => ms.getD c 0
def sp_linked : Sp := fun vs H Q _ => ∃ (M P : Addr) (ms : List Int) (p : List Nat), vs = [.ref M, .ref P] ∧ H M = some (.lst (ms.map V.int)) ∧
  H P = some (.tup ((p.map Int.ofNat).map V.int)) ∧ (∀ c ∈ p, c < ms.length) ∧ p ≠ [] ∧ p.length ≤ 1000 ∧ ms.length ≤ 1000 ∧
  ∀ (least : Int) (q : Addr) (H' : Hp), least ∈ shOf ms p → (∀ v ∈ shOf ms p, least ≤ v) → Same H H' → H q = none →
    H' q = some (.lst ((linkL ms (shOf ms p) least).map V.int)) → Q (.ref q) H'
theorem shOf_mem {ms : List Int} {p : List Nat} (hp : ∀ c ∈ p, c < ms.length) (v : Int) : v ∈ shOf ms p ↔ ∃ c ∈ p, ms[c]? = some v := by
  unfold shOf
  rw [List.mem_map]
  constructor
  · rintro ⟨c, m, e⟩
    refine ⟨c, m, ?_⟩
    rw [List.getD_eq_getElem?_getD, List.getElem?_eq_getElem (hp c m)] at e
    rw [List.getElem?_eq_getElem (hp c m), ← e]
    rfl
  · rintro ⟨c, m, e⟩
    refine ⟨c, m, ?_⟩
    rw [List.getD_eq_getElem?_getD, e]
    rfl
def sp_joinedX (CI CM : Addr) : Sp := fun vs H Q E => ∃ (ds : List PyData) (z : Prop) (B : Addr → Prop), DVs z B H vs ds ∧ ds.length ≤ 3 ∧
  (∀ H', Same H H' → ds.all isLabD = false → E (.ref CI) none H') ∧
  (∀ H', Same H H' → ds.all isLabD = true → alikeL ds = false → E (.ref CM) none H') ∧
  (ds.all isLabD = true → alikeL ds = true → ∀ (ms : List Int) (p : Addr) (H' : Hp),
    Mk1 ((ds.map numsD).headD []).length (LinkR (ds.map numsD) ((ds.map numsD).headD []).length) ms → Same H H' → H p = none →
    H' p = some (.tup ((canL [] ms).map V.int)) → Q (.ref p) H')
def sp_joinedIn (CI CM : Addr) : Sp := fun us H1 Q E => ∃ (p : Addr) (vs : List V) (H : Hp), us = [.ref p] ∧ H p = none ∧
  H1 = upd H p (.tup vs) ∧ sp_joinedX CI CM vs H Q E
theorem sp_joinedStart {CI CM : Addr} (vs : List V) (H : Hp) (Q : VK) (E : XK) (h : sp_joinedX CI CM vs H Q E) :
    vs.length ≤ sizeLine ∧ ∀ p, H p = none → sp_joinedIn CI CM [V.ref p] (upd H p (.tup vs)) Q E := by
  refine ⟨?_, fun p np => ⟨p, vs, H, rfl, np, rfl, h⟩⟩
  obtain ⟨ds, z, B, hx, hl, _⟩ := h
  rw [hx.length]
  exact Nat.le_of_lt (small1000 (by omega))
def sp_joinRows : Sp := fun vs H Q _ => ∃ (L : Addr) (ws : List V) (ds : List PyData) (z : Prop) (B : Addr → Prop), vs = [.ref L] ∧
  H L = some (.lst ws) ∧ DVs z B H ws ds ∧ ds.length ≤ 3 ∧ ds.all isLabD = true ∧ alikeL ds = true ∧
  ∀ (ms : List Int) (p : Addr) (H' : Hp), Mk1 ((ds.map numsD).headD []).length (LinkR (ds.map numsD) ((ds.map numsD).headD []).length) ms →
    Same H H' → H p = none → H' p = some (.tup ((canL [] ms).map V.int)) → Q (.ref p) H'
theorem labI_canL {α : Type} [DecidableEq α] : ∀ (xs seen : List α), labI (seen.length : Int) (canL seen xs) = true
  | [], _ => rfl
  | x :: xs, seen => by
    simp only [canL, labI, Bool.and_eq_true, decide_eq_true_eq]
    have hs : (sn seen x).length = if x ∈ seen then seen.length else seen.length + 1 := by
      unfold sn
      by_cases h : x ∈ seen
      · rw [if_pos h, if_pos h]
      · rw [if_neg h, if_neg h, List.length_append]; rfl
    have hp := plc_lt (sn_mem seen x)
    have hm : max (seen.length : Int) ((plc x (sn seen x) : Int) + 1) = ((sn seen x).length : Int) := by
      by_cases h : x ∈ seen
      · rw [if_pos h] at hs
        omega
      · rw [if_neg h] at hs
        have : plc x (sn seen x) = seen.length := by
          rw [show sn seen x = seen ++ [x] from if_neg h]
          exact plc_end h
        omega
    refine ⟨⟨by omega, by split at hs <;> omega⟩, ?_⟩
    rw [hm]
    exact labI_canL xs (sn seen x)
def sp_ring : Sp := fun vs H Q _ => ∃ (n m k : Int), vs = [.int n, .int m, .int k] ∧ 1 ≤ n ∧ n ≤ 12 ∧ 0 < m ∧
  ∀ (ls : List Int) (p : Addr) (H' : Hp), labI 0 ls = true → ls.length = n.toNat → Same H H' → H p = none → H' p = some (.tup (ls.map V.int)) → Q (.ref p) H'
/-- the least case that hangs together with x -/
def sp_reached : Sp := fun vs H Q _ => ∃ (R : Addr) (x n : Nat) (ts : List Addr) (cs : List (List Int)), vs = [.ref R, .int (x : Int)] ∧
  H R = some (.lst (ts.map V.ref)) ∧ ts.length = cs.length ∧ ts.length ≤ 3 ∧ (∀ (j : Nat) t c, ts[j]? = some t → cs[j]? = some c → H t = some (.tup (c.map V.int))) ∧
  (∀ c ∈ cs, c.length = n) ∧ x < n ∧ n ≤ 12 ∧
  ∀ (m : Nat) (H' : Hp), Same H H' → Con (LinkR cs n) x m → (∀ y, Con (LinkR cs n) x y → m ≤ y) → Q (.int (m : Int)) H'
theorem rem_len (n : Nat) : ∀ fs : List Nat, fs.Pairwise (· ≠ ·) → fs.length ≤ (fs.filter fun y => decide (y ≠ n)).length + 1
  | [], _ => by simp
  | y :: l, h => by
    rw [List.pairwise_cons] at h
    by_cases e : y = n
    · subst e
      rw [List.filter_cons, if_neg (by simp), List.filter_eq_self.mpr fun z m => by simpa using Ne.symm (h.1 z m)]
      exact Nat.le_refl _
    · rw [List.filter_cons, if_pos (by simpa using e), List.length_cons, List.length_cons]
      have := rem_len n l h.2
      omega
theorem diff_len : ∀ (n : Nat) (fs : List Nat), fs.Pairwise (· ≠ ·) → (∀ y ∈ fs, y < n) → fs.length ≤ n
  | 0, [], _, _ => Nat.le_refl _
  | 0, y :: l, _, h => absurd (h y (List.mem_cons_self ..)) (Nat.not_lt_zero y)
  | n + 1, fs, h, hl => by
    have h1 := rem_len n fs h
    have h2 := diff_len n (fs.filter fun y => decide (y ≠ n)) (h.filter _) fun y m => by
      obtain ⟨m1, m2⟩ := List.mem_filter.mp m
      have := hl y m1
      have : y ≠ n := by simpa using m2
      omega
    omega
/-- what one row adds to what is found -/
def newL (c : List Int) (fs : List Nat) (a : Nat) (i : Nat) : List Nat := (List.range i).filter fun y => decide (c[y]? = c[a]? ∧ y ∉ fs)
theorem newL_succ (c : List Int) (fs : List Nat) (a i : Nat) : newL c fs a (i + 1) = if c[i]? = c[a]? ∧ i ∉ fs then newL c fs a i ++ [i] else newL c fs a i := by
  unfold newL
  rw [List.range_succ, List.filter_append]
  by_cases h : c[i]? = c[a]? ∧ i ∉ fs
  · rw [if_pos h, List.filter_cons, if_pos (decide_eq_true h)]
    rfl
  · rw [if_neg h, List.filter_cons, if_neg (by simpa using h)]
    simp
theorem mem_newL {c : List Int} {fs : List Nat} {a i y : Nat} : y ∈ newL c fs a i ↔ y < i ∧ c[y]? = c[a]? ∧ y ∉ fs := by
  unfold newL
  rw [List.mem_filter, List.mem_range, decide_eq_true_eq]
theorem newL_len (c : List Int) (fs : List Nat) (a i : Nat) : (newL c fs a i).length ≤ i := by
  unfold newL
  exact Nat.le_trans (List.length_filter_le _ _) (by rw [List.length_range]; exact Nat.le_refl _)
/-- what is found so far -/
structure Fnd (cs : List (List Int)) (n x : Nat) (fs : List Nat) : Prop where
  pw : fs.Pairwise (· ≠ ·)
  lt : ∀ y ∈ fs, y < n
  me : x ∈ fs
  con : ∀ y ∈ fs, Con (LinkR cs n) x y
theorem Fnd.len {cs : List (List Int)} {n x : Nat} {fs : List Nat} (h : Fnd cs n x fs) : fs.length ≤ n := diff_len n fs h.pw h.lt
theorem Fnd.more {cs : List (List Int)} {n x : Nat} {fs : List Nat} (h : Fnd cs n x fs) {c : List Int} (hc : c ∈ cs) {a : Nat} (ha : a ∈ fs) :
    Fnd cs n x (fs ++ newL c fs a n) := by
  refine ⟨List.pairwise_append.mpr ⟨h.pw, ?_, fun y m z mz e => (mem_newL.mp mz).2.2 (e ▸ m)⟩, fun y m => ?_, List.mem_append_left _ h.me, fun y m => ?_⟩
  · unfold newL
    exact List.Pairwise.filter _ (List.nodup_range)
  · rcases List.mem_append.mp m with m | m
    · exact h.lt y m
    · exact (mem_newL.mp m).1
  · rcases List.mem_append.mp m with m | m
    · exact h.con y m
    · obtain ⟨l, e, _⟩ := mem_newL.mp m
      exact (h.con a ha).step ⟨h.lt a ha, l, c, hc, e.symm⟩
theorem Fnd.all {cs : List (List Int)} {n x : Nat} {fs : List Nat} (h : Fnd cs n x fs) (cl : ∀ y ∈ fs, ∀ z, LinkR cs n y z → z ∈ fs) {y : Nat}
    (c : Con (LinkR cs n) x y) : y ∈ fs := by
  induction c with
  | refl => exact h.me
  | step _ r ih => exact cl _ ih _ r
def natV (fs : List Nat) : List V := fs.map fun (y : Nat) => V.int (y : Int)
theorem inV_nats {y : Nat} : ∀ {fs : List Nat}, inV (.int (y : Int)) (natV fs) = decide (y ∈ fs) := fun {fs} => by
  have e : natV fs = (fs.map fun (y : Nat) => (y : Int)).map V.int := by
    unfold natV
    rw [List.map_map]
    rfl
  rw [e, inV_ints]
  refine decide_eq_decide.mpr ⟨fun h => ?_, fun h => List.mem_map_of_mem h⟩
  obtain ⟨z, m, e⟩ := List.mem_map.mp h
  have : z = y := by omega
  rw [← this]
  exact m
theorem natV_ints (fs : List Nat) : natV fs = (fs.map fun (y : Nat) => (y : Int)).map V.int := by
  unfold natV
  rw [List.map_map]
  rfl
theorem LabRows.put {n i : Nat} {ds : List PyData} {d : PyData} (h : LabRows n ds) (hl : isLabD d = true) (hn : (numsD d).length = n) : LabRows n (ds.set i d) := by
  have key : ∀ e ∈ ds.set i d, e ∈ ds ∨ e = d := fun e m => List.mem_or_eq_of_mem_set m
  refine ⟨List.all_eq_true.mpr fun e m => ?_, fun e m => ?_⟩
  · rcases key e m with z | rfl
    · exact List.all_eq_true.mp h.lab e z
    · exact hl
  · rcases key e m with z | rfl
    · exact h.len e z
    · exact hn
theorem ixN_last (n : Nat) : ixN (n + 1) (-1) = some n := by
  unfold ixN
  rw [if_neg (by decide), if_pos (by omega)]
  congr 1
  omega
theorem LinkR_rev {cols : List (List Int)} {n : Nat} (y z : Nat) (r : LinkR cols.reverse n y z) : LinkR cols n y z := LinkR_perm (fun c m => List.mem_reverse.mp m) y z r
theorem Con.one {R : Nat → Nat → Prop} {y z : Nat} (r : R y z) : Con R y z := .step (.refl _) r
theorem Mk1.ofLeast {n : Nat} {cs : List (List Int)} {ms : List Int} (hl : ms.length = n)
    (h : ∀ x, x < n → ∃ m : Nat, ms[x]? = some (m : Int) ∧ Con (LinkR cs n) x m ∧ ∀ y, Con (LinkR cs n) x y → m ≤ y) : Mk1 n (LinkR cs n) ms := by
  refine ⟨hl, fun x lx => ?_, fun y z r => ?_⟩
  · obtain ⟨m, e, c, le⟩ := h x lx
    exact ⟨m, e, le x (.refl x), c⟩
  · obtain ⟨ly, lz⟩ := r.lt
    obtain ⟨m, e, c, le⟩ := h y ly
    obtain ⟨k, e', c', le'⟩ := h z lz
    have a1 := le k ((Con.one r).trans c')
    have a2 := le' m ((Con.one (r.symm)).trans c)
    rw [e, e', show m = k by omega]
theorem headD_len {ds : List PyData} {n : Nat} (h : LabRows n ds) (h0 : ds ≠ []) : ((ds.map numsD).headD []).length = n := by
  cases ds with
  | nil => exact absurd rfl h0
  | cons d l => exact h.len d (List.mem_cons_self ..)
end Wr

namespace Lw
open PySem Mi
def hf_InvalidAmountsError : Nat → Bool := nth true [false, false, true, false, true, true, true]
def m__law_cell : MS :=
  (mSeq (mIfS (mT (mBin gLt (mNm 1) (mF (mCB gLen (mHcons (mNm 0) mHnil))))) (mSeq (mRet (mIx (mNm 0) (mNm 1))) mNx) mNx)
  (mSeq (mRet (mC (.int 0))) mNx))
def cf__law_cell : CF := mDef 2 2 m__law_cell
def fg__law_draws1 : MG :=
  (mgName 4)
def fb__law_draws1 : MS :=
  (mSeq (mApp 2 (mBin gMod (mNm 3) (mNm 4)))
  (mSeq (mSet 3 (mBin gDiv (mNm 3) (mNm 4))) mNx))
def fg__law_draws2 : MG :=
  (mgName 5)
def fb__law_draws2 : MS :=
  (mSeq (mSet 6 (mBin gMod (mF (mBin gAdd (mF (mBin gAdd (mF (mBin gMul (mNm 0) (mF (mC (.int 48271))))) (mF (mBin gMul (mNm 5) (mF (mC (.int 69621))))))) (mF (mC (.int 11))))) (mF (mC (.int 2147483647)))))
  (mSeq (mSet 6 (mBin gMod (mF (mBin gAdd (mF (mBin gMul (mNm 6) (mF (mC (.int 16807))))) (mNm 5))) (mF (mC (.int 998244353)))))
  (mSeq (mApp 2 (mBin gMod (mNm 6) (mF (mIx (mNm 1) (mNm 5))))) mNx)))
def m__law_draws : MS :=
  (mSeq (mSet 2 (mLst mAnil))
  (mSeq (mIfS (mT (mBin gGe (mNm 0) (mF (mBin gPow (mF (mC (.int 10))) (mF (mC (.int 18))))))) (mSeq (mSet 3 (mBin gSub (mNm 0) (mF (mBin gPow (mF (mC (.int 10))) (mF (mC (.int 18)))))))
  (mSeq (mFor (mItems (mNv 1)) fg__law_draws1
  fb__law_draws1)
  (mSeq (mRet (mNv 2)) mNx))) mNx)
  (mSeq (mFor (mRng1 (mHcons (mF (mCB gLen (mHcons (mNm 1) mHnil))) mHnil)) fg__law_draws2
  fb__law_draws2)
  (mSeq (mRet (mNv 2)) mNx))))
def cf__law_draws : CF := mDef 7 2 m__law_draws
def fg__law_labels1 : MG :=
  (mgName 3)
def fb__law_labels1 : MS :=
  (mSeq (mIfS (mT (mBin gNotIn (mNm 3) (mNm 1))) (mSeq (mApp 1 (mNv 3)) mNx) mNx)
  (mSeq (mApp 2 (mMt "list" gIndex (mNm 1) (mHcons (mNm 3) mHnil))) mNx))
def m__law_labels : MS :=
  (mSeq (mSet 1 (mLst mAnil))
  (mSeq (mSet 2 (mLst mAnil))
  (mSeq (mFor (mItems (mNv 0)) fg__law_labels1
  fb__law_labels1)
  (mSeq (mRet (mCB gTuple (mHcons (mNm 2) mHnil))) mNx))))
def cf__law_labels : CF := mDef 4 1 m__law_labels
def cg__law_row1 : MG :=
  (mgName 4)
def ce__law_row1 : MV :=
  (mBin gMod (mF (mIx (mNm 2) (mF (mBin gAdd (mF (mC (.int 1))) (mNm 4))))) (mF (mBin gAdd (mF (mC (.int 1))) (mF (mIx (mNm 2) (mF (mC (.int 0))))))))
def cg__law_row2 : MG :=
  (mgName 4)
def ce__law_row2 : MV :=
  (mBin gAdd (mF (mC (.int 1))) (mF (mIx (mNm 2) (mF (mBin gAdd (mF (mBin gAdd (mF (mC (.int 1))) (mNm 1))) (mNm 4))))))
def m__law_row : MS :=
  (mSeq (mSet 2 (mCall cf__law_draws (mAcons (mNv 0) (mAcons (mBin gAdd (mF (mBin gAdd (mF (mLst (mAcons (mC (.int 5)) mAnil))) (mF (mBin gMul (mF (mLst (mAcons (mC (.int 6)) mAnil))) (mNm 1))))) (mF (mBin gMul (mF (mLst (mAcons (mC (.int 9)) mAnil))) (mNm 1)))) mAnil))))
  (mSeq (mSet 3 (mCall cf__law_labels (mAcons (mLc (List.map (·.2) ([("_law_case", 4)] : List (Str × Nat))) (mRng1 (mHcons (mNm 1) mHnil)) cg__law_row1 mYes ce__law_row1) mAnil)))
  (mSeq (mRet (mTup (mAcons (mNv 3) (mAcons (mCB gTuple (mHcons (mF (mLc (List.map (·.2) ([("_law_case", 4)] : List (Str × Nat))) (mRng1 (mHcons (mNm 1) mHnil)) cg__law_row2 mYes ce__law_row2)) mHnil)) mAnil)))) mNx)))
def cf__law_row : CF := mDef 5 2 m__law_row
def wt__law_fraction1 : MB :=
  (mT (mBin gGt (mNm 3) (mF (mC (.int 0)))))
def wb__law_fraction1 : MS :=
  (mSeq (mSet 4 (mBin gMod (mNm 2) (mNm 3)))
  (mSeq (mSet 2 (mNv 3))
  (mSeq (mSet 3 (mNv 4)) mNx)))
def m__law_fraction : MS :=
  (mSeq (mSet 2 (mCB gAbs (mHcons (mNm 0) mHnil)))
  (mSeq (mSet 3 (mNv 1))
  (mSeq (mWh fuel wt__law_fraction1
  wb__law_fraction1)
  (mSeq (mRet (mTup (mAcons (mBin gDiv (mNm 0) (mNm 2)) (mAcons (mBin gDiv (mNm 1) (mNm 2)) mAnil)))) mNx))))
def cf__law_fraction : CF := mDef 5 2 m__law_fraction
def m_is_whole : MS :=
  (mSeq (mRet (mAndV (mIsi (ansT kI 1) (mNm 0)) (mNotV (mIsi (ansT kB 1) (mNm 0))))) mNx)
def cf_is_whole : CF := mDef 1 1 m_is_whole
def fg_is_valid_labels1 : MG :=
  (mgName 2)
def fb_is_valid_labels1 : MS :=
  (mSeq (mIfS (mOr (mNot (mTru (mF (mCall cf_is_whole (mAcons (mNv 2) mAnil))))) (mNot (mT (mChain gLe gLe (mF (mC (.int 0))) (mNm 2) (mNm 1))))) (mSeq (mRet (mC (.bl false))) mNx) mNx)
  (mSeq (mSet 1 (mCB gMax (mHcons (mNm 1) (mHcons (mF (mBin gAdd (mNm 2) (mF (mC (.int 1))))) mHnil)))) mNx))
def m_is_valid_labels : MS :=
  (mSeq (mIfS (mOr (mNot (mTru (mF (mIsi (ansT kT 1) (mNm 0))))) (mNot (mT (mChain gLe gLe (mF (mC (.int 1))) (mF (mCB gLen (mHcons (mNm 0) mHnil))) (mF (mC (.int 12))))))) (mSeq (mRet (mC (.bl false))) mNx) mNx)
  (mSeq (mSet 1 (mC (.int 0)))
  (mSeq (mFor (mItems (mNv 0)) fg_is_valid_labels1
  fb_is_valid_labels1)
  (mSeq (mRet (mC (.bl true))) mNx))))
def cf_is_valid_labels : CF := mDef 3 1 m_is_valid_labels
def m_check_labels : MS :=
  (mSeq (mIfS (mNot (mTru (mF (mCall cf_is_valid_labels (mAcons (mNv 0) mAnil))))) (mSeq (mRaise 1) mNx) mNx) mNx)
def cf_check_labels : CF := mDef 1 1 m_check_labels
def cg_parts_of1 : MG :=
  (mgName 4)
def ce_parts_of1 : MV :=
  (mPub (mLst mAnil))
def fg_parts_of1 : MG :=
  (mgTup 2 (mgCons (mgName 2) (mgCons (mgName 3) mgNil)))
def fb_parts_of1 : MS :=
  (mSeq (mAppO (mF (mIx (mNm 1) (mNm 3))) (mNv 2)) mNx)
def cg_parts_of2 : MG :=
  (mgName 5)
def ce_parts_of2 : MV :=
  (mCB gTuple (mHcons (mNm 5) mHnil))
def m_parts_of : MS :=
  (mSeq (mExpr (mCall cf_check_labels (mAcons (mNv 0) mAnil)))
  (mSeq (mSet 1 (mLc (List.map (·.2) ([("number", 4)] : List (Str × Nat))) (mRng1 (mHcons (mF (mBin gAdd (mF (mCB gMax (mHcons (mNm 0) mHnil))) (mF (mC (.int 1))))) mHnil)) cg_parts_of1 mYes ce_parts_of1))
  (mSeq (mFor (mEnum (mAcons (mNv 0) mAnil)) fg_parts_of1
  fb_parts_of1)
  (mSeq (mRet (mCB gTuple (mHcons (mF (mLc (List.map (·.2) ([("part", 5)] : List (Str × Nat))) (mItems (mNv 1)) cg_parts_of2 mYes ce_parts_of2)) mHnil))) mNx))))
def cf_parts_of : CF := mDef 6 1 m_parts_of
def wt_common_divisor1 : MB :=
  (mT (mBin gNe (mNm 1) (mF (mC (.int 0)))))
def wb_common_divisor1 : MS :=
  (mSeq (mPar 0 1 (mAcons (mNv 1) (mAcons (mBin gMod (mNm 0) (mNm 1)) mAnil))) mNx)
def m_common_divisor : MS :=
  (mSeq (mWh fuel wt_common_divisor1
  wb_common_divisor1)
  (mSeq (mRet (mNv 0)) mNx))
def cf_common_divisor : CF := mDef 2 2 m_common_divisor
def m_is_valid_fraction : MS :=
  (mSeq (mIfS (mOr (mNot (mTru (mF (mIsi (ansT kT 1) (mNm 0))))) (mT (mBin gNe (mF (mCB gLen (mHcons (mNm 0) mHnil))) (mF (mC (.int 2)))))) (mSeq (mRet (mC (.bl false))) mNx) mNx)
  (mSeq (mAsg (mNv 0) (mgTup 2 (mgCons (mgName 1) (mgCons (mgName 2) mgNil))))
  (mSeq (mIfS (mOr (mNot (mTru (mF (mCall cf_is_whole (mAcons (mNv 1) mAnil))))) (mNot (mTru (mF (mCall cf_is_whole (mAcons (mNv 2) mAnil)))))) (mSeq (mRet (mC (.bl false))) mNx) mNx)
  (mSeq (mRet (mAndV (mBin gGe (mNm 2) (mF (mC (.int 1)))) (mBin gEq (mF (mCall cf_common_divisor (mAcons (mNv 1) (mAcons (mNv 2) mAnil)))) (mF (mC (.int 1)))))) mNx))))
def cf_is_valid_fraction : CF := mDef 3 1 m_is_valid_fraction
def m_is_positive_fraction : MS :=
  (mSeq (mRet (mAndV (mCall cf_is_valid_fraction (mAcons (mNv 0) mAnil)) (mBin gGt (mF (mIx (mNm 0) (mF (mC (.int 0))))) (mF (mC (.int 0)))))) mNx)
def cf_is_positive_fraction : CF := mDef 1 1 m_is_positive_fraction
def fg_check_fractions1 : MG :=
  (mgName 1)
def fb_check_fractions1 : MS :=
  (mSeq (mIfS (mNot (mTru (mF (mCall cf_is_valid_fraction (mAcons (mNv 1) mAnil))))) (mSeq (mRaise 0) mNx) mNx) mNx)
def m_check_fractions : MS :=
  (mSeq (mFor (mItems (mNv 0)) fg_check_fractions1
  fb_check_fractions1) mNx)
def cf_check_fractions : CF := mDef 2 1 m_check_fractions
def m_fraction : MS :=
  (mSeq (mIfS (mOr (mNot (mTru (mF (mCall cf_is_whole (mAcons (mNv 0) mAnil))))) (mNot (mTru (mF (mCall cf_is_whole (mAcons (mNv 1) mAnil)))))) (mSeq (mRaise 0) mNx) mNx)
  (mSeq (mIfS (mT (mBin gEq (mNm 1) (mF (mC (.int 0))))) (mSeq (mRaise 0) mNx) mNx)
  (mSeq (mIfS (mT (mBin gLt (mNm 1) (mF (mC (.int 0))))) (mSeq (mPar 0 1 (mAcons (mUn gNeg (mNm 0)) (mAcons (mUn gNeg (mNm 1)) mAnil))) mNx) mNx)
  (mSeq (mSet 2 (mCall cf_common_divisor (mAcons (mNv 0) (mAcons (mNv 1) mAnil))))
  (mSeq (mRet (mTup (mAcons (mBin gDiv (mNm 0) (mNm 2)) (mAcons (mBin gDiv (mNm 1) (mNm 2)) mAnil)))) mNx)))))
def cf_fraction : CF := mDef 3 2 m_fraction
def fg_total1 : MG :=
  (mgName 2)
def fb_total1 : MS :=
  (mSeq (mSet 3 (mBin gAdd (mF (mBin gMul (mF (mIx (mNm 1) (mF (mC (.int 0))))) (mF (mIx (mNm 2) (mF (mC (.int 1))))))) (mF (mBin gMul (mF (mIx (mNm 2) (mF (mC (.int 0))))) (mF (mIx (mNm 1) (mF (mC (.int 1)))))))))
  (mSeq (mSet 1 (mCall cf_fraction (mAcons (mNv 3) (mAcons (mBin gMul (mF (mIx (mNm 1) (mF (mC (.int 1))))) (mF (mIx (mNm 2) (mF (mC (.int 1)))))) mAnil)))) mNx))
def m_total : MS :=
  (mSeq (mExpr (mCall cf_check_fractions (mAcons (mNv 0) mAnil)))
  (mSeq (mSet 1 (mTup (mAcons (mC (.int 0)) (mAcons (mC (.int 1)) mAnil))))
  (mSeq (mFor (mItems (mNv 0)) fg_total1
  fb_total1)
  (mSeq (mRet (mNv 1)) mNx))))
def cf_total : CF := mDefV 4 0 m_total
def cg_total_at1 : MG :=
  (mgName 3)
def ce_total_at1 : MV :=
  (mIx (mNm 0) (mNm 3))
def m_total_at : MS :=
  (mSeq (mSet 2 (mLc (List.map (·.2) ([("place", 3)] : List (Str × Nat))) (mItems (mNv 1)) cg_total_at1 mYes ce_total_at1))
  (mSeq (mRet (mCall cf_total (mStar1 (mNm 2)))) mNx))
def cf_total_at : CF := mDef 4 2 m_total_at
def cg_are_odds1 : MG :=
  (mgName 4)
def ce_are_odds1 : MV :=
  (mCall cf_is_positive_fraction (mAcons (mNv 4) mAnil))
def cg_are_odds2 : MG :=
  (mgName 3)
def ce_are_odds2 : MV :=
  (mBin gEq (mF (mCall cf_total_at (mAcons (mNv 0) (mAcons (mNv 3) mAnil)))) (mF (mTup (mAcons (mC (.int 1)) (mAcons (mC (.int 1)) mAnil)))))
def m_are_odds : MS :=
  (mSeq (mIfS (mOr (mNot (mTru (mF (mIsi (ansT kT 1) (mNm 0))))) (mT (mBin gNe (mF (mCB gLen (mHcons (mNm 0) mHnil))) (mF (mCB gLen (mHcons (mNm 1) mHnil)))))) (mSeq (mRet (mC (.bl false))) mNx) mNx)
  (mSeq (mIfS (mNot (mTru (mF (mCB gAll (mHcons (mF (mLc (List.map (·.2) ([("entry", 4)] : List (Str × Nat))) (mItems (mNv 0)) cg_are_odds1 mYes ce_are_odds1)) mHnil))))) (mSeq (mRet (mC (.bl false))) mNx) mNx)
  (mSeq (mRet (mCB gAll (mHcons (mF (mLc (List.map (·.2) ([("part", 3)] : List (Str × Nat))) (mItems (mNv 2)) cg_are_odds2 mYes ce_are_odds2)) mHnil))) mNx)))
def cf_are_odds : CF := mDef 5 3 m_are_odds
def m_Observer_odds_set : MS :=
  (mSeq (mIfS (mNot (mTru (mF (mCall cf_are_odds (mAcons (mNv 1) (mAcons (mAtt (tabA [.fld]) "labels" (mNm 0)) (mAcons (mAtt (tabA [.fld]) "parts" (mNm 0)) mAnil))))))) (mSeq (mRaise 3) mNx) mNx)
  (mSeq (mSetAtt (tabS [.fld]) "held_odds" (mNv 1) (mNm 0)) mNx))
def cf_Observer_odds_set : CF := mDef 2 2 m_Observer_odds_set
def m_Observer_init : MS :=
  (mSeq (mSetAtt (tabS [.fld]) "parts" (mCall cf_parts_of (mAcons (mNv 1) mAnil)) (mNm 0))
  (mSeq (mSetAtt (tabS [.fld]) "labels" (mNv 1) (mNm 0))
  (mSeq (mSetAtt (tabS [.prop cf_Observer_odds_set]) "odds" (mNv 2) (mNm 0)) mNx)))
def cf_Observer_init : CF := mDef 3 3 m_Observer_init
def cg__law_odds1 : MG :=
  (mgName 5)
def ct__law_odds1 : MB :=
  (mT (mBin gEq (mF (mIx (mNm 0) (mNm 5))) (mF (mIx (mNm 0) (mNm 3)))))
def ce__law_odds1 : MV :=
  (mIx (mNm 1) (mNm 5))
def fg__law_odds1 : MG :=
  (mgName 3)
def fb__law_odds1 : MS :=
  (mSeq (mSet 4 (mCB gSum (mHcons (mF (mLc (List.map (·.2) ([("_law_at", 5)] : List (Str × Nat))) (mRng1 (mHcons (mF (mCB gLen (mHcons (mNm 0) mHnil))) mHnil)) cg__law_odds1 ct__law_odds1 ce__law_odds1)) mHnil)))
  (mSeq (mApp 2 (mCall cf__law_fraction (mAcons (mIx (mNm 1) (mNm 3)) (mAcons (mNv 4) mAnil)))) mNx))
def m__law_odds : MS :=
  (mSeq (mSet 2 (mLst mAnil))
  (mSeq (mFor (mRng1 (mHcons (mF (mCB gLen (mHcons (mNm 0) mHnil))) mHnil)) fg__law_odds1
  fb__law_odds1)
  (mSeq (mRet (mCB gTuple (mHcons (mNm 2) mHnil))) mNx)))
def cf__law_odds : CF := mDef 6 2 m__law_odds
def cf__law_is_same : Nat → CF
  | 0 => fun _ _ => .no
  | n + 1 => mDef 3 2 ((mSeq (mIfS (mTru (mF (mIsi (ansT kT 1) (mNm 1)))) (mSeq (mIfS (mOr (mNot (mTru (mF (mIsi (ansT kT 1) (mNm 0))))) (mT (mBin gNe (mF (mCB gLen (mHcons (mNm 0) mHnil))) (mF (mCB gLen (mHcons (mNm 1) mHnil)))))) (mSeq (mRet (mC (.bl false))) mNx) mNx)
  (mSeq (mRet (mCB gAll (mHcons (mF (mLc (List.map (·.2) ([("_law_k", 2)] : List (Str × Nat))) (mRng1 (mHcons (mF (mCB gLen (mHcons (mNm 1) mHnil))) mHnil)) (mgName 2) mYes (mCall (cf__law_is_same n) (mAcons (mIx (mNm 0) (mNm 2)) (mAcons (mIx (mNm 1) (mNm 2)) mAnil))))) mHnil))) mNx)) mNx)
  (mSeq (mIfS (mT (mIsN true (mNm 1))) (mSeq (mRet (mIsN true (mNm 0))) mNx) mNx)
  (mSeq (mIfS (mTru (mF (mIsi (ansT kS 1) (mNm 1)))) (mSeq (mRet (mAndV (mIsi (ansT kS 1) (mNm 0)) (mBin gEq (mNm 0) (mNm 1)))) mNx) mNx)
  (mSeq (mIfS (mOr (mNot (mTru (mF (mIsi (ansT kI 1) (mNm 0))))) (mT (mBin gNe (mF (mIsi (ansT kB 1) (mNm 0))) (mF (mIsi (ansT kB 1) (mNm 1)))))) (mSeq (mRet (mC (.bl false))) mNx) mNx)
  (mSeq (mRet (mBin gEq (mNm 0) (mNm 1))) mNx))))))
def cg_is_row1 : MG :=
  (mgName 2)
def ce_is_row1 : MV :=
  (mCall cf_is_valid_fraction (mAcons (mNv 2) mAnil))
def m_is_row : MS :=
  (mSeq (mIfS (mOr (mNot (mTru (mF (mIsi (ansT kT 1) (mNm 0))))) (mT (mBin gNe (mF (mCB gLen (mHcons (mNm 0) mHnil))) (mNm 1)))) (mSeq (mRet (mC (.bl false))) mNx) mNx)
  (mSeq (mRet (mCB gAll (mHcons (mF (mLc (List.map (·.2) ([("entry", 2)] : List (Str × Nat))) (mItems (mNv 0)) cg_is_row1 mYes ce_is_row1)) mHnil))) mNx))
def cf_is_row : CF := mDef 3 2 m_is_row
def fg_product1 : MG :=
  (mgName 2)
def fb_product1 : MS :=
  (mSeq (mSet 1 (mCall cf_fraction (mAcons (mBin gMul (mF (mIx (mNm 1) (mF (mC (.int 0))))) (mF (mIx (mNm 2) (mF (mC (.int 0)))))) (mAcons (mBin gMul (mF (mIx (mNm 1) (mF (mC (.int 1))))) (mF (mIx (mNm 2) (mF (mC (.int 1)))))) mAnil)))) mNx)
def m_product : MS :=
  (mSeq (mExpr (mCall cf_check_fractions (mAcons (mNv 0) mAnil)))
  (mSeq (mSet 1 (mTup (mAcons (mC (.int 1)) (mAcons (mC (.int 1)) mAnil))))
  (mSeq (mFor (mItems (mNv 0)) fg_product1
  fb_product1)
  (mSeq (mRet (mNv 1)) mNx))))
def cf_product : CF := mDefV 3 0 m_product
def cg_total_of_products1 : MG :=
  (mgName 4)
def ce_total_of_products1 : MV :=
  (mCall cf_product (mAcons (mIx (mNm 0) (mNm 4)) (mAcons (mIx (mNm 1) (mNm 4)) mAnil)))
def m_total_of_products : MS :=
  (mSeq (mSet 3 (mLc (List.map (·.2) ([("place", 4)] : List (Str × Nat))) (mItems (mNv 2)) cg_total_of_products1 mYes ce_total_of_products1))
  (mSeq (mRet (mCall cf_total (mStar1 (mNm 3)))) mNx))
def cf_total_of_products : CF := mDef 5 3 m_total_of_products
def m_Observer_odds_get : MS :=
  (mSeq (mRet (mAtt (tabA [.fld]) "held_odds" (mNm 0))) mNx)
def cf_Observer_odds_get : CF := mDef 1 1 m_Observer_odds_get
def cg_Observer_expects1 : MG :=
  (mgName 2)
def ce_Observer_expects1 : MV :=
  (mCall cf_total_of_products (mAcons (mAtt (tabA [.prop cf_Observer_odds_get]) "odds" (mNm 0)) (mAcons (mNv 1) (mAcons (mNv 2) mAnil))))
def m_Observer_expects : MS :=
  (mSeq (mIfS (mNot (mTru (mF (mCall cf_is_row (mAcons (mNv 1) (mAcons (mCB gLen (mHcons (mF (mAtt (tabA [.fld]) "labels" (mNm 0))) mHnil)) mAnil)))))) (mSeq (mRaise 6) mNx) mNx)
  (mSeq (mRet (mCB gTuple (mHcons (mF (mLc (List.map (·.2) ([("part", 2)] : List (Str × Nat))) (mItems (mAtt (tabA [.fld]) "parts" (mNm 0))) cg_Observer_expects1 mYes ce_Observer_expects1)) mHnil))) mNx))
def cf_Observer_expects : CF := mDef 3 2 m_Observer_expects
def cg__law_parts1 : MG :=
  (mgName 3)
def ct__law_parts1 : MB :=
  (mT (mBin gEq (mF (mIx (mNm 0) (mNm 3))) (mNm 2)))
def ce__law_parts1 : MV :=
  (mNv 3)
def fg__law_parts1 : MG :=
  (mgName 2)
def fb__law_parts1 : MS :=
  (mSeq (mApp 1 (mCB gTuple (mHcons (mF (mLc (List.map (·.2) ([("_law_case", 3)] : List (Str × Nat))) (mRng1 (mHcons (mF (mCB gLen (mHcons (mNm 0) mHnil))) mHnil)) cg__law_parts1 ct__law_parts1 ce__law_parts1)) mHnil))) mNx)
def m__law_parts : MS :=
  (mSeq (mSet 1 (mLst mAnil))
  (mSeq (mFor (mRng1 (mHcons (mF (mBin gAdd (mF (mCB gMax (mHcons (mNm 0) mHnil))) (mF (mC (.int 1))))) mHnil)) fg__law_parts1
  fb__law_parts1)
  (mSeq (mRet (mCB gTuple (mHcons (mNm 1) mHnil))) mNx)))
def cf__law_parts : CF := mDef 4 1 m__law_parts
def cg__law_due1 : MG :=
  (mgName 5)
def ce__law_due1 : MV :=
  (mBin gMul (mF (mBin gMul (mF (mIx (mF (mIx (mNm 0) (mF (mC (.int 1))))) (mNm 5))) (mF (mIx (mF (mIx (mNm 1) (mNm 5))) (mF (mC (.int 0))))))) (mF (mBin gDiv (mF (mC (.int 60))) (mF (mIx (mF (mIx (mNm 1) (mNm 5))) (mF (mC (.int 1))))))))
def cg__law_due2 : MG :=
  (mgName 5)
def ce__law_due2 : MV :=
  (mIx (mF (mIx (mNm 0) (mF (mC (.int 1))))) (mNm 5))
def fg__law_due1 : MG :=
  (mgName 3)
def fb__law_due1 : MS :=
  (mSeq (mSet 4 (mCB gSum (mHcons (mF (mLc (List.map (·.2) ([("_law_case", 5)] : List (Str × Nat))) (mItems (mNv 3)) cg__law_due1 mYes ce__law_due1)) mHnil)))
  (mSeq (mApp 2 (mCall cf__law_fraction (mAcons (mNv 4) (mAcons (mBin gMul (mF (mC (.int 60))) (mF (mCB gSum (mHcons (mF (mLc (List.map (·.2) ([("_law_case", 5)] : List (Str × Nat))) (mItems (mNv 3)) cg__law_due2 mYes ce__law_due2)) mHnil)))) mAnil)))) mNx))
def m__law_due : MS :=
  (mSeq (mSet 2 (mLst mAnil))
  (mSeq (mFor (mItems (mCall cf__law_parts (mAcons (mIx (mNm 0) (mF (mC (.int 0)))) mAnil))) fg__law_due1
  fb__law_due1)
  (mSeq (mRet (mCB gTuple (mHcons (mNm 2) mHnil))) mNx)))
def cf__law_due : CF := mDef 6 2 m__law_due
def m__law_is_refused : MS :=
  (mSeq (mTry (mSeq (mExpr (mMeth (tabM [some cf_Observer_expects]) "expects" (mNm 0) (mAcons (mNv 1) mAnil))) mNx) (⟨hf_InvalidAmountsError, (mSeq (mRet (mC (.bl true))) mNx)⟩ :: []))
  (mSeq (mRet (mC (.bl false))) mNx))
def cf__law_is_refused : CF := mDef 2 2 m__law_is_refused
def cg_law1 : MG :=
  (mgName 11)
def ce_law1 : MV :=
  (mCall cf__law_fraction (mAcons (mBin gSub (mF (mIx (mNm 3) (mNm 11))) (mF (mC (.int 40)))) (mAcons (mBin gAdd (mF (mC (.int 1))) (mF (mIx (mNm 3) (mF (mBin gAdd (mNm 1) (mNm 11)))))) mAnil)))
def fg_law1 : MG :=
  (mgName 9)
def fb_law1 : MS :=
  (mSeq (mApp 7 (mBin gAdd (mF (mBin gAdd (mF (mSl (mNm 4) mNoPart (mPart (mNm 6)))) (mF (mTup (mAcons (mNv 9) mAnil))))) (mF (mSl (mNm 4) (mPart (mF (mBin gAdd (mNm 6) (mF (mC (.int 1)))))) mNoPart)))) mNx)
def fg_law2 : MG :=
  (mgName 10)
def fb_law2 : MS :=
  (mSeq (mIfS (mNot (mTru (mF (mCall cf__law_is_refused (mAcons (mNv 5) (mAcons (mNv 10) mAnil)))))) (mSeq (mRet (mC (.bl false))) mNx) mNx) mNx)
def m_law : MS :=
  (mSeq (mSet 1 (mBin gAdd (mF (mC (.int 1))) (mF (mBin gMod (mF (mCall cf__law_cell (mAcons (mNv 0) (mAcons (mC (.int 0)) mAnil)))) (mF (mC (.int 12)))))))
  (mSeq (mSet 2 (mCall cf__law_row (mAcons (mCall cf__law_cell (mAcons (mNv 0) (mAcons (mC (.int 1)) mAnil))) (mAcons (mNv 1) mAnil))))
  (mSeq (mSet 3 (mCall cf__law_draws (mAcons (mCall cf__law_cell (mAcons (mNv 0) (mAcons (mC (.int 2)) mAnil))) (mAcons (mBin gAdd (mF (mBin gMul (mF (mLst (mAcons (mC (.int 81)) mAnil))) (mNm 1))) (mF (mBin gMul (mF (mLst (mAcons (mC (.int 6)) mAnil))) (mNm 1)))) mAnil))))
  (mSeq (mSet 4 (mCB gTuple (mHcons (mF (mLc (List.map (·.2) ([("_law_case", 11)] : List (Str × Nat))) (mRng1 (mHcons (mNm 1) mHnil)) cg_law1 mYes ce_law1)) mHnil)))
  (mSeq (mSet 5 (mCall (cfMake 0 cf_Observer_init) (mAcons (mIx (mNm 2) (mF (mC (.int 0)))) (mAcons (mCall cf__law_odds (mAcons (mIx (mNm 2) (mF (mC (.int 0)))) (mAcons (mIx (mNm 2) (mF (mC (.int 1)))) mAnil))) mAnil))))
  (mSeq (mIfS (mNot (mTru (mF (mCall (cf__law_is_same 5) (mAcons (mMeth (tabM [some cf_Observer_expects]) "expects" (mNm 5) (mAcons (mNv 4) mAnil)) (mAcons (mCall cf__law_due (mAcons (mNv 2) (mAcons (mNv 4) mAnil))) mAnil)))))) (mSeq (mRet (mC (.bl false))) mNx) mNx)
  (mSeq (mSet 6 (mBin gMod (mF (mCall cf__law_cell (mAcons (mNv 0) (mAcons (mC (.int 3)) mAnil)))) (mNm 1)))
  (mSeq (mSet 7 (mLst (mAcons (mSl (mNm 4) (mPart (mF (mC (.int 1)))) mNoPart) (mAcons (mBin gAdd (mNm 4) (mF (mTup (mAcons (mTup (mAcons (mC (.int 0)) (mAcons (mC (.int 1)) mAnil))) mAnil)))) (mAcons (mCB gList (mHcons (mNm 4) mHnil)) (mAcons (mC .non) (mAcons (mC (.int 0)) (mAcons (mC (.str "0")) mAnil))))))))
  (mSeq (mSet 8 (mTup (mAcons (mBin gMul (mF (mC (.int 3))) (mF (mIx (mF (mIx (mNm 4) (mNm 6))) (mF (mC (.int 0)))))) (mAcons (mBin gMul (mF (mC (.int 3))) (mF (mIx (mF (mIx (mNm 4) (mNm 6))) (mF (mC (.int 1)))))) mAnil))))
  (mSeq (mFor (mItems (mLst (mAcons (mNv 8) (mAcons (mC .non) (mAcons (mC (.int 1)) (mAcons (mC (.bl true)) (mAcons (mTup (mAcons (mC (.bl true)) (mAcons (mC (.int 1)) mAnil))) (mAcons (mLst (mAcons (mC (.int 1)) (mAcons (mC (.int 1)) mAnil))) (mAcons (mC (.str "1")) (mAcons (mTup (mAcons (mC (.int 1)) (mAcons (mC (.int 0)) mAnil))) (mAcons (mTup (mAcons (mC (.int 1)) (mAcons (mUn gNeg (mF (mC (.int 2)))) mAnil))) (mAcons (mTup (mAcons (mC (.int 1)) mAnil)) mAnil)))))))))))) fg_law1
  fb_law1)
  (mSeq (mFor (mItems (mNv 7)) fg_law2
  fb_law2)
  (mSeq (mRet (mCall (cf__law_is_same 5) (mAcons (mMeth (tabM [some cf_Observer_expects]) "expects" (mNm 5) (mAcons (mNv 4) mAnil)) (mAcons (mCall cf__law_due (mAcons (mNv 2) (mAcons (mNv 4) mAnil))) mAnil)))) mNx))))))))))))
def cf_law : CF := mDef 12 1 m_law
end Lw

namespace Lw
open PySem PySem.Spec PyProof.Rows L2 Mi
def topS (i : Nat) : Stmt :=
  PySem.Challenge.pw_wagerroom_k50_expected_amounts.main.body.getD i (.Pass ⟨0, 0, 0, 0⟩)
abbrev s__law_cell : Stmt := (topS 29)
abbrev n__law_cell : List Str := ["_law_script", "_law_k"]
theorem sc__law_cell : FnScope n__law_cell ["_law_script", "_law_k"] (defScope s__law_cell) :=
  ⟨rfl, rfl, rfl, by decide +kernel, rfl, by decide +kernel, by decide +kernel⟩
abbrev s__law_draws : Stmt := (topS 30)
abbrev n__law_draws : List Str := ["_law_cell_here", "_law_sizes", "_law_found", "_law_left", "_law_size", "_law_k", "_law_mixed"]
theorem sc__law_draws : FnScope n__law_draws ["_law_cell_here", "_law_sizes"] (defScope s__law_draws) :=
  ⟨rfl, rfl, rfl, by decide +kernel, rfl, by decide +kernel, by decide +kernel⟩
abbrev s__law_labels : Stmt := (topS 33)
abbrev n__law_labels : List Str := ["_law_keys", "_law_known", "_law_labels_here", "_law_key"]
theorem sc__law_labels : FnScope n__law_labels ["_law_keys"] (defScope s__law_labels) :=
  ⟨rfl, rfl, rfl, by decide +kernel, rfl, by decide +kernel, by decide +kernel⟩
abbrev s__law_row : Stmt := (topS 36)
abbrev n__law_row : List Str := ["_law_cell_here", "_law_n", "_law_draws_here", "_law_labels_here", "_law_case"]
theorem sc__law_row : FnScope n__law_row ["_law_cell_here", "_law_n"] (defScope s__law_row) :=
  ⟨rfl, rfl, rfl, by decide +kernel, rfl, by decide +kernel, by decide +kernel⟩
abbrev s__law_fraction : Stmt := (topS 31)
abbrev n__law_fraction : List Str := ["_law_top", "_law_bottom", "_law_one", "_law_other", "_law_rest"]
theorem sc__law_fraction : FnScope n__law_fraction ["_law_top", "_law_bottom"] (defScope s__law_fraction) :=
  ⟨rfl, rfl, rfl, by decide +kernel, rfl, by decide +kernel, by decide +kernel⟩
abbrev s_is_whole : Stmt := (topS 8)
abbrev n_is_whole : List Str := ["value"]
theorem sc_is_whole : FnScope n_is_whole ["value"] (defScope s_is_whole) :=
  ⟨rfl, rfl, rfl, by decide +kernel, rfl, by decide +kernel, by decide +kernel⟩
abbrev s_is_valid_labels : Stmt := (topS 11)
abbrev n_is_valid_labels : List Str := ["value", "known", "label"]
theorem sc_is_valid_labels : FnScope n_is_valid_labels ["value"] (defScope s_is_valid_labels) :=
  ⟨rfl, rfl, rfl, by decide +kernel, rfl, by decide +kernel, by decide +kernel⟩
abbrev s_check_labels : Stmt := (topS 12)
abbrev n_check_labels : List Str := ["value"]
theorem sc_check_labels : FnScope n_check_labels ["value"] (defScope s_check_labels) :=
  ⟨rfl, rfl, rfl, by decide +kernel, rfl, by decide +kernel, by decide +kernel⟩
abbrev s_parts_of : Stmt := (topS 13)
abbrev n_parts_of : List Str := ["labels", "parts", "case", "label", "number", "part"]
theorem sc_parts_of : FnScope n_parts_of ["labels"] (defScope s_parts_of) :=
  ⟨rfl, rfl, rfl, by decide +kernel, rfl, by decide +kernel, by decide +kernel⟩
abbrev s_common_divisor : Stmt := (topS 15)
abbrev n_common_divisor : List Str := ["top", "bottom"]
theorem sc_common_divisor : FnScope n_common_divisor ["top", "bottom"] (defScope s_common_divisor) :=
  ⟨rfl, rfl, rfl, by decide +kernel, rfl, by decide +kernel, by decide +kernel⟩
abbrev s_is_valid_fraction : Stmt := (topS 16)
abbrev n_is_valid_fraction : List Str := ["value", "top", "bottom"]
theorem sc_is_valid_fraction : FnScope n_is_valid_fraction ["value"] (defScope s_is_valid_fraction) :=
  ⟨rfl, rfl, rfl, by decide +kernel, rfl, by decide +kernel, by decide +kernel⟩
abbrev s_is_positive_fraction : Stmt := (topS 21)
abbrev n_is_positive_fraction : List Str := ["value"]
theorem sc_is_positive_fraction : FnScope n_is_positive_fraction ["value"] (defScope s_is_positive_fraction) :=
  ⟨rfl, rfl, rfl, by decide +kernel, rfl, by decide +kernel, by decide +kernel⟩
abbrev s_check_fractions : Stmt := (topS 17)
abbrev n_check_fractions : List Str := ["values", "value"]
theorem sc_check_fractions : FnScope n_check_fractions ["values"] (defScope s_check_fractions) :=
  ⟨rfl, rfl, rfl, by decide +kernel, rfl, by decide +kernel, by decide +kernel⟩
abbrev s_fraction : Stmt := (topS 18)
abbrev n_fraction : List Str := ["top", "bottom", "divisor"]
theorem sc_fraction : FnScope n_fraction ["top", "bottom"] (defScope s_fraction) :=
  ⟨rfl, rfl, rfl, by decide +kernel, rfl, by decide +kernel, by decide +kernel⟩
abbrev s_total : Stmt := (topS 19)
abbrev n_total : List Str := ["fractions", "result", "added", "top"]
theorem sc_total : FnScope n_total ["fractions"] (defScope s_total) :=
  ⟨rfl, rfl, rfl, by decide +kernel, rfl, by decide +kernel, by decide +kernel⟩
abbrev s_total_at : Stmt := (topS 23)
abbrev n_total_at : List Str := ["values", "places", "picked", "place"]
theorem sc_total_at : FnScope n_total_at ["values", "places"] (defScope s_total_at) :=
  ⟨rfl, rfl, rfl, by decide +kernel, rfl, by decide +kernel, by decide +kernel⟩
abbrev s_are_odds : Stmt := (topS 26)
abbrev n_are_odds : List Str := ["value", "labels", "parts", "part", "entry"]
theorem sc_are_odds : FnScope n_are_odds ["value", "labels", "parts"] (defScope s_are_odds) :=
  ⟨rfl, rfl, rfl, by decide +kernel, rfl, by decide +kernel, by decide +kernel⟩
abbrev s_Observer_odds_set : Stmt := (inClass (topS 27) 4)
abbrev n_Observer_odds_set : List Str := ["self", "value"]
theorem sc_Observer_odds_set : FnScope n_Observer_odds_set ["self", "value"] (defScope s_Observer_odds_set) :=
  ⟨rfl, rfl, rfl, by decide +kernel, rfl, by decide +kernel, by decide +kernel⟩
abbrev s_Observer_init : Stmt := (inClass (topS 27) 1)
abbrev n_Observer_init : List Str := ["self", "labels", "odds"]
theorem sc_Observer_init : FnScope n_Observer_init ["self", "labels", "odds"] (defScope s_Observer_init) :=
  ⟨rfl, rfl, rfl, by decide +kernel, rfl, by decide +kernel, by decide +kernel⟩
abbrev s__law_odds : Stmt := (topS 35)
abbrev n__law_odds : List Str := ["_law_labels_here", "_law_weights", "_law_odds_here", "_law_case", "_law_whole", "_law_at"]
theorem sc__law_odds : FnScope n__law_odds ["_law_labels_here", "_law_weights"] (defScope s__law_odds) :=
  ⟨rfl, rfl, rfl, by decide +kernel, rfl, by decide +kernel, by decide +kernel⟩
abbrev s__law_is_same : Stmt := (topS 32)
abbrev n__law_is_same : List Str := ["_law_actual", "_law_wanted", "_law_k"]
theorem sc__law_is_same : FnScope n__law_is_same ["_law_actual", "_law_wanted"] (defScope s__law_is_same) :=
  ⟨rfl, rfl, rfl, by decide +kernel, rfl, by decide +kernel, by decide +kernel⟩
abbrev s_is_row : Stmt := (topS 22)
abbrev n_is_row : List Str := ["value", "many", "entry"]
theorem sc_is_row : FnScope n_is_row ["value", "many"] (defScope s_is_row) :=
  ⟨rfl, rfl, rfl, by decide +kernel, rfl, by decide +kernel, by decide +kernel⟩
abbrev s_product : Stmt := (topS 20)
abbrev n_product : List Str := ["fractions", "result", "factor"]
theorem sc_product : FnScope n_product ["fractions"] (defScope s_product) :=
  ⟨rfl, rfl, rfl, by decide +kernel, rfl, by decide +kernel, by decide +kernel⟩
abbrev s_total_of_products : Stmt := (topS 24)
abbrev n_total_of_products : List Str := ["values", "factors", "places", "products", "place"]
theorem sc_total_of_products : FnScope n_total_of_products ["values", "factors", "places"] (defScope s_total_of_products) :=
  ⟨rfl, rfl, rfl, by decide +kernel, rfl, by decide +kernel, by decide +kernel⟩
abbrev s_Observer_odds_get : Stmt := (inClass (topS 27) 3)
abbrev n_Observer_odds_get : List Str := ["self"]
theorem sc_Observer_odds_get : FnScope n_Observer_odds_get ["self"] (defScope s_Observer_odds_get) :=
  ⟨rfl, rfl, rfl, by decide +kernel, rfl, by decide +kernel, by decide +kernel⟩
abbrev s_Observer_expects : Stmt := (inClass (topS 27) 9)
abbrev n_Observer_expects : List Str := ["self", "amounts", "part"]
theorem sc_Observer_expects : FnScope n_Observer_expects ["self", "amounts"] (defScope s_Observer_expects) :=
  ⟨rfl, rfl, rfl, by decide +kernel, rfl, by decide +kernel, by decide +kernel⟩
abbrev s__law_parts : Stmt := (topS 34)
abbrev n__law_parts : List Str := ["_law_labels_here", "_law_parts_here", "_law_label", "_law_case"]
theorem sc__law_parts : FnScope n__law_parts ["_law_labels_here"] (defScope s__law_parts) :=
  ⟨rfl, rfl, rfl, by decide +kernel, rfl, by decide +kernel, by decide +kernel⟩
abbrev s__law_due : Stmt := (topS 37)
abbrev n__law_due : List Str := ["_law_row_here", "_law_amounts", "_law_found", "_law_part", "_law_top", "_law_case"]
theorem sc__law_due : FnScope n__law_due ["_law_row_here", "_law_amounts"] (defScope s__law_due) :=
  ⟨rfl, rfl, rfl, by decide +kernel, rfl, by decide +kernel, by decide +kernel⟩
abbrev s__law_is_refused : Stmt := (topS 38)
abbrev n__law_is_refused : List Str := ["_law_made", "_law_amounts"]
theorem sc__law_is_refused : FnScope n__law_is_refused ["_law_made", "_law_amounts"] (defScope s__law_is_refused) :=
  ⟨rfl, rfl, rfl, by decide +kernel, rfl, by decide +kernel, by decide +kernel⟩
abbrev s_law : Stmt := (topS 39)
abbrev n_law : List Str := ["_law_script", "_law_n", "_law_row_here", "_law_draws_here", "_law_amounts", "_law_made", "_law_at", "_law_wrong", "_law_triple", "_law_entry", "_law_value", "_law_case"]
theorem sc_law : FnScope n_law ["_law_script"] (defScope s_law) :=
  ⟨rfl, rfl, rfl, by decide +kernel, rfl, by decide +kernel, by decide +kernel⟩
structure Txt (K : PySem.W.Frag) (mg : Str → Option Value) where
  c_Observer : Addr
  h_Observer : mg "Observer" = some (.ref c_Observer)
  cls_Observer : Cls K c_Observer
  a__law_cell : Addr
  d__law_cell : FuncData
  f__law_cell : L2.Fun K "_law_cell" "_law_cell" s__law_cell a__law_cell d__law_cell
  b__law_cell : Binds K d__law_cell ["_law_script", "_law_k"] []
  g__law_cell : mg "_law_cell" = some (.ref a__law_cell)
  a__law_draws : Addr
  d__law_draws : FuncData
  f__law_draws : L2.Fun K "_law_draws" "_law_draws" s__law_draws a__law_draws d__law_draws
  b__law_draws : Binds K d__law_draws ["_law_cell_here", "_law_sizes"] []
  g__law_draws : mg "_law_draws" = some (.ref a__law_draws)
  a__law_labels : Addr
  d__law_labels : FuncData
  f__law_labels : L2.Fun K "_law_labels" "_law_labels" s__law_labels a__law_labels d__law_labels
  b__law_labels : Binds K d__law_labels ["_law_keys"] []
  g__law_labels : mg "_law_labels" = some (.ref a__law_labels)
  a__law_row : Addr
  d__law_row : FuncData
  f__law_row : L2.Fun K "_law_row" "_law_row" s__law_row a__law_row d__law_row
  b__law_row : Binds K d__law_row ["_law_cell_here", "_law_n"] []
  g__law_row : mg "_law_row" = some (.ref a__law_row)
  a__law_fraction : Addr
  d__law_fraction : FuncData
  f__law_fraction : L2.Fun K "_law_fraction" "_law_fraction" s__law_fraction a__law_fraction d__law_fraction
  b__law_fraction : Binds K d__law_fraction ["_law_top", "_law_bottom"] []
  g__law_fraction : mg "_law_fraction" = some (.ref a__law_fraction)
  a_is_whole : Addr
  d_is_whole : FuncData
  f_is_whole : L2.Fun K "is_whole" "is_whole" s_is_whole a_is_whole d_is_whole
  b_is_whole : Binds K d_is_whole ["value"] []
  g_is_whole : mg "is_whole" = some (.ref a_is_whole)
  a_is_valid_labels : Addr
  d_is_valid_labels : FuncData
  f_is_valid_labels : L2.Fun K "is_valid_labels" "is_valid_labels" s_is_valid_labels a_is_valid_labels d_is_valid_labels
  b_is_valid_labels : Binds K d_is_valid_labels ["value"] []
  g_is_valid_labels : mg "is_valid_labels" = some (.ref a_is_valid_labels)
  a_check_labels : Addr
  d_check_labels : FuncData
  f_check_labels : L2.Fun K "check_labels" "check_labels" s_check_labels a_check_labels d_check_labels
  b_check_labels : Binds K d_check_labels ["value"] []
  g_check_labels : mg "check_labels" = some (.ref a_check_labels)
  a_parts_of : Addr
  d_parts_of : FuncData
  f_parts_of : L2.Fun K "parts_of" "parts_of" s_parts_of a_parts_of d_parts_of
  b_parts_of : Binds K d_parts_of ["labels"] []
  g_parts_of : mg "parts_of" = some (.ref a_parts_of)
  a_common_divisor : Addr
  d_common_divisor : FuncData
  f_common_divisor : L2.Fun K "common_divisor" "common_divisor" s_common_divisor a_common_divisor d_common_divisor
  b_common_divisor : Binds K d_common_divisor ["top", "bottom"] []
  g_common_divisor : mg "common_divisor" = some (.ref a_common_divisor)
  a_is_valid_fraction : Addr
  d_is_valid_fraction : FuncData
  f_is_valid_fraction : L2.Fun K "is_valid_fraction" "is_valid_fraction" s_is_valid_fraction a_is_valid_fraction d_is_valid_fraction
  b_is_valid_fraction : Binds K d_is_valid_fraction ["value"] []
  g_is_valid_fraction : mg "is_valid_fraction" = some (.ref a_is_valid_fraction)
  a_is_positive_fraction : Addr
  d_is_positive_fraction : FuncData
  f_is_positive_fraction : L2.Fun K "is_positive_fraction" "is_positive_fraction" s_is_positive_fraction a_is_positive_fraction d_is_positive_fraction
  b_is_positive_fraction : Binds K d_is_positive_fraction ["value"] []
  g_is_positive_fraction : mg "is_positive_fraction" = some (.ref a_is_positive_fraction)
  a_check_fractions : Addr
  d_check_fractions : FuncData
  f_check_fractions : L2.Fun K "check_fractions" "check_fractions" s_check_fractions a_check_fractions d_check_fractions
  b_check_fractions : Binds K d_check_fractions ["values"] []
  g_check_fractions : mg "check_fractions" = some (.ref a_check_fractions)
  a_fraction : Addr
  d_fraction : FuncData
  f_fraction : L2.Fun K "fraction" "fraction" s_fraction a_fraction d_fraction
  b_fraction : Binds K d_fraction ["top", "bottom"] []
  g_fraction : mg "fraction" = some (.ref a_fraction)
  a_total : Addr
  d_total : FuncData
  f_total : L2.Fun K "total" "total" s_total a_total d_total
  g_total : mg "total" = some (.ref a_total)
  a_total_at : Addr
  d_total_at : FuncData
  f_total_at : L2.Fun K "total_at" "total_at" s_total_at a_total_at d_total_at
  b_total_at : Binds K d_total_at ["values", "places"] []
  g_total_at : mg "total_at" = some (.ref a_total_at)
  a_are_odds : Addr
  d_are_odds : FuncData
  f_are_odds : L2.Fun K "are_odds" "are_odds" s_are_odds a_are_odds d_are_odds
  b_are_odds : Binds K d_are_odds ["value", "labels", "parts"] []
  g_are_odds : mg "are_odds" = some (.ref a_are_odds)
  a_Observer_odds_set : Addr
  d_Observer_odds_set : FuncData
  f_Observer_odds_set : L2.Fun K "odds" "Observer.odds" s_Observer_odds_set a_Observer_odds_set d_Observer_odds_set
  b_Observer_odds_set : Binds K d_Observer_odds_set ["self", "value"] []
  a_Observer_init : Addr
  d_Observer_init : FuncData
  f_Observer_init : L2.Fun K "__init__" "Observer.__init__" s_Observer_init a_Observer_init d_Observer_init
  b_Observer_init : Binds K d_Observer_init ["self", "labels", "odds"] []
  a__law_odds : Addr
  d__law_odds : FuncData
  f__law_odds : L2.Fun K "_law_odds" "_law_odds" s__law_odds a__law_odds d__law_odds
  b__law_odds : Binds K d__law_odds ["_law_labels_here", "_law_weights"] []
  g__law_odds : mg "_law_odds" = some (.ref a__law_odds)
  a__law_is_same : Addr
  d__law_is_same : FuncData
  f__law_is_same : L2.Fun K "_law_is_same" "_law_is_same" s__law_is_same a__law_is_same d__law_is_same
  b__law_is_same : Binds K d__law_is_same ["_law_actual", "_law_wanted"] []
  g__law_is_same : mg "_law_is_same" = some (.ref a__law_is_same)
  a_is_row : Addr
  d_is_row : FuncData
  f_is_row : L2.Fun K "is_row" "is_row" s_is_row a_is_row d_is_row
  b_is_row : Binds K d_is_row ["value", "many"] []
  g_is_row : mg "is_row" = some (.ref a_is_row)
  a_product : Addr
  d_product : FuncData
  f_product : L2.Fun K "product" "product" s_product a_product d_product
  g_product : mg "product" = some (.ref a_product)
  a_total_of_products : Addr
  d_total_of_products : FuncData
  f_total_of_products : L2.Fun K "total_of_products" "total_of_products" s_total_of_products a_total_of_products d_total_of_products
  b_total_of_products : Binds K d_total_of_products ["values", "factors", "places"] []
  g_total_of_products : mg "total_of_products" = some (.ref a_total_of_products)
  a_Observer_odds_get : Addr
  d_Observer_odds_get : FuncData
  f_Observer_odds_get : L2.Fun K "odds" "Observer.odds" s_Observer_odds_get a_Observer_odds_get d_Observer_odds_get
  b_Observer_odds_get : Binds K d_Observer_odds_get ["self"] []
  a_Observer_expects : Addr
  d_Observer_expects : FuncData
  f_Observer_expects : L2.Fun K "expects" "Observer.expects" s_Observer_expects a_Observer_expects d_Observer_expects
  b_Observer_expects : Binds K d_Observer_expects ["self", "amounts"] []
  a__law_parts : Addr
  d__law_parts : FuncData
  f__law_parts : L2.Fun K "_law_parts" "_law_parts" s__law_parts a__law_parts d__law_parts
  b__law_parts : Binds K d__law_parts ["_law_labels_here"] []
  g__law_parts : mg "_law_parts" = some (.ref a__law_parts)
  a__law_due : Addr
  d__law_due : FuncData
  f__law_due : L2.Fun K "_law_due" "_law_due" s__law_due a__law_due d__law_due
  b__law_due : Binds K d__law_due ["_law_row_here", "_law_amounts"] []
  g__law_due : mg "_law_due" = some (.ref a__law_due)
  a__law_is_refused : Addr
  d__law_is_refused : FuncData
  f__law_is_refused : L2.Fun K "_law_is_refused" "_law_is_refused" s__law_is_refused a__law_is_refused d__law_is_refused
  b__law_is_refused : Binds K d__law_is_refused ["_law_made", "_law_amounts"] []
  g__law_is_refused : mg "_law_is_refused" = some (.ref a__law_is_refused)
  a_law : Addr
  d_law : FuncData
  f_law : L2.Fun K "law" "law" s_law a_law d_law
  b_law : Binds K d_law ["_law_script"] []
  g_law : mg "law" = some (.ref a_law)
  kb_Observer_tuple : PySem.W.kitOne K (.ref c_Observer) (.type "tuple") = some false
  it_Observer : InsTy K c_Observer
  kb_Observer_bool : PySem.W.kitOne K (.ref c_Observer) (.type "bool") = some false
  kb_Observer_int : PySem.W.kitOne K (.ref c_Observer) (.type "int") = some false
  na_Observer_parts : NoAttr K c_Observer "parts"
  na_Observer_labels : NoAttr K c_Observer "labels"
  na_Observer_held_odds : NoAttr K c_Observer "held_odds"
  p_Observer_odds : Addr
  pr_Observer_odds : PropOf K c_Observer "odds" p_Observer_odds a_Observer_odds_get
  u_Observer_odds : Value
  r_Observer_odds : List Value
  ps_Observer_odds : PySem.W.takerIn K c_Observer "odds" = some (some (.ref p_Observer_odds)) ∧ PySem.W.typeIn K (.ref p_Observer_odds) = some (.type "property") ∧ PySem.W.recIn K p_Observer_odds "property" = some (u_Observer_odds :: .ref a_Observer_odds_set :: r_Observer_odds)
  mk_Observer : Mk K c_Observer a_Observer_init
  kb_Observer_str : PySem.W.kitOne K (.ref c_Observer) (.type "str") = some false
  me_Observer_expects : Meth K c_Observer "expects" a_Observer_expects
  e_InvalidFractionError : Addr
  h_InvalidFractionError : mg "InvalidFractionError" = some (.ref e_InvalidFractionError)
  x_InvalidFractionError : PySem.W.excIn K e_InvalidFractionError [.type "ValueError", .type "Exception", .type "BaseException", .type "object"] "ValueError.__new__" = true
  k_InvalidFractionError : PySem.W.keepIn K (.ref e_InvalidFractionError) = true
  s_InvalidFractionError : PySem.W.subIn K (.ref e_InvalidFractionError) (.type "BaseException") = some true
  t_InvalidFractionError : PySem.W.typeIn K (.ref e_InvalidFractionError) = some (.type "type")
  e_InvalidLabelsError : Addr
  h_InvalidLabelsError : mg "InvalidLabelsError" = some (.ref e_InvalidLabelsError)
  x_InvalidLabelsError : PySem.W.excIn K e_InvalidLabelsError [.type "ValueError", .type "Exception", .type "BaseException", .type "object"] "ValueError.__new__" = true
  k_InvalidLabelsError : PySem.W.keepIn K (.ref e_InvalidLabelsError) = true
  s_InvalidLabelsError : PySem.W.subIn K (.ref e_InvalidLabelsError) (.type "BaseException") = some true
  t_InvalidLabelsError : PySem.W.typeIn K (.ref e_InvalidLabelsError) = some (.type "type")
  e_InvalidOddsError : Addr
  h_InvalidOddsError : mg "InvalidOddsError" = some (.ref e_InvalidOddsError)
  x_InvalidOddsError : PySem.W.excIn K e_InvalidOddsError [.type "ValueError", .type "Exception", .type "BaseException", .type "object"] "ValueError.__new__" = true
  k_InvalidOddsError : PySem.W.keepIn K (.ref e_InvalidOddsError) = true
  s_InvalidOddsError : PySem.W.subIn K (.ref e_InvalidOddsError) (.type "BaseException") = some true
  t_InvalidOddsError : PySem.W.typeIn K (.ref e_InvalidOddsError) = some (.type "type")
  e_InvalidAmountsError : Addr
  h_InvalidAmountsError : mg "InvalidAmountsError" = some (.ref e_InvalidAmountsError)
  x_InvalidAmountsError : PySem.W.excIn K e_InvalidAmountsError [.type "ValueError", .type "Exception", .type "BaseException", .type "object"] "ValueError.__new__" = true
  k_InvalidAmountsError : PySem.W.keepIn K (.ref e_InvalidAmountsError) = true
  s_InvalidAmountsError : PySem.W.subIn K (.ref e_InvalidAmountsError) (.type "BaseException") = some true
  t_InvalidAmountsError : PySem.W.typeIn K (.ref e_InvalidAmountsError) = some (.type "type")
  m_InvalidFractionError_InvalidAmountsError : PySem.W.exmOne K (.ref e_InvalidFractionError) (.ref e_InvalidAmountsError) = some false
  m_InvalidLabelsError_InvalidAmountsError : PySem.W.exmOne K (.ref e_InvalidLabelsError) (.ref e_InvalidAmountsError) = some false
  m_InvalidOddsError_InvalidAmountsError : PySem.W.exmOne K (.ref e_InvalidOddsError) (.ref e_InvalidAmountsError) = some false
  m_InvalidAmountsError_InvalidAmountsError : PySem.W.exmOne K (.ref e_InvalidAmountsError) (.ref e_InvalidAmountsError) = some true
  z_len : mg "len" = none
  z_range : mg "range" = none
  z_tuple : mg "tuple" = none
  z_abs : mg "abs" = none
  z_isinstance : mg "isinstance" = none
  z_bool : mg "bool" = none
  z_int : mg "int" = none
  z_max : mg "max" = none
  z_enumerate : mg "enumerate" = none
  z_all : mg "all" = none
  z_sum : mg "sum" = none
  z_str : mg "str" = none
  z_list : mg "list" = none
  v_CASE_LIMIT : Tok
  g_CASE_LIMIT : mg "CASE_LIMIT" = some (.int 12 v_CASE_LIMIT)
def tb {K : PySem.W.Frag} {mg : Str → Option Value} (T : Txt K mg) : Tb := ⟨nth 0 [T.c_Observer], nth T.e_InvalidAmountsError [T.e_InvalidFractionError, T.e_InvalidLabelsError, T.e_InvalidAmountsError, T.e_InvalidOddsError, T.e_InvalidAmountsError, T.e_InvalidAmountsError, T.e_InvalidAmountsError]⟩
theorem hx_InvalidAmountsError {K : PySem.W.Frag} {mg : Str → Option Value} (T : Txt K mg) : ∀ c, PySem.W.exmOne K (.ref ((tb T).ec c)) (.ref T.e_InvalidAmountsError) = some (hf_InvalidAmountsError c) := Exm.at T.m_InvalidAmountsError_InvalidAmountsError (.cons T.m_InvalidFractionError_InvalidAmountsError (.cons T.m_InvalidLabelsError_InvalidAmountsError (.cons T.m_InvalidAmountsError_InvalidAmountsError (.cons T.m_InvalidOddsError_InvalidAmountsError (.cons T.m_InvalidAmountsError_InvalidAmountsError (.cons T.m_InvalidAmountsError_InvalidAmountsError (.cons T.m_InvalidAmountsError_InvalidAmountsError .nil)))))))
end Lw

namespace Lw
open PySem PySem.Spec PyProof.Rows L2 Mi
section
variable {P : Program} {w : World} {K : PySem.W.Frag} {mg : Str → Option Value} {base : Heap}
theorem D__law_cell (T : Txt K mg) : FnOk P w K mg base (L2.CX P w) 1 T.a__law_cell T.d__law_cell ["_law_script", "_law_k"] (spD K (tb T) cf__law_cell) :=
  fn_def (N := n__law_cell) (ps := ["_law_script", "_law_k"]) (k := 0) (m := m__law_cell) T.f__law_cell sc__law_cell fun cdv A outer s H E hr => (ss_cons (ss_if (sd_cmpT od_lt (sd_nm (pv 1)) (sd_f (sd_callB cd_len (by rfl) T.z_len (by decide +kernel) (sd_hcons (sd_nm (pv 0)) sd_hnil)))) (ss_one (ss_ret (sd_ix (fun _ _ => rfl) (sd_nm (pv 0)) (sd_nm (pv 1))))) ss_nil)
    (ss_one (ss_ret sd_int)))
theorem D__law_draws (T : Txt K mg) : FnOk P w K mg base (L2.CX P w) 1 T.a__law_draws T.d__law_draws ["_law_cell_here", "_law_sizes"] (spD K (tb T) cf__law_draws) :=
  fn_def (N := n__law_draws) (ps := ["_law_cell_here", "_law_sizes"]) (k := 0) (m := m__law_draws) T.f__law_draws sc__law_draws fun cdv A outer s H E hr => (ss_cons (ss_set (i := 2) sc__law_draws.nd rfl (.inl rfl) (sd_lst sd_anil))
    (ss_cons (ss_if (sd_cmpT od_ge (sd_nm (pv 0)) (sd_f (sd_bin od_pow (sd_f sd_int) (sd_f sd_int)))) (ss_cons (ss_set (i := 3) sc__law_draws.nd rfl (.inl rfl) (sd_bin od_sub (sd_nm (pv 0)) (sd_f (sd_bin od_pow (sd_f sd_int) (sd_f sd_int)))))
    (ss_cons (ss_for (passes_of (by rfl)) (by rfl) (si_val (sd_nv (pv 1))) (sg_name (pg_name (i := 4) sc__law_draws.nd rfl (.inl rfl)))
    (ss_cons (ss_app (i := 2) (pv 2) (sd_bin od_mod (sd_nm (pv 3)) (sd_nm (pv 4))))
    (ss_one (ss_set (i := 3) sc__law_draws.nd rfl (.inl rfl) (sd_bin od_div (sd_nm (pv 3)) (sd_nm (pv 4)))))))
    (ss_one (ss_ret (sd_nv (pv 2)))))) ss_nil)
    (ss_cons (ss_for (passes_of (by rfl)) (by rfl) (si_rng1 (sd_hcons (sd_f (sd_callB cd_len (by rfl) T.z_len (by decide +kernel) (sd_hcons (sd_nm (pv 1)) sd_hnil))) sd_hnil) (by rfl) T.z_range) (sg_name (pg_name (i := 5) sc__law_draws.nd rfl (.inl rfl)))
    (ss_cons (ss_set (i := 6) sc__law_draws.nd rfl (.inl rfl) (sd_bin od_mod (sd_f (sd_bin od_add (sd_f (sd_bin od_add (sd_f (sd_bin od_mul (sd_nm (pv 0)) (sd_f sd_int))) (sd_f (sd_bin od_mul (sd_nm (pv 5)) (sd_f sd_int))))) (sd_f sd_int))) (sd_f sd_int)))
    (ss_cons (ss_set (i := 6) sc__law_draws.nd rfl (.inl rfl) (sd_bin od_mod (sd_f (sd_bin od_add (sd_f (sd_bin od_mul (sd_nm (pv 6)) (sd_f sd_int))) (sd_nm (pv 5)))) (sd_f sd_int)))
    (ss_one (ss_app (i := 2) (pv 2) (sd_bin od_mod (sd_nm (pv 6)) (sd_f (sd_ix (fun _ _ => rfl) (sd_nm (pv 1)) (sd_nm (pv 5))))))))))
    (ss_one (ss_ret (sd_nv (pv 2)))))))
theorem D__law_labels (T : Txt K mg) : FnOk P w K mg base (L2.CX P w) 1 T.a__law_labels T.d__law_labels ["_law_keys"] (spD K (tb T) cf__law_labels) :=
  fn_def (N := n__law_labels) (ps := ["_law_keys"]) (k := 0) (m := m__law_labels) T.f__law_labels sc__law_labels fun cdv A outer s H E hr => (ss_cons (ss_set (i := 1) sc__law_labels.nd rfl (.inl rfl) (sd_lst sd_anil))
    (ss_cons (ss_set (i := 2) sc__law_labels.nd rfl (.inl rfl) (sd_lst sd_anil))
    (ss_cons (ss_for (passes_of (by rfl)) (by rfl) (si_val (sd_nv (pv 0))) (sg_name (pg_name (i := 3) sc__law_labels.nd rfl (.inl rfl)))
    (ss_cons (ss_if (sd_cmpT (od_notIn (hu65 hr)) (sd_nm (pv 3)) (sd_nm (pv 1))) (ss_one (ss_app (i := 1) (pv 1) (sd_nv (pv 3)))) ss_nil)
    (ss_one (ss_app (i := 2) (pv 2) (sd_mt (md_index (hu65 hr)) PySem.F.plainAttrs_list PySem.F.slot_list_index PySem.F.type_list_index (sd_nm (pv 1)) (sd_hcons (sd_nm (pv 3)) sd_hnil))))))
    (ss_one (ss_ret (sd_callTy cd_tuple (by rfl) T.z_tuple (by decide +kernel) (sd_hcons (sd_nm (pv 2)) sd_hnil)))))))
theorem D__law_row (T : Txt K mg) : FnOk P w K mg base (L2.CX P w) 2 T.a__law_row T.d__law_row ["_law_cell_here", "_law_n"] (spD K (tb T) cf__law_row) :=
  fn_def (N := n__law_row) (ps := ["_law_cell_here", "_law_n"]) (k := 1) (m := m__law_row) T.f__law_row sc__law_row fun cdv A outer s H E hr => (ss_cons (ss_set (i := 2) sc__law_row.nd rfl (.inr rfl) (sd_call (calV_ok (D__law_draws T) T.b__law_draws (hr.mono (by omega)) T.f__law_draws.kp takesD) (by rfl) T.g__law_draws (sd_acons (sd_nv (pv 0)) (sd_acons (sd_bin od_add (sd_f (sd_bin od_add (sd_f (sd_lst (sd_acons sd_int sd_anil))) (sd_f (sd_bin od_mul (sd_f (sd_lst (sd_acons sd_int sd_anil))) (sd_nm (pv 1)))))) (sd_f (sd_bin od_mul (sd_f (sd_lst (sd_acons sd_int sd_anil))) (sd_nm (pv 1))))) sd_anil))))
    (ss_cons (ss_set (i := 3) sc__law_row.nd rfl (.inl rfl) (sd_call (calV_ok (D__law_labels T) T.b__law_labels (hr.mono (by omega)) T.f__law_labels.kp takesD) (by rfl) T.g__law_labels (sd_acons (sd_lc (by rfl) sc__law_row.nd (blkOk_by (own := [("_law_case", 4)]) (N := n__law_row) (sc := defScope s__law_row) (by decide +kernel)) (si_rng1 (sd_hcons (sd_nm (pv 1)) sd_hnil) (by rfl) T.z_range) (fun _ _ _ _ _ => (sg_name (pg_name (i := 4) sc__law_row.nd rfl (.inl rfl)))) (fun _ _ _ _ _ => sd_tnil) (fun _ _ _ _ _ => (sd_bin od_mod (sd_f (sd_ix (fun _ _ => rfl) (sd_nm (pv 2)) (sd_f (sd_bin od_add (sd_f sd_int) (sd_nm (pv 4)))))) (sd_f (sd_bin od_add (sd_f sd_int) (sd_f (sd_ix (fun _ _ => rfl) (sd_nm (pv 2)) (sd_f sd_int))))))) (by decide)) sd_anil)))
    (ss_one (ss_ret (sd_tup (sd_acons (sd_nv (pv 3)) (sd_acons (sd_callTy cd_tuple (by rfl) T.z_tuple (by decide +kernel) (sd_hcons (sd_f (sd_lc (by rfl) sc__law_row.nd (blkOk_by (own := [("_law_case", 4)]) (N := n__law_row) (sc := defScope s__law_row) (by decide +kernel)) (si_rng1 (sd_hcons (sd_nm (pv 1)) sd_hnil) (by rfl) T.z_range) (fun _ _ _ _ _ => (sg_name (pg_name (i := 4) sc__law_row.nd rfl (.inl rfl)))) (fun _ _ _ _ _ => sd_tnil) (fun _ _ _ _ _ => (sd_bin od_add (sd_f sd_int) (sd_f (sd_ix (fun _ _ => rfl) (sd_nm (pv 2)) (sd_f (sd_bin od_add (sd_f (sd_bin od_add (sd_f sd_int) (sd_nm (pv 1)))) (sd_nm (pv 4)))))))) (by decide))) sd_hnil)) sd_anil)))))))
theorem D__law_fraction (T : Txt K mg) : FnOk P w K mg base (L2.CX P w) 1 T.a__law_fraction T.d__law_fraction ["_law_top", "_law_bottom"] (spD K (tb T) cf__law_fraction) :=
  fn_def (N := n__law_fraction) (ps := ["_law_top", "_law_bottom"]) (k := 0) (m := m__law_fraction) T.f__law_fraction sc__law_fraction fun cdv A outer s H E hr => (ss_cons (ss_set (i := 2) sc__law_fraction.nd rfl (.inl rfl) (sd_callB cd_abs (by rfl) T.z_abs (by decide +kernel) (sd_hcons (sd_nm (pv 0)) sd_hnil)))
    (ss_cons (ss_set (i := 3) sc__law_fraction.nd rfl (.inl rfl) (sd_nv (pv 1)))
    (ss_cons (ss_while fuel (passes_of (by rfl)) (sd_cmpT od_gt (sd_nm (pv 3)) (sd_f sd_int))
    (ss_cons (ss_set (i := 4) sc__law_fraction.nd rfl (.inl rfl) (sd_bin od_mod (sd_nm (pv 2)) (sd_nm (pv 3))))
    (ss_cons (ss_set (i := 2) sc__law_fraction.nd rfl (.inl rfl) (sd_nv (pv 3)))
    (ss_one (ss_set (i := 3) sc__law_fraction.nd rfl (.inl rfl) (sd_nv (pv 4)))))))
    (ss_one (ss_ret (sd_tup (sd_acons (sd_bin od_div (sd_nm (pv 0)) (sd_nm (pv 2))) (sd_acons (sd_bin od_div (sd_nm (pv 1)) (sd_nm (pv 2))) sd_anil))))))))
theorem D_is_whole (T : Txt K mg) : FnOk P w K mg base (L2.CX P w) 1 T.a_is_whole T.d_is_whole ["value"] (spD K (tb T) cf_is_whole) :=
  fn_def (N := n_is_whole) (ps := ["value"]) (k := 0) (m := m_is_whole) T.f_is_whole sc_is_whole fun cdv A outer s H E hr => (ss_one (ss_ret (sd_andV (sd_isi (sd_nm (pv 0)) (isiT (n := 1) kI_kit (belowS below0 ⟨T.kb_Observer_int, T.it_Observer⟩)) (pe_bltn (v := .ty "int") (u := .type "int") (by rfl) T.z_int (by decide +kernel) rfl) (.ty _) (by rfl) T.z_isinstance) (sd_one (sd_notV (sd_isi (sd_nm (pv 0)) (isiT (n := 1) kB_kit (belowS below0 ⟨T.kb_Observer_bool, T.it_Observer⟩)) (pe_bltn (v := .ty "bool") (u := .type "bool") (by rfl) T.z_bool (by decide +kernel) rfl) (.ty _) (by rfl) T.z_isinstance))))))
theorem D_is_valid_labels (T : Txt K mg) : FnOk P w K mg base (L2.CX P w) 2 T.a_is_valid_labels T.d_is_valid_labels ["value"] (spD K (tb T) cf_is_valid_labels) :=
  fn_def (N := n_is_valid_labels) (ps := ["value"]) (k := 1) (m := m_is_valid_labels) T.f_is_valid_labels sc_is_valid_labels fun cdv A outer s H E hr => (ss_cons (ss_if (sd_wT (sd_or (sd_not (sd_tru (sd_f (sd_isi (sd_nm (pv 0)) (isiT (n := 1) kT_kit (belowS below0 ⟨T.kb_Observer_tuple, T.it_Observer⟩)) (pe_bltn (v := .ty "tuple") (u := .type "tuple") (by rfl) T.z_tuple (by decide +kernel) rfl) (.ty _) (by rfl) T.z_isinstance)))) (sd_or1 (sd_not (sd_chainT od_le od_le (sd_f sd_int) (sd_f (sd_callB cd_len (by rfl) T.z_len (by decide +kernel) (sd_hcons (sd_nm (pv 0)) sd_hnil))) (sd_f (sd_c (d := .int 12) (pe_glob (v := .int 12) rfl T.g_CASE_LIMIT ⟨_, rfl⟩) rfl))))))) (ss_one (ss_ret sd_bl)) ss_nil)
    (ss_cons (ss_set (i := 1) sc_is_valid_labels.nd rfl (.inl rfl) sd_int)
    (ss_cons (ss_for (passes_of (by rfl)) (by rfl) (si_val (sd_nv (pv 0))) (sg_name (pg_name (i := 2) sc_is_valid_labels.nd rfl (.inl rfl)))
    (ss_cons (ss_if (sd_wT (sd_or (sd_not (sd_tru (sd_f (sd_call (calV_ok (D_is_whole T) T.b_is_whole (hr.mono (by omega)) T.f_is_whole.kp takesD) (by rfl) T.g_is_whole (sd_acons (sd_nv (pv 2)) sd_anil))))) (sd_or1 (sd_not (sd_chainT od_le od_le (sd_f sd_int) (sd_nm (pv 2)) (sd_nm (pv 1))))))) (ss_one (ss_ret sd_bl)) ss_nil)
    (ss_one (ss_set (i := 1) sc_is_valid_labels.nd rfl (.inl rfl) (sd_callB (cd_max (by rfl)) (by rfl) T.z_max (by decide +kernel) (sd_hcons (sd_nm (pv 1)) (sd_hcons (sd_f (sd_bin od_add (sd_nm (pv 2)) (sd_f sd_int))) sd_hnil)))))))
    (ss_one (ss_ret sd_bl)))))
theorem D_check_labels (T : Txt K mg) : FnOk P w K mg base (L2.CX P w) 3 T.a_check_labels T.d_check_labels ["value"] (spD K (tb T) cf_check_labels) :=
  fn_def (N := n_check_labels) (ps := ["value"]) (k := 2) (m := m_check_labels) T.f_check_labels sc_check_labels fun cdv A outer s H E hr => (ss_one (ss_if (sd_not (sd_tru (sd_f (sd_call (calV_ok (D_is_valid_labels T) T.b_is_valid_labels (hr.mono (by omega)) T.f_is_valid_labels.kp takesD) (by rfl) T.g_is_valid_labels (sd_acons (sd_nv (pv 0)) sd_anil))))) (ss_one (ss_raise (k := 1) rfl takesD (pmk_own PySem.F.excBase_ValueError T.x_InvalidLabelsError T.h_InvalidLabelsError T.k_InvalidLabelsError (raises_own T.s_InvalidLabelsError T.t_InvalidLabelsError) (by exact rfl)))) ss_nil))
theorem D_parts_of (T : Txt K mg) : FnOk P w K mg base (L2.CX P w) 4 T.a_parts_of T.d_parts_of ["labels"] (spD K (tb T) cf_parts_of) :=
  fn_def (N := n_parts_of) (ps := ["labels"]) (k := 3) (m := m_parts_of) T.f_parts_of sc_parts_of fun cdv A outer s H E hr => (ss_cons (ss_expr (sd_call (calV_ok (D_check_labels T) T.b_check_labels (hr.mono (by omega)) T.f_check_labels.kp takesD) (by rfl) T.g_check_labels (sd_acons (sd_nv (pv 0)) sd_anil)))
    (ss_cons (ss_setLc (i := 1) (by rfl) sc_parts_of.nd rfl rfl (sw_true rfl rfl rfl (by decide +kernel)) (blkOk_by (own := [("number", 4)]) (N := n_parts_of) (sc := defScope s_parts_of) (by decide +kernel)) (si_rng1 (sd_hcons (sd_f (sd_bin od_add (sd_f (sd_callB (cd_max (by rfl)) (by rfl) T.z_max (by decide +kernel) (sd_hcons (sd_nm (pv 0)) sd_hnil))) (sd_f sd_int))) sd_hnil) (by rfl) T.z_range) (fun _ _ _ _ _ => (sg_name (pg_name (i := 4) sc_parts_of.nd rfl (.inl rfl)))) (fun _ _ _ _ _ => sd_tnil) (fun _ _ _ _ _ => (sd_pub (sd_lst sd_anil))) (by decide))
    (ss_cons (ss_for (passes_of (by rfl)) (by rfl) (si_enumT (sd_acons (sd_nv (pv 0)) sd_anil) (by rfl) T.z_enumerate) (sg_tup (by rfl) (sg_cons (sg_name (pg_name (i := 2) sc_parts_of.nd rfl (.inl rfl))) (sg_cons (sg_name (pg_name (i := 3) sc_parts_of.nd rfl (.inl rfl))) sg_nil)))
    (ss_one (ss_appO (sd_f (sd_ix (fun _ _ => rfl) (sd_nm (pv 1)) (sd_nm (pv 3)))) (sd_nv (pv 2)))))
    (ss_one (ss_ret (sd_callTy cd_tuple (by rfl) T.z_tuple (by decide +kernel) (sd_hcons (sd_f (sd_lc (by rfl) sc_parts_of.nd (blkOk_by (own := [("part", 5)]) (N := n_parts_of) (sc := defScope s_parts_of) (by decide +kernel)) (si_val (sd_nv (pv 1))) (fun _ _ _ _ _ => (sg_name (pg_name (i := 5) sc_parts_of.nd rfl (.inl rfl)))) (fun _ _ _ _ _ => sd_tnil) (fun _ _ _ _ _ => (sd_callTy cd_tuple (by rfl) T.z_tuple (by decide +kernel) (sd_hcons (sd_nm (pv 5)) sd_hnil))) (by decide))) sd_hnil)))))))
theorem D_common_divisor (T : Txt K mg) : FnOk P w K mg base (L2.CX P w) 1 T.a_common_divisor T.d_common_divisor ["top", "bottom"] (spD K (tb T) cf_common_divisor) :=
  fn_def (N := n_common_divisor) (ps := ["top", "bottom"]) (k := 0) (m := m_common_divisor) T.f_common_divisor sc_common_divisor fun cdv A outer s H E hr => (ss_cons (ss_while fuel (passes_of (by rfl)) (sd_cmpT (od_ne (hu64 hr)) (sd_nm (pv 1)) (sd_f sd_int))
    (ss_one (ss_par (i := 0) (j := 1) (by rfl) sc_common_divisor.nd rfl rfl (by decide) rfl rfl (sd_acons (sd_nv (pv 1)) (sd_acons (sd_bin od_mod (sd_nm (pv 0)) (sd_nm (pv 1))) sd_anil)) (by rfl))))
    (ss_one (ss_ret (sd_nv (pv 0)))))
theorem D_is_valid_fraction (T : Txt K mg) : FnOk P w K mg base (L2.CX P w) 2 T.a_is_valid_fraction T.d_is_valid_fraction ["value"] (spD K (tb T) cf_is_valid_fraction) :=
  fn_def (N := n_is_valid_fraction) (ps := ["value"]) (k := 1) (m := m_is_valid_fraction) T.f_is_valid_fraction sc_is_valid_fraction fun cdv A outer s H E hr => (ss_cons (ss_if (sd_wT (sd_or (sd_not (sd_tru (sd_f (sd_isi (sd_nm (pv 0)) (isiT (n := 1) kT_kit (belowS below0 ⟨T.kb_Observer_tuple, T.it_Observer⟩)) (pe_bltn (v := .ty "tuple") (u := .type "tuple") (by rfl) T.z_tuple (by decide +kernel) rfl) (.ty _) (by rfl) T.z_isinstance)))) (sd_or1 (sd_cmpT (od_ne (hu64 hr)) (sd_f (sd_callB cd_len (by rfl) T.z_len (by decide +kernel) (sd_hcons (sd_nm (pv 0)) sd_hnil))) (sd_f sd_int))))) (ss_one (ss_ret sd_bl)) ss_nil)
    (ss_cons (ss_asg (sd_nv (pv 0)) (sg_tup (by rfl) (sg_cons (sg_name (pg_name (i := 1) sc_is_valid_fraction.nd rfl (.inl rfl))) (sg_cons (sg_name (pg_name (i := 2) sc_is_valid_fraction.nd rfl (.inl rfl))) sg_nil))))
    (ss_cons (ss_if (sd_wT (sd_or (sd_not (sd_tru (sd_f (sd_call (calV_ok (D_is_whole T) T.b_is_whole (hr.mono (by omega)) T.f_is_whole.kp takesD) (by rfl) T.g_is_whole (sd_acons (sd_nv (pv 1)) sd_anil))))) (sd_or1 (sd_not (sd_tru (sd_f (sd_call (calV_ok (D_is_whole T) T.b_is_whole (hr.mono (by omega)) T.f_is_whole.kp takesD) (by rfl) T.g_is_whole (sd_acons (sd_nv (pv 2)) sd_anil)))))))) (ss_one (ss_ret sd_bl)) ss_nil)
    (ss_one (ss_ret (sd_andV (sd_cmp od_ge (sd_nm (pv 2)) (sd_f sd_int)) (sd_one (sd_cmp (od_eq (hu64 hr)) (sd_f (sd_call (calV_ok (D_common_divisor T) T.b_common_divisor (hr.mono (by omega)) T.f_common_divisor.kp takesD) (by rfl) T.g_common_divisor (sd_acons (sd_nv (pv 1)) (sd_acons (sd_nv (pv 2)) sd_anil)))) (sd_f sd_int)))))))))
theorem D_is_positive_fraction (T : Txt K mg) : FnOk P w K mg base (L2.CX P w) 3 T.a_is_positive_fraction T.d_is_positive_fraction ["value"] (spD K (tb T) cf_is_positive_fraction) :=
  fn_def (N := n_is_positive_fraction) (ps := ["value"]) (k := 2) (m := m_is_positive_fraction) T.f_is_positive_fraction sc_is_positive_fraction fun cdv A outer s H E hr => (ss_one (ss_ret (sd_andV (sd_call (calV_ok (D_is_valid_fraction T) T.b_is_valid_fraction (hr.mono (by omega)) T.f_is_valid_fraction.kp takesD) (by rfl) T.g_is_valid_fraction (sd_acons (sd_nv (pv 0)) sd_anil)) (sd_one (sd_cmp od_gt (sd_f (sd_ix (fun _ _ => rfl) (sd_nm (pv 0)) (sd_f sd_int))) (sd_f sd_int))))))
theorem D_check_fractions (T : Txt K mg) : FnOk P w K mg base (L2.CX P w) 3 T.a_check_fractions T.d_check_fractions ["values"] (spD K (tb T) cf_check_fractions) :=
  fn_def (N := n_check_fractions) (ps := ["values"]) (k := 2) (m := m_check_fractions) T.f_check_fractions sc_check_fractions fun cdv A outer s H E hr => (ss_one (ss_for (passes_of (by rfl)) (by rfl) (si_val (sd_nv (pv 0))) (sg_name (pg_name (i := 1) sc_check_fractions.nd rfl (.inl rfl)))
    (ss_one (ss_if (sd_not (sd_tru (sd_f (sd_call (calV_ok (D_is_valid_fraction T) T.b_is_valid_fraction (hr.mono (by omega)) T.f_is_valid_fraction.kp takesD) (by rfl) T.g_is_valid_fraction (sd_acons (sd_nv (pv 1)) sd_anil))))) (ss_one (ss_raise (k := 0) rfl takesD (pmk_own PySem.F.excBase_ValueError T.x_InvalidFractionError T.h_InvalidFractionError T.k_InvalidFractionError (raises_own T.s_InvalidFractionError T.t_InvalidFractionError) (by exact rfl)))) ss_nil))))
theorem D_fraction (T : Txt K mg) : FnOk P w K mg base (L2.CX P w) 2 T.a_fraction T.d_fraction ["top", "bottom"] (spD K (tb T) cf_fraction) :=
  fn_def (N := n_fraction) (ps := ["top", "bottom"]) (k := 1) (m := m_fraction) T.f_fraction sc_fraction fun cdv A outer s H E hr => (ss_cons (ss_if (sd_wT (sd_or (sd_not (sd_tru (sd_f (sd_call (calV_ok (D_is_whole T) T.b_is_whole (hr.mono (by omega)) T.f_is_whole.kp takesD) (by rfl) T.g_is_whole (sd_acons (sd_nv (pv 0)) sd_anil))))) (sd_or1 (sd_not (sd_tru (sd_f (sd_call (calV_ok (D_is_whole T) T.b_is_whole (hr.mono (by omega)) T.f_is_whole.kp takesD) (by rfl) T.g_is_whole (sd_acons (sd_nv (pv 1)) sd_anil)))))))) (ss_one (ss_raise (k := 0) rfl takesD (pmk_own PySem.F.excBase_ValueError T.x_InvalidFractionError T.h_InvalidFractionError T.k_InvalidFractionError (raises_own T.s_InvalidFractionError T.t_InvalidFractionError) (by exact rfl)))) ss_nil)
    (ss_cons (ss_if (sd_cmpT (od_eq (hu64 hr)) (sd_nm (pv 1)) (sd_f sd_int)) (ss_one (ss_raise (k := 0) rfl takesD (pmk_own PySem.F.excBase_ValueError T.x_InvalidFractionError T.h_InvalidFractionError T.k_InvalidFractionError (raises_own T.s_InvalidFractionError T.t_InvalidFractionError) (by exact rfl)))) ss_nil)
    (ss_cons (ss_if (sd_cmpT od_lt (sd_nm (pv 1)) (sd_f sd_int)) (ss_one (ss_par (i := 0) (j := 1) (by rfl) sc_fraction.nd rfl rfl (by decide) rfl rfl (sd_acons (sd_un ud_neg (sd_nm (pv 0))) (sd_acons (sd_un ud_neg (sd_nm (pv 1))) sd_anil)) (by rfl))) ss_nil)
    (ss_cons (ss_set (i := 2) sc_fraction.nd rfl (.inl rfl) (sd_call (calV_ok (D_common_divisor T) T.b_common_divisor (hr.mono (by omega)) T.f_common_divisor.kp takesD) (by rfl) T.g_common_divisor (sd_acons (sd_nv (pv 0)) (sd_acons (sd_nv (pv 1)) sd_anil))))
    (ss_one (ss_ret (sd_tup (sd_acons (sd_bin od_div (sd_nm (pv 0)) (sd_nm (pv 2))) (sd_acons (sd_bin od_div (sd_nm (pv 1)) (sd_nm (pv 2))) sd_anil)))))))))
theorem D_total (T : Txt K mg) : FnR P w K mg base (L2.CX P w) 4 T.a_total (spD K (tb T) cf_total) :=
  fn_var (N := n_total) (ps := []) (k := 3) (m := m_total) T.f_total sc_total (fun kV doc pm an cdv ct us rest hl => match us, rest, hl with | [], [], _ => rfl | [], _ :: _, _ => rfl) fun cdv A outer s H E hr => (ss_cons (ss_expr (sd_call (calV_ok (D_check_fractions T) T.b_check_fractions (hr.mono (by omega)) T.f_check_fractions.kp takesD) (by rfl) T.g_check_fractions (sd_acons (sd_nv (pv 0)) sd_anil)))
    (ss_cons (ss_set (i := 1) sc_total.nd rfl (.inl rfl) (sd_tup (sd_acons sd_int (sd_acons sd_int sd_anil))))
    (ss_cons (ss_for (passes_of (by rfl)) (by rfl) (si_val (sd_nv (pv 0))) (sg_name (pg_name (i := 2) sc_total.nd rfl (.inl rfl)))
    (ss_cons (ss_set (i := 3) sc_total.nd rfl (.inl rfl) (sd_bin od_add (sd_f (sd_bin od_mul (sd_f (sd_ix (fun _ _ => rfl) (sd_nm (pv 1)) (sd_f sd_int))) (sd_f (sd_ix (fun _ _ => rfl) (sd_nm (pv 2)) (sd_f sd_int))))) (sd_f (sd_bin od_mul (sd_f (sd_ix (fun _ _ => rfl) (sd_nm (pv 2)) (sd_f sd_int))) (sd_f (sd_ix (fun _ _ => rfl) (sd_nm (pv 1)) (sd_f sd_int)))))))
    (ss_one (ss_set (i := 1) sc_total.nd rfl (.inl rfl) (sd_call (calV_ok (D_fraction T) T.b_fraction (hr.mono (by omega)) T.f_fraction.kp takesD) (by rfl) T.g_fraction (sd_acons (sd_nv (pv 3)) (sd_acons (sd_bin od_mul (sd_f (sd_ix (fun _ _ => rfl) (sd_nm (pv 1)) (sd_f sd_int))) (sd_f (sd_ix (fun _ _ => rfl) (sd_nm (pv 2)) (sd_f sd_int)))) sd_anil)))))))
    (ss_one (ss_ret (sd_nv (pv 1)))))))
theorem D_total_at (T : Txt K mg) : FnOk P w K mg base (L2.CX P w) 5 T.a_total_at T.d_total_at ["values", "places"] (spD K (tb T) cf_total_at) :=
  fn_def (N := n_total_at) (ps := ["values", "places"]) (k := 4) (m := m_total_at) T.f_total_at sc_total_at fun cdv A outer s H E hr => (ss_cons (ss_setLc (i := 2) (by rfl) sc_total_at.nd rfl rfl (sw_true rfl rfl rfl (by decide +kernel)) (blkOk_by (own := [("place", 3)]) (N := n_total_at) (sc := defScope s_total_at) (by decide +kernel)) (si_val (sd_nv (pv 1))) (fun _ _ _ _ _ => (sg_name (pg_name (i := 3) sc_total_at.nd rfl (.inl rfl)))) (fun _ _ _ _ _ => sd_tnil) (fun _ _ _ _ _ => (sd_ix (fun _ _ => rfl) (sd_nm (pv 0)) (sd_nm (pv 3)))) (by decide))
    (ss_one (ss_ret (sd_callS1 (calV_fn (D_total T) (hr.mono (by omega)) T.f_total.kp takesD) (by rfl) T.g_total (sd_nm (pv 2))))))
theorem D_are_odds (T : Txt K mg) : FnOk P w K mg base (L2.CX P w) 6 T.a_are_odds T.d_are_odds ["value", "labels", "parts"] (spD K (tb T) cf_are_odds) :=
  fn_def (N := n_are_odds) (ps := ["value", "labels", "parts"]) (k := 5) (m := m_are_odds) T.f_are_odds sc_are_odds fun cdv A outer s H E hr => (ss_cons (ss_if (sd_wT (sd_or (sd_not (sd_tru (sd_f (sd_isi (sd_nm (pv 0)) (isiT (n := 1) kT_kit (belowS below0 ⟨T.kb_Observer_tuple, T.it_Observer⟩)) (pe_bltn (v := .ty "tuple") (u := .type "tuple") (by rfl) T.z_tuple (by decide +kernel) rfl) (.ty _) (by rfl) T.z_isinstance)))) (sd_or1 (sd_cmpT (od_ne (hu64 hr)) (sd_f (sd_callB cd_len (by rfl) T.z_len (by decide +kernel) (sd_hcons (sd_nm (pv 0)) sd_hnil))) (sd_f (sd_callB cd_len (by rfl) T.z_len (by decide +kernel) (sd_hcons (sd_nm (pv 1)) sd_hnil))))))) (ss_one (ss_ret sd_bl)) ss_nil)
    (ss_cons (ss_if (sd_not (sd_tru (sd_f (sd_callB (cd_all (by rfl)) (by rfl) T.z_all (by decide +kernel) (sd_hcons (sd_f (sd_lc (by rfl) sc_are_odds.nd (blkOk_by (own := [("entry", 4)]) (N := n_are_odds) (sc := defScope s_are_odds) (by decide +kernel)) (si_val (sd_nv (pv 0))) (fun _ _ _ _ _ => (sg_name (pg_name (i := 4) sc_are_odds.nd rfl (.inl rfl)))) (fun _ _ _ _ _ => sd_tnil) (fun _ _ _ _ _ => (sd_call (calV_ok (D_is_positive_fraction T) T.b_is_positive_fraction (hr.mono (by omega)) T.f_is_positive_fraction.kp takesB) (by rfl) T.g_is_positive_fraction (sd_acons (sd_nv (pv 4)) sd_anil))) (by decide))) sd_hnil))))) (ss_one (ss_ret sd_bl)) ss_nil)
    (ss_one (ss_ret (sd_callB (cd_all (by rfl)) (by rfl) T.z_all (by decide +kernel) (sd_hcons (sd_f (sd_lc (by rfl) sc_are_odds.nd (blkOk_by (own := [("part", 3)]) (N := n_are_odds) (sc := defScope s_are_odds) (by decide +kernel)) (si_val (sd_nv (pv 2))) (fun _ _ _ _ _ => (sg_name (pg_name (i := 3) sc_are_odds.nd rfl (.inl rfl)))) (fun _ _ _ _ _ => sd_tnil) (fun _ _ _ _ _ => (sd_cmp (od_eq (hu64 hr)) (sd_f (sd_call (calV_ok (D_total_at T) T.b_total_at (hr.mono (by omega)) T.f_total_at.kp takesB) (by rfl) T.g_total_at (sd_acons (sd_nv (pv 0)) (sd_acons (sd_nv (pv 3)) sd_anil)))) (sd_f (sd_tup (sd_acons sd_int (sd_acons sd_int sd_anil)))))) (by decide))) sd_hnil))))))
theorem D_Observer_odds_set (T : Txt K mg) : FnOk P w K mg base (L2.CX P w) 7 T.a_Observer_odds_set T.d_Observer_odds_set ["self", "value"] (spD K (tb T) cf_Observer_odds_set) :=
  fn_def (N := n_Observer_odds_set) (ps := ["self", "value"]) (k := 6) (m := m_Observer_odds_set) T.f_Observer_odds_set sc_Observer_odds_set fun cdv A outer s H E hr => (ss_cons (ss_if (sd_not (sd_tru (sd_f (sd_call (calV_ok (D_are_odds T) T.b_are_odds (hr.mono (by omega)) T.f_are_odds.kp takesD) (by rfl) T.g_are_odds (sd_acons (sd_nv (pv 1)) (sd_acons (sd_att (sd_nm (pv 0)) (AttL.ok (.cons (att_fld T.cls_Observer T.na_Observer_labels) AttL.nil))) (sd_acons (sd_att (sd_nm (pv 0)) (AttL.ok (.cons (att_fld T.cls_Observer T.na_Observer_parts) AttL.nil))) sd_anil))))))) (ss_one (ss_raise (k := 3) rfl takesD (pmk_own PySem.F.excBase_ValueError T.x_InvalidOddsError T.h_InvalidOddsError T.k_InvalidOddsError (raises_own T.s_InvalidOddsError T.t_InvalidOddsError) (by exact rfl)))) ss_nil)
    (ss_one (ss_setAtt (sd_nv (pv 1)) (sd_nm (pv 0)) takesD (AtSL.ok (.cons (atS_fld T.cls_Observer T.na_Observer_held_odds) AtSL.nil)))))
theorem D_Observer_init (T : Txt K mg) : FnOk P w K mg base (L2.CX P w) 10 T.a_Observer_init T.d_Observer_init ["self", "labels", "odds"] (spD K (tb T) cf_Observer_init) :=
  fn_def (N := n_Observer_init) (ps := ["self", "labels", "odds"]) (k := 9) (m := m_Observer_init) T.f_Observer_init sc_Observer_init fun cdv A outer s H E hr => (ss_cons (ss_setAtt (sd_call (calV_ok (D_parts_of T) T.b_parts_of (hr.mono (by omega)) T.f_parts_of.kp takesD) (by rfl) T.g_parts_of (sd_acons (sd_nv (pv 1)) sd_anil)) (sd_nm (pv 0)) takesD (AtSL.ok (.cons (atS_fld T.cls_Observer T.na_Observer_parts) AtSL.nil)))
    (ss_cons (ss_setAtt (sd_nv (pv 1)) (sd_nm (pv 0)) takesD (AtSL.ok (.cons (atS_fld T.cls_Observer T.na_Observer_labels) AtSL.nil)))
    (ss_one (ss_setAtt (sd_nv (pv 2)) (sd_nm (pv 0)) takesD (AtSL.ok (.cons (atS_prop T.cls_Observer T.ps_Observer_odds.1 T.ps_Observer_odds.2.1 T.ps_Observer_odds.2.2 (fn_raw0 (D_Observer_odds_set T) T.b_Observer_odds_set) (hr.mono (by omega))) AtSL.nil))))))
theorem D__law_odds (T : Txt K mg) : FnOk P w K mg base (L2.CX P w) 2 T.a__law_odds T.d__law_odds ["_law_labels_here", "_law_weights"] (spD K (tb T) cf__law_odds) :=
  fn_def (N := n__law_odds) (ps := ["_law_labels_here", "_law_weights"]) (k := 1) (m := m__law_odds) T.f__law_odds sc__law_odds fun cdv A outer s H E hr => (ss_cons (ss_set (i := 2) sc__law_odds.nd rfl (.inl rfl) (sd_lst sd_anil))
    (ss_cons (ss_for (passes_of (by rfl)) (by rfl) (si_rng1 (sd_hcons (sd_f (sd_callB cd_len (by rfl) T.z_len (by decide +kernel) (sd_hcons (sd_nm (pv 0)) sd_hnil))) sd_hnil) (by rfl) T.z_range) (sg_name (pg_name (i := 3) sc__law_odds.nd rfl (.inr rfl)))
    (ss_cons (ss_set (i := 4) sc__law_odds.nd rfl (.inl rfl) (sd_callB (cd_sum (by rfl)) (by rfl) T.z_sum (by decide +kernel) (sd_hcons (sd_f (sd_lc (by rfl) sc__law_odds.nd (blkOk_by (own := [("_law_at", 5)]) (N := n__law_odds) (sc := defScope s__law_odds) (by decide +kernel)) (si_rng1 (sd_hcons (sd_f (sd_callB cd_len (by rfl) T.z_len (by decide +kernel) (sd_hcons (sd_nm (pv 0)) sd_hnil))) sd_hnil) (by rfl) T.z_range) (fun _ _ _ _ _ => (sg_name (pg_name (i := 5) sc__law_odds.nd rfl (.inl rfl)))) (fun _ _ _ _ _ => sd_tone (sd_cmpT (od_eq (hu64 hr)) (sd_f (sd_ix (fun _ _ => rfl) (sd_nm (pv 0)) (sd_nm (pv 5)))) (sd_f (sd_ix (fun _ _ => rfl) (sd_nm (pv 0)) (sd_nm (pv 3)))))) (fun _ _ _ _ _ => (sd_ix (fun _ _ => rfl) (sd_nm (pv 1)) (sd_nm (pv 5)))) (by decide))) sd_hnil)))
    (ss_one (ss_app (i := 2) (pv 2) (sd_call (calV_ok (D__law_fraction T) T.b__law_fraction (hr.mono (by omega)) T.f__law_fraction.kp takesD) (by rfl) T.g__law_fraction (sd_acons (sd_ix (fun _ _ => rfl) (sd_nm (pv 1)) (sd_nm (pv 3))) (sd_acons (sd_nv (pv 4)) sd_anil)))))))
    (ss_one (ss_ret (sd_callTy cd_tuple (by rfl) T.z_tuple (by decide +kernel) (sd_hcons (sd_nm (pv 2)) sd_hnil))))))
theorem D__law_is_same (T : Txt K mg) : ∀ n : Nat, FnOk P w K mg base (L2.CX P w) (1 + n) T.a__law_is_same T.d__law_is_same ["_law_actual", "_law_wanted"] (spD K (tb T) (cf__law_is_same n))
  | 0 => fn_no
  | n + 1 => fn_def (N := n__law_is_same) (ps := ["_law_actual", "_law_wanted"]) (k := 1 + n) T.f__law_is_same sc__law_is_same fun cdv A outer s H E hr => (ss_cons (ss_if (sd_tru (sd_f (sd_isi (sd_nm (pv 1)) (isiT (n := 1) kT_kit (belowS below0 ⟨T.kb_Observer_tuple, T.it_Observer⟩)) (pe_bltn (v := .ty "tuple") (u := .type "tuple") (by rfl) T.z_tuple (by decide +kernel) rfl) (.ty _) (by rfl) T.z_isinstance))) (ss_cons (ss_if (sd_wT (sd_or (sd_not (sd_tru (sd_f (sd_isi (sd_nm (pv 0)) (isiT (n := 1) kT_kit (belowS below0 ⟨T.kb_Observer_tuple, T.it_Observer⟩)) (pe_bltn (v := .ty "tuple") (u := .type "tuple") (by rfl) T.z_tuple (by decide +kernel) rfl) (.ty _) (by rfl) T.z_isinstance)))) (sd_or1 (sd_cmpT (od_ne (hu64 hr)) (sd_f (sd_callB cd_len (by rfl) T.z_len (by decide +kernel) (sd_hcons (sd_nm (pv 0)) sd_hnil))) (sd_f (sd_callB cd_len (by rfl) T.z_len (by decide +kernel) (sd_hcons (sd_nm (pv 1)) sd_hnil))))))) (ss_one (ss_ret sd_bl)) ss_nil)
    (ss_one (ss_ret (sd_callB (cd_all (by rfl)) (by rfl) T.z_all (by decide +kernel) (sd_hcons (sd_f (sd_lc (by rfl) sc__law_is_same.nd (blkOk_by (own := [("_law_k", 2)]) (N := n__law_is_same) (sc := defScope s__law_is_same) (by decide +kernel)) (si_rng1 (sd_hcons (sd_f (sd_callB cd_len (by rfl) T.z_len (by decide +kernel) (sd_hcons (sd_nm (pv 1)) sd_hnil))) sd_hnil) (by rfl) T.z_range) (fun _ _ _ _ _ => (sg_name (pg_name (i := 2) sc__law_is_same.nd rfl (.inl rfl)))) (fun _ _ _ _ _ => sd_tnil) (fun _ _ _ _ _ => (sd_call (calV_ok (D__law_is_same T n) T.b__law_is_same (hr.mono (by omega)) T.f__law_is_same.kp takesB) (by rfl) T.g__law_is_same (sd_acons (sd_ix (fun _ _ => rfl) (sd_nm (pv 0)) (sd_nm (pv 2))) (sd_acons (sd_ix (fun _ _ => rfl) (sd_nm (pv 1)) (sd_nm (pv 2))) sd_anil)))) (by decide))) sd_hnil))))) ss_nil)
    (ss_cons (ss_if (sd_isNT (sd_nm (pv 1))) (ss_one (ss_ret (sd_isN (sd_nm (pv 0))))) ss_nil)
    (ss_cons (ss_if (sd_tru (sd_f (sd_isi (sd_nm (pv 1)) (isiT (n := 1) kS_kit (belowS below0 ⟨T.kb_Observer_str, T.it_Observer⟩)) (pe_bltn (v := .ty "str") (u := .type "str") (by rfl) T.z_str (by decide +kernel) rfl) (.ty _) (by rfl) T.z_isinstance))) (ss_one (ss_ret (sd_andV (sd_isi (sd_nm (pv 0)) (isiT (n := 1) kS_kit (belowS below0 ⟨T.kb_Observer_str, T.it_Observer⟩)) (pe_bltn (v := .ty "str") (u := .type "str") (by rfl) T.z_str (by decide +kernel) rfl) (.ty _) (by rfl) T.z_isinstance) (sd_one (sd_cmp (od_eq (hu64 hr)) (sd_nm (pv 0)) (sd_nm (pv 1))))))) ss_nil)
    (ss_cons (ss_if (sd_wT (sd_or (sd_not (sd_tru (sd_f (sd_isi (sd_nm (pv 0)) (isiT (n := 1) kI_kit (belowS below0 ⟨T.kb_Observer_int, T.it_Observer⟩)) (pe_bltn (v := .ty "int") (u := .type "int") (by rfl) T.z_int (by decide +kernel) rfl) (.ty _) (by rfl) T.z_isinstance)))) (sd_or1 (sd_cmpT (od_ne (hu64 hr)) (sd_f (sd_isi (sd_nm (pv 0)) (isiT (n := 1) kB_kit (belowS below0 ⟨T.kb_Observer_bool, T.it_Observer⟩)) (pe_bltn (v := .ty "bool") (u := .type "bool") (by rfl) T.z_bool (by decide +kernel) rfl) (.ty _) (by rfl) T.z_isinstance)) (sd_f (sd_isi (sd_nm (pv 1)) (isiT (n := 1) kB_kit (belowS below0 ⟨T.kb_Observer_bool, T.it_Observer⟩)) (pe_bltn (v := .ty "bool") (u := .type "bool") (by rfl) T.z_bool (by decide +kernel) rfl) (.ty _) (by rfl) T.z_isinstance)))))) (ss_one (ss_ret sd_bl)) ss_nil)
    (ss_one (ss_ret (sd_cmp (od_eq (hu64 hr)) (sd_nm (pv 0)) (sd_nm (pv 1)))))))))
theorem D_is_row (T : Txt K mg) : FnOk P w K mg base (L2.CX P w) 3 T.a_is_row T.d_is_row ["value", "many"] (spD K (tb T) cf_is_row) :=
  fn_def (N := n_is_row) (ps := ["value", "many"]) (k := 2) (m := m_is_row) T.f_is_row sc_is_row fun cdv A outer s H E hr => (ss_cons (ss_if (sd_wT (sd_or (sd_not (sd_tru (sd_f (sd_isi (sd_nm (pv 0)) (isiT (n := 1) kT_kit (belowS below0 ⟨T.kb_Observer_tuple, T.it_Observer⟩)) (pe_bltn (v := .ty "tuple") (u := .type "tuple") (by rfl) T.z_tuple (by decide +kernel) rfl) (.ty _) (by rfl) T.z_isinstance)))) (sd_or1 (sd_cmpT (od_ne (hu64 hr)) (sd_f (sd_callB cd_len (by rfl) T.z_len (by decide +kernel) (sd_hcons (sd_nm (pv 0)) sd_hnil))) (sd_nm (pv 1)))))) (ss_one (ss_ret sd_bl)) ss_nil)
    (ss_one (ss_ret (sd_callB (cd_all (by rfl)) (by rfl) T.z_all (by decide +kernel) (sd_hcons (sd_f (sd_lc (by rfl) sc_is_row.nd (blkOk_by (own := [("entry", 2)]) (N := n_is_row) (sc := defScope s_is_row) (by decide +kernel)) (si_val (sd_nv (pv 0))) (fun _ _ _ _ _ => (sg_name (pg_name (i := 2) sc_is_row.nd rfl (.inl rfl)))) (fun _ _ _ _ _ => sd_tnil) (fun _ _ _ _ _ => (sd_call (calV_ok (D_is_valid_fraction T) T.b_is_valid_fraction (hr.mono (by omega)) T.f_is_valid_fraction.kp takesB) (by rfl) T.g_is_valid_fraction (sd_acons (sd_nv (pv 2)) sd_anil))) (by decide))) sd_hnil)))))
theorem D_product (T : Txt K mg) : FnR P w K mg base (L2.CX P w) 4 T.a_product (spD K (tb T) cf_product) :=
  fn_var (N := n_product) (ps := []) (k := 3) (m := m_product) T.f_product sc_product (fun kV doc pm an cdv ct us rest hl => match us, rest, hl with | [], [], _ => rfl | [], _ :: _, _ => rfl) fun cdv A outer s H E hr => (ss_cons (ss_expr (sd_call (calV_ok (D_check_fractions T) T.b_check_fractions (hr.mono (by omega)) T.f_check_fractions.kp takesD) (by rfl) T.g_check_fractions (sd_acons (sd_nv (pv 0)) sd_anil)))
    (ss_cons (ss_set (i := 1) sc_product.nd rfl (.inl rfl) (sd_tup (sd_acons sd_int (sd_acons sd_int sd_anil))))
    (ss_cons (ss_for (passes_of (by rfl)) (by rfl) (si_val (sd_nv (pv 0))) (sg_name (pg_name (i := 2) sc_product.nd rfl (.inl rfl)))
    (ss_one (ss_set (i := 1) sc_product.nd rfl (.inl rfl) (sd_call (calV_ok (D_fraction T) T.b_fraction (hr.mono (by omega)) T.f_fraction.kp takesD) (by rfl) T.g_fraction (sd_acons (sd_bin od_mul (sd_f (sd_ix (fun _ _ => rfl) (sd_nm (pv 1)) (sd_f sd_int))) (sd_f (sd_ix (fun _ _ => rfl) (sd_nm (pv 2)) (sd_f sd_int)))) (sd_acons (sd_bin od_mul (sd_f (sd_ix (fun _ _ => rfl) (sd_nm (pv 1)) (sd_f sd_int))) (sd_f (sd_ix (fun _ _ => rfl) (sd_nm (pv 2)) (sd_f sd_int)))) sd_anil))))))
    (ss_one (ss_ret (sd_nv (pv 1)))))))
theorem D_total_of_products (T : Txt K mg) : FnOk P w K mg base (L2.CX P w) 5 T.a_total_of_products T.d_total_of_products ["values", "factors", "places"] (spD K (tb T) cf_total_of_products) :=
  fn_def (N := n_total_of_products) (ps := ["values", "factors", "places"]) (k := 4) (m := m_total_of_products) T.f_total_of_products sc_total_of_products fun cdv A outer s H E hr => (ss_cons (ss_setLc (i := 3) (by rfl) sc_total_of_products.nd rfl rfl (sw_true rfl rfl rfl (by decide +kernel)) (blkOk_by (own := [("place", 4)]) (N := n_total_of_products) (sc := defScope s_total_of_products) (by decide +kernel)) (si_val (sd_nv (pv 2))) (fun _ _ _ _ _ => (sg_name (pg_name (i := 4) sc_total_of_products.nd rfl (.inl rfl)))) (fun _ _ _ _ _ => sd_tnil) (fun _ _ _ _ _ => (sd_call (calV_fn (D_product T) (hr.mono (by omega)) T.f_product.kp takesB) (by rfl) T.g_product (sd_acons (sd_ix (fun _ _ => rfl) (sd_nm (pv 0)) (sd_nm (pv 4))) (sd_acons (sd_ix (fun _ _ => rfl) (sd_nm (pv 1)) (sd_nm (pv 4))) sd_anil)))) (by decide))
    (ss_one (ss_ret (sd_callS1 (calV_fn (D_total T) (hr.mono (by omega)) T.f_total.kp takesD) (by rfl) T.g_total (sd_nm (pv 3))))))
theorem D_Observer_odds_get (T : Txt K mg) : FnOk P w K mg base (L2.CX P w) 1 T.a_Observer_odds_get T.d_Observer_odds_get ["self"] (spD K (tb T) cf_Observer_odds_get) :=
  fn_def (N := n_Observer_odds_get) (ps := ["self"]) (k := 0) (m := m_Observer_odds_get) T.f_Observer_odds_get sc_Observer_odds_get fun cdv A outer s H E hr => (ss_one (ss_ret (sd_att (sd_nm (pv 0)) (AttL.ok (.cons (att_fld T.cls_Observer T.na_Observer_held_odds) AttL.nil)))))
theorem D_Observer_expects (T : Txt K mg) : FnOk P w K mg base (L2.CX P w) 6 T.a_Observer_expects T.d_Observer_expects ["self", "amounts"] (spD K (tb T) cf_Observer_expects) :=
  fn_def (N := n_Observer_expects) (ps := ["self", "amounts"]) (k := 5) (m := m_Observer_expects) T.f_Observer_expects sc_Observer_expects fun cdv A outer s H E hr => (ss_cons (ss_if (sd_not (sd_tru (sd_f (sd_call (calV_ok (D_is_row T) T.b_is_row (hr.mono (by omega)) T.f_is_row.kp takesD) (by rfl) T.g_is_row (sd_acons (sd_nv (pv 1)) (sd_acons (sd_callB cd_len (by rfl) T.z_len (by decide +kernel) (sd_hcons (sd_f (sd_att (sd_nm (pv 0)) (AttL.ok (.cons (att_fld T.cls_Observer T.na_Observer_labels) AttL.nil)))) sd_hnil)) sd_anil)))))) (ss_one (ss_raise (k := 6) rfl takesD (pmk_own PySem.F.excBase_ValueError T.x_InvalidAmountsError T.h_InvalidAmountsError T.k_InvalidAmountsError (raises_own T.s_InvalidAmountsError T.t_InvalidAmountsError) (by exact rfl)))) ss_nil)
    (ss_one (ss_ret (sd_callTy cd_tuple (by rfl) T.z_tuple (by decide +kernel) (sd_hcons (sd_f (sd_lc (by rfl) sc_Observer_expects.nd (blkOk_by (own := [("part", 2)]) (N := n_Observer_expects) (sc := defScope s_Observer_expects) (by decide +kernel)) (si_val (sd_att (sd_nm (pv 0)) (AttL.ok (.cons (att_fld T.cls_Observer T.na_Observer_parts) AttL.nil)))) (fun _ _ _ _ _ => (sg_name (pg_name (i := 2) sc_Observer_expects.nd rfl (.inl rfl)))) (fun _ _ _ _ _ => sd_tnil) (fun _ _ _ _ _ => (sd_call (calV_ok (D_total_of_products T) T.b_total_of_products (hr.mono (by omega)) T.f_total_of_products.kp takesB) (by rfl) T.g_total_of_products (sd_acons (sd_att (sd_nm (pv 0)) (AttL.ok (.cons (att_prop T.cls_Observer T.pr_Observer_odds (D_Observer_odds_get T) T.b_Observer_odds_get (hr.mono (by omega))) AttL.nil))) (sd_acons (sd_nv (pv 1)) (sd_acons (sd_nv (pv 2)) sd_anil))))) (by decide))) sd_hnil)))))
theorem D__law_parts (T : Txt K mg) : FnOk P w K mg base (L2.CX P w) 1 T.a__law_parts T.d__law_parts ["_law_labels_here"] (spD K (tb T) cf__law_parts) :=
  fn_def (N := n__law_parts) (ps := ["_law_labels_here"]) (k := 0) (m := m__law_parts) T.f__law_parts sc__law_parts fun cdv A outer s H E hr => (ss_cons (ss_set (i := 1) sc__law_parts.nd rfl (.inl rfl) (sd_lst sd_anil))
    (ss_cons (ss_for (passes_of (by rfl)) (by rfl) (si_rng1 (sd_hcons (sd_f (sd_bin od_add (sd_f (sd_callB (cd_max (by rfl)) (by rfl) T.z_max (by decide +kernel) (sd_hcons (sd_nm (pv 0)) sd_hnil))) (sd_f sd_int))) sd_hnil) (by rfl) T.z_range) (sg_name (pg_name (i := 2) sc__law_parts.nd rfl (.inr rfl)))
    (ss_one (ss_app (i := 1) (pv 1) (sd_callTy cd_tuple (by rfl) T.z_tuple (by decide +kernel) (sd_hcons (sd_f (sd_lc (by rfl) sc__law_parts.nd (blkOk_by (own := [("_law_case", 3)]) (N := n__law_parts) (sc := defScope s__law_parts) (by decide +kernel)) (si_rng1 (sd_hcons (sd_f (sd_callB cd_len (by rfl) T.z_len (by decide +kernel) (sd_hcons (sd_nm (pv 0)) sd_hnil))) sd_hnil) (by rfl) T.z_range) (fun _ _ _ _ _ => (sg_name (pg_name (i := 3) sc__law_parts.nd rfl (.inl rfl)))) (fun _ _ _ _ _ => sd_tone (sd_cmpT (od_eq (hu64 hr)) (sd_f (sd_ix (fun _ _ => rfl) (sd_nm (pv 0)) (sd_nm (pv 3)))) (sd_nm (pv 2)))) (fun _ _ _ _ _ => (sd_nv (pv 3))) (by decide))) sd_hnil)))))
    (ss_one (ss_ret (sd_callTy cd_tuple (by rfl) T.z_tuple (by decide +kernel) (sd_hcons (sd_nm (pv 1)) sd_hnil))))))
theorem D__law_due (T : Txt K mg) : FnOk P w K mg base (L2.CX P w) 2 T.a__law_due T.d__law_due ["_law_row_here", "_law_amounts"] (spD K (tb T) cf__law_due) :=
  fn_def (N := n__law_due) (ps := ["_law_row_here", "_law_amounts"]) (k := 1) (m := m__law_due) T.f__law_due sc__law_due fun cdv A outer s H E hr => (ss_cons (ss_set (i := 2) sc__law_due.nd rfl (.inl rfl) (sd_lst sd_anil))
    (ss_cons (ss_for (passes_of (by rfl)) (by rfl) (si_val (sd_call (calV_ok (D__law_parts T) T.b__law_parts (hr.mono (by omega)) T.f__law_parts.kp takesD) (by rfl) T.g__law_parts (sd_acons (sd_ix (fun _ _ => rfl) (sd_nm (pv 0)) (sd_f sd_int)) sd_anil))) (sg_name (pg_name (i := 3) sc__law_due.nd rfl (.inl rfl)))
    (ss_cons (ss_set (i := 4) sc__law_due.nd rfl (.inl rfl) (sd_callB (cd_sum (by rfl)) (by rfl) T.z_sum (by decide +kernel) (sd_hcons (sd_f (sd_lc (by rfl) sc__law_due.nd (blkOk_by (own := [("_law_case", 5)]) (N := n__law_due) (sc := defScope s__law_due) (by decide +kernel)) (si_val (sd_nv (pv 3))) (fun _ _ _ _ _ => (sg_name (pg_name (i := 5) sc__law_due.nd rfl (.inl rfl)))) (fun _ _ _ _ _ => sd_tnil) (fun _ _ _ _ _ => (sd_bin od_mul (sd_f (sd_bin od_mul (sd_f (sd_ix (fun _ _ => rfl) (sd_f (sd_ix (fun _ _ => rfl) (sd_nm (pv 0)) (sd_f sd_int))) (sd_nm (pv 5)))) (sd_f (sd_ix (fun _ _ => rfl) (sd_f (sd_ix (fun _ _ => rfl) (sd_nm (pv 1)) (sd_nm (pv 5)))) (sd_f sd_int))))) (sd_f (sd_bin od_div (sd_f sd_int) (sd_f (sd_ix (fun _ _ => rfl) (sd_f (sd_ix (fun _ _ => rfl) (sd_nm (pv 1)) (sd_nm (pv 5)))) (sd_f sd_int))))))) (by decide))) sd_hnil)))
    (ss_one (ss_app (i := 2) (pv 2) (sd_call (calV_ok (D__law_fraction T) T.b__law_fraction (hr.mono (by omega)) T.f__law_fraction.kp takesD) (by rfl) T.g__law_fraction (sd_acons (sd_nv (pv 4)) (sd_acons (sd_bin od_mul (sd_f sd_int) (sd_f (sd_callB (cd_sum (by rfl)) (by rfl) T.z_sum (by decide +kernel) (sd_hcons (sd_f (sd_lc (by rfl) sc__law_due.nd (blkOk_by (own := [("_law_case", 5)]) (N := n__law_due) (sc := defScope s__law_due) (by decide +kernel)) (si_val (sd_nv (pv 3))) (fun _ _ _ _ _ => (sg_name (pg_name (i := 5) sc__law_due.nd rfl (.inl rfl)))) (fun _ _ _ _ _ => sd_tnil) (fun _ _ _ _ _ => (sd_ix (fun _ _ => rfl) (sd_f (sd_ix (fun _ _ => rfl) (sd_nm (pv 0)) (sd_f sd_int))) (sd_nm (pv 5)))) (by decide))) sd_hnil)))) sd_anil)))))))
    (ss_one (ss_ret (sd_callTy cd_tuple (by rfl) T.z_tuple (by decide +kernel) (sd_hcons (sd_nm (pv 2)) sd_hnil))))))
theorem D__law_is_refused (T : Txt K mg) : FnOk P w K mg base (L2.CX P w) 7 T.a__law_is_refused T.d__law_is_refused ["_law_made", "_law_amounts"] (spD K (tb T) cf__law_is_refused) :=
  fn_def (N := n__law_is_refused) (ps := ["_law_made", "_law_amounts"]) (k := 6) (m := m__law_is_refused) T.f__law_is_refused sc__law_is_refused fun cdv A outer s H E hr => (ss_cons (ss_try rfl rfl takesD (fun E' pn xe tk po => (ss_one (ss_expr (sd_meth (pl := _) (sd_nm (pv 0)) (sd_acons (sd_nv (pv 1)) sd_anil) (MetL.ok (.cons (met_ok T.cls_Observer T.me_Observer_expects (calV_ok (D_Observer_expects T) T.b_Observer_expects (hr.mono (by omega)) T.f_Observer_expects.kp tk)) MetL.nil))))))
    (.cons ⟨_, _, _, _, _, _, rfl, ⟨rfl, by decide, .inl T.h_InvalidAmountsError⟩, hx_InvalidAmountsError T, fun a oe cls d pn hz hf => (ss_one (ss_ret sd_bl))⟩ SdHds.nil))
    (ss_one (ss_ret sd_bl)))
theorem D_law (T : Txt K mg) : FnOk P w K mg base (L2.CX P w) 12 T.a_law T.d_law ["_law_script"] (spD K (tb T) cf_law) :=
  fn_def (N := n_law) (ps := ["_law_script"]) (k := 11) (m := m_law) T.f_law sc_law fun cdv A outer s H E hr => (ss_cons (ss_set (i := 1) sc_law.nd rfl (.inr rfl) (sd_bin od_add (sd_f sd_int) (sd_f (sd_bin od_mod (sd_f (sd_call (calV_ok (D__law_cell T) T.b__law_cell (hr.mono (by omega)) T.f__law_cell.kp takesD) (by rfl) T.g__law_cell (sd_acons (sd_nv (pv 0)) (sd_acons sd_int sd_anil)))) (sd_f sd_int)))))
    (ss_cons (ss_set (i := 2) sc_law.nd rfl (.inl rfl) (sd_call (calV_ok (D__law_row T) T.b__law_row (hr.mono (by omega)) T.f__law_row.kp takesD) (by rfl) T.g__law_row (sd_acons (sd_call (calV_ok (D__law_cell T) T.b__law_cell (hr.mono (by omega)) T.f__law_cell.kp takesD) (by rfl) T.g__law_cell (sd_acons (sd_nv (pv 0)) (sd_acons sd_int sd_anil))) (sd_acons (sd_nv (pv 1)) sd_anil))))
    (ss_cons (ss_set (i := 3) sc_law.nd rfl (.inr rfl) (sd_call (calV_ok (D__law_draws T) T.b__law_draws (hr.mono (by omega)) T.f__law_draws.kp takesD) (by rfl) T.g__law_draws (sd_acons (sd_call (calV_ok (D__law_cell T) T.b__law_cell (hr.mono (by omega)) T.f__law_cell.kp takesD) (by rfl) T.g__law_cell (sd_acons (sd_nv (pv 0)) (sd_acons sd_int sd_anil))) (sd_acons (sd_bin od_add (sd_f (sd_bin od_mul (sd_f (sd_lst (sd_acons sd_int sd_anil))) (sd_nm (pv 1)))) (sd_f (sd_bin od_mul (sd_f (sd_lst (sd_acons sd_int sd_anil))) (sd_nm (pv 1))))) sd_anil))))
    (ss_cons (ss_set (i := 4) sc_law.nd rfl (.inl rfl) (sd_callTy cd_tuple (by rfl) T.z_tuple (by decide +kernel) (sd_hcons (sd_f (sd_lc (by rfl) sc_law.nd (blkOk_by (own := [("_law_case", 11)]) (N := n_law) (sc := defScope s_law) (by decide +kernel)) (si_rng1 (sd_hcons (sd_nm (pv 1)) sd_hnil) (by rfl) T.z_range) (fun _ _ _ _ _ => (sg_name (pg_name (i := 11) sc_law.nd rfl (.inl rfl)))) (fun _ _ _ _ _ => sd_tnil) (fun _ _ _ _ _ => (sd_call (calV_ok (D__law_fraction T) T.b__law_fraction (hr.mono (by omega)) T.f__law_fraction.kp takesB) (by rfl) T.g__law_fraction (sd_acons (sd_bin od_sub (sd_f (sd_ix (fun _ _ => rfl) (sd_nm (pv 3)) (sd_nm (pv 11)))) (sd_f sd_int)) (sd_acons (sd_bin od_add (sd_f sd_int) (sd_f (sd_ix (fun _ _ => rfl) (sd_nm (pv 3)) (sd_f (sd_bin od_add (sd_nm (pv 1)) (sd_nm (pv 11))))))) sd_anil)))) (by decide))) sd_hnil)))
    (ss_cons (ss_set (i := 5) sc_law.nd rfl (.inl rfl) (sd_call (calV_make (T := tb T) (c := 0) T.mk_Observer (fn_raw0 (D_Observer_init T) T.b_Observer_init) (hr.mono (by omega)) takesD) (by rfl) T.h_Observer (sd_acons (sd_ix (fun _ _ => rfl) (sd_nm (pv 2)) (sd_f sd_int)) (sd_acons (sd_call (calV_ok (D__law_odds T) T.b__law_odds (hr.mono (by omega)) T.f__law_odds.kp takesD) (by rfl) T.g__law_odds (sd_acons (sd_ix (fun _ _ => rfl) (sd_nm (pv 2)) (sd_f sd_int)) (sd_acons (sd_ix (fun _ _ => rfl) (sd_nm (pv 2)) (sd_f sd_int)) sd_anil))) sd_anil))))
    (ss_cons (ss_if (sd_not (sd_tru (sd_f (sd_call (calV_ok (D__law_is_same T 5) T.b__law_is_same (hr.mono (by omega)) T.f__law_is_same.kp takesD) (by rfl) T.g__law_is_same (sd_acons (sd_meth (pl := _) (sd_nm (pv 5)) (sd_acons (sd_nv (pv 4)) sd_anil) (MetL.ok (.cons (met_ok T.cls_Observer T.me_Observer_expects (calV_ok (D_Observer_expects T) T.b_Observer_expects (hr.mono (by omega)) T.f_Observer_expects.kp takesD)) MetL.nil))) (sd_acons (sd_call (calV_ok (D__law_due T) T.b__law_due (hr.mono (by omega)) T.f__law_due.kp takesD) (by rfl) T.g__law_due (sd_acons (sd_nv (pv 2)) (sd_acons (sd_nv (pv 4)) sd_anil))) sd_anil)))))) (ss_one (ss_ret sd_bl)) ss_nil)
    (ss_cons (ss_set (i := 6) sc_law.nd rfl (.inl rfl) (sd_bin od_mod (sd_f (sd_call (calV_ok (D__law_cell T) T.b__law_cell (hr.mono (by omega)) T.f__law_cell.kp takesD) (by rfl) T.g__law_cell (sd_acons (sd_nv (pv 0)) (sd_acons sd_int sd_anil)))) (sd_nm (pv 1))))
    (ss_cons (ss_set (i := 7) sc_law.nd rfl (.inl rfl) (sd_lst (sd_acons (sd_sl (sd_nm (pv 4)) (sd_part (sd_f sd_int)) sd_noPart) (sd_acons (sd_bin od_add (sd_nm (pv 4)) (sd_f (sd_tup (sd_acons (sd_tup (sd_acons sd_int (sd_acons sd_int sd_anil))) sd_anil)))) (sd_acons (sd_callTy cd_list (by rfl) T.z_list (by decide +kernel) (sd_hcons (sd_nm (pv 4)) sd_hnil)) (sd_acons sd_non (sd_acons sd_int (sd_acons sd_str sd_anil))))))))
    (ss_cons (ss_set (i := 8) sc_law.nd rfl (.inl rfl) (sd_tup (sd_acons (sd_bin od_mul (sd_f sd_int) (sd_f (sd_ix (fun _ _ => rfl) (sd_f (sd_ix (fun _ _ => rfl) (sd_nm (pv 4)) (sd_nm (pv 6)))) (sd_f sd_int)))) (sd_acons (sd_bin od_mul (sd_f sd_int) (sd_f (sd_ix (fun _ _ => rfl) (sd_f (sd_ix (fun _ _ => rfl) (sd_nm (pv 4)) (sd_nm (pv 6)))) (sd_f sd_int)))) sd_anil))))
    (ss_cons (ss_for (passes_of (by rfl)) (by rfl) (si_val (sd_lst (sd_acons (sd_nv (pv 8)) (sd_acons sd_non (sd_acons sd_int (sd_acons sd_bl (sd_acons (sd_tup (sd_acons sd_bl (sd_acons sd_int sd_anil))) (sd_acons (sd_lst (sd_acons sd_int (sd_acons sd_int sd_anil))) (sd_acons sd_str (sd_acons (sd_tup (sd_acons sd_int (sd_acons sd_int sd_anil))) (sd_acons (sd_tup (sd_acons sd_int (sd_acons (sd_un ud_neg (sd_f sd_int)) sd_anil))) (sd_acons (sd_tup (sd_acons sd_int sd_anil)) sd_anil)))))))))))) (sg_name (pg_name (i := 9) sc_law.nd rfl (.inl rfl)))
    (ss_one (ss_app (i := 7) (pv 7) (sd_bin od_add (sd_f (sd_bin od_add (sd_f (sd_sl (sd_nm (pv 4)) sd_noPart (sd_part (sd_nm (pv 6))))) (sd_f (sd_tup (sd_acons (sd_nv (pv 9)) sd_anil))))) (sd_f (sd_sl (sd_nm (pv 4)) (sd_part (sd_f (sd_bin od_add (sd_nm (pv 6)) (sd_f sd_int)))) sd_noPart))))))
    (ss_cons (ss_for (passes_of (by rfl)) (by rfl) (si_val (sd_nv (pv 7))) (sg_name (pg_name (i := 10) sc_law.nd rfl (.inl rfl)))
    (ss_one (ss_if (sd_not (sd_tru (sd_f (sd_call (calV_ok (D__law_is_refused T) T.b__law_is_refused (hr.mono (by omega)) T.f__law_is_refused.kp takesD) (by rfl) T.g__law_is_refused (sd_acons (sd_nv (pv 5)) (sd_acons (sd_nv (pv 10)) sd_anil)))))) (ss_one (ss_ret sd_bl)) ss_nil)))
    (ss_one (ss_ret (sd_call (calV_ok (D__law_is_same T 5) T.b__law_is_same (hr.mono (by omega)) T.f__law_is_same.kp takesD) (by rfl) T.g__law_is_same (sd_acons (sd_meth (pl := _) (sd_nm (pv 5)) (sd_acons (sd_nv (pv 4)) sd_anil) (MetL.ok (.cons (met_ok T.cls_Observer T.me_Observer_expects (calV_ok (D_Observer_expects T) T.b_Observer_expects (hr.mono (by omega)) T.f_Observer_expects.kp takesD)) MetL.nil))) (sd_acons (sd_call (calV_ok (D__law_due T) T.b__law_due (hr.mono (by omega)) T.f__law_due.kp takesD) (by rfl) T.g__law_due (sd_acons (sd_nv (pv 2)) (sd_acons (sd_nv (pv 4)) sd_anil))) sd_anil))))))))))))))))
end
end Lw

set_option exponentiation.threshold 10000
namespace Lw
open PySem Mi
/-- what the name of a walk holds behind it -/
def lastS : List D → Sl → Sl
  | [], s => s
  | d :: ds, _ => lastS ds (.va d)
theorem ev_cell (ns : List Int) (k : Nat) : ∃ c : Int, ∀ S, cf__law_cell [.scr ns, .int k] S = .ok (.va (.int c)) ⟨[], S⟩ := by
  by_cases h : k < ns.length
  · refine ⟨ns[k], fun S => ?_⟩
    simp only [cf__law_cell, mDef, m__law_cell]
    simp only [e_mSeq, e_mIfS, e_mT, e_mBin, e_mUn, e_mNm, e_mNv, e_mF, e_mC, e_mRet, e_mSet, e_mSetIx, e_mApp, e_mExpr, e_mCB, e_mHcons, e_mHnil, e_mAcons, e_mAnil, e_mTup, e_mLst, e_mNx, e_mRetN, e_mIsN, e_mIsi, e_mTru, e_mAnd, e_mOr, e_mNot, e_mV, e_mAndV, e_mOrV, e_mNotV, e_mChain, e_mPar, e_mAsg, e_mFor, e_mItems, e_mRng1, e_mRng2, e_mEnum, e_mRaise, e_mCall, e_mAtt, e_mSetAtt, e_mMeth, e_mAnil0, e_mTry, e_mWh, e_mLc, e_mYes, e_mStar1, e_mPub, e_mAppO, e_mMt, e_mAstar, e_mSl, e_mPart, e_mNoPart, e_mBrk, e_mIf, e_mIx, e_mgName, e_mgTup, e_mgNil, e_mgCons, mDef, mDefV, mDefC, mCallAt, Mi.R.ne,
  Mi.bnd_ok, Mi.bnd_er, Mi.bnd_no, o_ok, o_er, o_no, ne_ok, ne_er, ne_no, Hd.at, rsv, opt, fin, ent, atAll, ownAt, gLt_ii, gLe_ii, gGt_ii, gGe_ii, gAdd, Mi.gSub, gLen, gNeg, gIx, atI_0, atI_1, gEq_int, gNe_int, Sl.d, kdOf, ansT, kI, kB, kT, kL, kS, insAt, tabA, tabS, tabM, List.getD_cons_zero, List.getD_cons_succ, truD, Option.bind_some, Option.bind_none, Option.map_some, Option.map_none,
  List.map_cons, List.map_nil, List.length_cons, List.length_nil, List.replicate_succ, List.replicate_zero, List.cons_append, List.nil_append, List.append_nil, List.getElem?_cons_zero, List.getElem?_cons_succ, List.set_cons_zero, List.set_cons_succ, Nat.reduceAdd, Nat.reduceSub, Nat.reduceLT, Nat.reduceEqDiff, Nat.reduceLeDiff, Nat.zero_add, natLit, le_LIM, lt_LIM, List.take_zero, List.drop_zero, List.take_succ_cons, List.drop_succ_cons, Nat.zero_le, true_and, and_true, and_self, Nat.reduceLeDiff, Int.reduceEq, Int.reduceLT, Int.reduceLE, Int.reduceAdd, Int.reduceSub, Int.reduceMul, Int.reduceNeg, Int.reduceToNat, eq_self_iff_true, reduceIte, if_true, if_false, ite_true, ite_false, Bool.false_eq_true, Bool.not_true, Bool.not_false, Bool.and_true, Bool.true_and, Bool.and_false, Bool.false_and, Bool.or_true, Bool.true_or, decide_true, decide_false, decide_eq_true_eq]
    rw [if_pos (by omega), atI_nat, List.getElem?_eq_getElem h]
    rfl
  · refine ⟨0, fun S => ?_⟩
    simp only [cf__law_cell, mDef, m__law_cell]
    simp only [e_mSeq, e_mIfS, e_mT, e_mBin, e_mUn, e_mNm, e_mNv, e_mF, e_mC, e_mRet, e_mSet, e_mSetIx, e_mApp, e_mExpr, e_mCB, e_mHcons, e_mHnil, e_mAcons, e_mAnil, e_mTup, e_mLst, e_mNx, e_mRetN, e_mIsN, e_mIsi, e_mTru, e_mAnd, e_mOr, e_mNot, e_mV, e_mAndV, e_mOrV, e_mNotV, e_mChain, e_mPar, e_mAsg, e_mFor, e_mItems, e_mRng1, e_mRng2, e_mEnum, e_mRaise, e_mCall, e_mAtt, e_mSetAtt, e_mMeth, e_mAnil0, e_mTry, e_mWh, e_mLc, e_mYes, e_mStar1, e_mPub, e_mAppO, e_mMt, e_mAstar, e_mSl, e_mPart, e_mNoPart, e_mBrk, e_mIf, e_mIx, e_mgName, e_mgTup, e_mgNil, e_mgCons, mDef, mDefV, mDefC, mCallAt, Mi.R.ne,
  Mi.bnd_ok, Mi.bnd_er, Mi.bnd_no, o_ok, o_er, o_no, ne_ok, ne_er, ne_no, Hd.at, rsv, opt, fin, ent, atAll, ownAt, gLt_ii, gLe_ii, gGt_ii, gGe_ii, gAdd, Mi.gSub, gLen, gNeg, gIx, atI_0, atI_1, gEq_int, gNe_int, Sl.d, kdOf, ansT, kI, kB, kT, kL, kS, insAt, tabA, tabS, tabM, List.getD_cons_zero, List.getD_cons_succ, truD, Option.bind_some, Option.bind_none, Option.map_some, Option.map_none,
  List.map_cons, List.map_nil, List.length_cons, List.length_nil, List.replicate_succ, List.replicate_zero, List.cons_append, List.nil_append, List.append_nil, List.getElem?_cons_zero, List.getElem?_cons_succ, List.set_cons_zero, List.set_cons_succ, Nat.reduceAdd, Nat.reduceSub, Nat.reduceLT, Nat.reduceEqDiff, Nat.reduceLeDiff, Nat.zero_add, natLit, le_LIM, lt_LIM, List.take_zero, List.drop_zero, List.take_succ_cons, List.drop_succ_cons, Nat.zero_le, true_and, and_true, and_self, Nat.reduceLeDiff, Int.reduceEq, Int.reduceLT, Int.reduceLE, Int.reduceAdd, Int.reduceSub, Int.reduceMul, Int.reduceNeg, Int.reduceToNat, eq_self_iff_true, reduceIte, if_true, if_false, ite_true, ite_false, Bool.false_eq_true, Bool.not_true, Bool.not_false, Bool.and_true, Bool.true_and, Bool.and_false, Bool.false_and, Bool.or_true, Bool.true_or, decide_true, decide_false, decide_eq_true_eq]
    rw [if_neg (by omega)]
theorem ev_whole_int (i : Int) (S : List Ins) : cf_is_whole [.int i] S = .ok (.va (.bl true)) ⟨[], S⟩ := by
  simp only [cf_is_whole, mDef, m_is_whole]; simp only [e_mSeq, e_mIfS, e_mT, e_mBin, e_mUn, e_mNm, e_mNv, e_mF, e_mC, e_mRet, e_mSet, e_mSetIx, e_mApp, e_mExpr, e_mCB, e_mHcons, e_mHnil, e_mAcons, e_mAnil, e_mTup, e_mLst, e_mNx, e_mRetN, e_mIsN, e_mIsi, e_mTru, e_mAnd, e_mOr, e_mNot, e_mV, e_mAndV, e_mOrV, e_mNotV, e_mChain, e_mPar, e_mAsg, e_mFor, e_mItems, e_mRng1, e_mRng2, e_mEnum, e_mRaise, e_mCall, e_mAtt, e_mSetAtt, e_mMeth, e_mAnil0, e_mTry, e_mWh, e_mLc, e_mYes, e_mStar1, e_mPub, e_mAppO, e_mMt, e_mAstar, e_mSl, e_mPart, e_mNoPart, e_mBrk, e_mIf, e_mIx, e_mgName, e_mgTup, e_mgNil, e_mgCons, mDef, mDefV, mDefC, mCallAt, Mi.R.ne,
  Mi.bnd_ok, Mi.bnd_er, Mi.bnd_no, o_ok, o_er, o_no, ne_ok, ne_er, ne_no, Hd.at, rsv, opt, fin, ent, atAll, ownAt, gLt_ii, gLe_ii, gGt_ii, gGe_ii, gAdd, Mi.gSub, gLen, gNeg, gIx, atI_0, atI_1, gEq_int, gNe_int, Sl.d, kdOf, ansT, kI, kB, kT, kL, kS, insAt, tabA, tabS, tabM, List.getD_cons_zero, List.getD_cons_succ, truD, Option.bind_some, Option.bind_none, Option.map_some, Option.map_none,
  List.map_cons, List.map_nil, List.length_cons, List.length_nil, List.replicate_succ, List.replicate_zero, List.cons_append, List.nil_append, List.append_nil, List.getElem?_cons_zero, List.getElem?_cons_succ, List.set_cons_zero, List.set_cons_succ, Nat.reduceAdd, Nat.reduceSub, Nat.reduceLT, Nat.reduceEqDiff, Nat.reduceLeDiff, Nat.zero_add, natLit, le_LIM, lt_LIM, List.take_zero, List.drop_zero, List.take_succ_cons, List.drop_succ_cons, Nat.zero_le, true_and, and_true, and_self, Nat.reduceLeDiff, Int.reduceEq, Int.reduceLT, Int.reduceLE, Int.reduceAdd, Int.reduceSub, Int.reduceMul, Int.reduceNeg, Int.reduceToNat, eq_self_iff_true, reduceIte, if_true, if_false, ite_true, ite_false, Bool.false_eq_true, Bool.not_true, Bool.not_false, Bool.and_true, Bool.true_and, Bool.and_false, Bool.false_and, Bool.or_true, Bool.true_or, decide_true, decide_false, decide_eq_true_eq]
theorem ev_whole_bl (i : Bool) (S : List Ins) : cf_is_whole [.bl i] S = .ok (.va (.bl false)) ⟨[], S⟩ := by
  simp only [cf_is_whole, mDef, m_is_whole]; simp only [e_mSeq, e_mIfS, e_mT, e_mBin, e_mUn, e_mNm, e_mNv, e_mF, e_mC, e_mRet, e_mSet, e_mSetIx, e_mApp, e_mExpr, e_mCB, e_mHcons, e_mHnil, e_mAcons, e_mAnil, e_mTup, e_mLst, e_mNx, e_mRetN, e_mIsN, e_mIsi, e_mTru, e_mAnd, e_mOr, e_mNot, e_mV, e_mAndV, e_mOrV, e_mNotV, e_mChain, e_mPar, e_mAsg, e_mFor, e_mItems, e_mRng1, e_mRng2, e_mEnum, e_mRaise, e_mCall, e_mAtt, e_mSetAtt, e_mMeth, e_mAnil0, e_mTry, e_mWh, e_mLc, e_mYes, e_mStar1, e_mPub, e_mAppO, e_mMt, e_mAstar, e_mSl, e_mPart, e_mNoPart, e_mBrk, e_mIf, e_mIx, e_mgName, e_mgTup, e_mgNil, e_mgCons, mDef, mDefV, mDefC, mCallAt, Mi.R.ne,
  Mi.bnd_ok, Mi.bnd_er, Mi.bnd_no, o_ok, o_er, o_no, ne_ok, ne_er, ne_no, Hd.at, rsv, opt, fin, ent, atAll, ownAt, gLt_ii, gLe_ii, gGt_ii, gGe_ii, gAdd, Mi.gSub, gLen, gNeg, gIx, atI_0, atI_1, gEq_int, gNe_int, Sl.d, kdOf, ansT, kI, kB, kT, kL, kS, insAt, tabA, tabS, tabM, List.getD_cons_zero, List.getD_cons_succ, truD, Option.bind_some, Option.bind_none, Option.map_some, Option.map_none,
  List.map_cons, List.map_nil, List.length_cons, List.length_nil, List.replicate_succ, List.replicate_zero, List.cons_append, List.nil_append, List.append_nil, List.getElem?_cons_zero, List.getElem?_cons_succ, List.set_cons_zero, List.set_cons_succ, Nat.reduceAdd, Nat.reduceSub, Nat.reduceLT, Nat.reduceEqDiff, Nat.reduceLeDiff, Nat.zero_add, natLit, le_LIM, lt_LIM, List.take_zero, List.drop_zero, List.take_succ_cons, List.drop_succ_cons, Nat.zero_le, true_and, and_true, and_self, Nat.reduceLeDiff, Int.reduceEq, Int.reduceLT, Int.reduceLE, Int.reduceAdd, Int.reduceSub, Int.reduceMul, Int.reduceNeg, Int.reduceToNat, eq_self_iff_true, reduceIte, if_true, if_false, ite_true, ite_false, Bool.false_eq_true, Bool.not_true, Bool.not_false, Bool.and_true, Bool.true_and, Bool.and_false, Bool.false_and, Bool.or_true, Bool.true_or, decide_true, decide_false, decide_eq_true_eq]
theorem ev_whole_non (S : List Ins) : cf_is_whole [.non] S = .ok (.va (.bl false)) ⟨[], S⟩ := by
  simp only [cf_is_whole, mDef, m_is_whole]; simp only [e_mSeq, e_mIfS, e_mT, e_mBin, e_mUn, e_mNm, e_mNv, e_mF, e_mC, e_mRet, e_mSet, e_mSetIx, e_mApp, e_mExpr, e_mCB, e_mHcons, e_mHnil, e_mAcons, e_mAnil, e_mTup, e_mLst, e_mNx, e_mRetN, e_mIsN, e_mIsi, e_mTru, e_mAnd, e_mOr, e_mNot, e_mV, e_mAndV, e_mOrV, e_mNotV, e_mChain, e_mPar, e_mAsg, e_mFor, e_mItems, e_mRng1, e_mRng2, e_mEnum, e_mRaise, e_mCall, e_mAtt, e_mSetAtt, e_mMeth, e_mAnil0, e_mTry, e_mWh, e_mLc, e_mYes, e_mStar1, e_mPub, e_mAppO, e_mMt, e_mAstar, e_mSl, e_mPart, e_mNoPart, e_mBrk, e_mIf, e_mIx, e_mgName, e_mgTup, e_mgNil, e_mgCons, mDef, mDefV, mDefC, mCallAt, Mi.R.ne,
  Mi.bnd_ok, Mi.bnd_er, Mi.bnd_no, o_ok, o_er, o_no, ne_ok, ne_er, ne_no, Hd.at, rsv, opt, fin, ent, atAll, ownAt, gLt_ii, gLe_ii, gGt_ii, gGe_ii, gAdd, Mi.gSub, gLen, gNeg, gIx, atI_0, atI_1, gEq_int, gNe_int, Sl.d, kdOf, ansT, kI, kB, kT, kL, kS, insAt, tabA, tabS, tabM, List.getD_cons_zero, List.getD_cons_succ, truD, Option.bind_some, Option.bind_none, Option.map_some, Option.map_none,
  List.map_cons, List.map_nil, List.length_cons, List.length_nil, List.replicate_succ, List.replicate_zero, List.cons_append, List.nil_append, List.append_nil, List.getElem?_cons_zero, List.getElem?_cons_succ, List.set_cons_zero, List.set_cons_succ, Nat.reduceAdd, Nat.reduceSub, Nat.reduceLT, Nat.reduceEqDiff, Nat.reduceLeDiff, Nat.zero_add, natLit, le_LIM, lt_LIM, List.take_zero, List.drop_zero, List.take_succ_cons, List.drop_succ_cons, Nat.zero_le, true_and, and_true, and_self, Nat.reduceLeDiff, Int.reduceEq, Int.reduceLT, Int.reduceLE, Int.reduceAdd, Int.reduceSub, Int.reduceMul, Int.reduceNeg, Int.reduceToNat, eq_self_iff_true, reduceIte, if_true, if_false, ite_true, ite_false, Bool.false_eq_true, Bool.not_true, Bool.not_false, Bool.and_true, Bool.true_and, Bool.and_false, Bool.false_and, Bool.or_true, Bool.true_or, decide_true, decide_false, decide_eq_true_eq]
theorem gcd_loop (S : List Ins) : ∀ (n : Nat) (a b : Int), 0 ≤ b → b.natAbs < n → ∃ g : Int, whL wt_common_divisor1 wb_common_divisor1 n ⟨[.va (.int a), .va (.int b)], S⟩ = .nx ⟨[.va (.int g), .va (.int 0)], S⟩ ∧
    (0 < b → g = (Int.gcd a b : Nat)) ∧ (b = 0 → g = a)
  | 0, a, b, h0, h => absurd h (Nat.not_lt_zero _)
  | n + 1, a, b, h0, h => by
    simp only [whL, wt_common_divisor1, wb_common_divisor1] at *
    simp only [e_mSeq, e_mIfS, e_mT, e_mBin, e_mUn, e_mNm, e_mNv, e_mF, e_mC, e_mRet, e_mSet, e_mSetIx, e_mApp, e_mExpr, e_mCB, e_mHcons, e_mHnil, e_mAcons, e_mAnil, e_mTup, e_mLst, e_mNx, e_mRetN, e_mIsN, e_mIsi, e_mTru, e_mAnd, e_mOr, e_mNot, e_mV, e_mAndV, e_mOrV, e_mNotV, e_mChain, e_mPar, e_mAsg, e_mFor, e_mItems, e_mRng1, e_mRng2, e_mEnum, e_mRaise, e_mCall, e_mAtt, e_mSetAtt, e_mMeth, e_mAnil0, e_mTry, e_mWh, e_mLc, e_mYes, e_mStar1, e_mPub, e_mAppO, e_mMt, e_mAstar, e_mSl, e_mPart, e_mNoPart, e_mBrk, e_mIf, e_mIx, e_mgName, e_mgTup, e_mgNil, e_mgCons, mDef, mDefV, mDefC, mCallAt, Mi.R.ne,
  Mi.bnd_ok, Mi.bnd_er, Mi.bnd_no, o_ok, o_er, o_no, ne_ok, ne_er, ne_no, Hd.at, rsv, opt, fin, ent, atAll, ownAt, gLt_ii, gLe_ii, gGt_ii, gGe_ii, gAdd, Mi.gSub, gLen, gNeg, gIx, atI_0, atI_1, gEq_int, gNe_int, Sl.d, kdOf, ansT, kI, kB, kT, kL, kS, insAt, tabA, tabS, tabM, List.getD_cons_zero, List.getD_cons_succ, truD, Option.bind_some, Option.bind_none, Option.map_some, Option.map_none,
  List.map_cons, List.map_nil, List.length_cons, List.length_nil, List.replicate_succ, List.replicate_zero, List.cons_append, List.nil_append, List.append_nil, List.getElem?_cons_zero, List.getElem?_cons_succ, List.set_cons_zero, List.set_cons_succ, Nat.reduceAdd, Nat.reduceSub, Nat.reduceLT, Nat.reduceEqDiff, Nat.reduceLeDiff, Nat.zero_add, natLit, le_LIM, lt_LIM, List.take_zero, List.drop_zero, List.take_succ_cons, List.drop_succ_cons, Nat.zero_le, true_and, and_true, and_self, Nat.reduceLeDiff, Int.reduceEq, Int.reduceLT, Int.reduceLE, Int.reduceAdd, Int.reduceSub, Int.reduceMul, Int.reduceNeg, Int.reduceToNat, eq_self_iff_true, reduceIte, if_true, if_false, ite_true, ite_false, Bool.false_eq_true, Bool.not_true, Bool.not_false, Bool.and_true, Bool.true_and, Bool.and_false, Bool.false_and, Bool.or_true, Bool.true_or, decide_true, decide_false, decide_eq_true_eq]
    by_cases q : b = 0
    · subst q
      simp only [e_mSeq, e_mIfS, e_mT, e_mBin, e_mUn, e_mNm, e_mNv, e_mF, e_mC, e_mRet, e_mSet, e_mSetIx, e_mApp, e_mExpr, e_mCB, e_mHcons, e_mHnil, e_mAcons, e_mAnil, e_mTup, e_mLst, e_mNx, e_mRetN, e_mIsN, e_mIsi, e_mTru, e_mAnd, e_mOr, e_mNot, e_mV, e_mAndV, e_mOrV, e_mNotV, e_mChain, e_mPar, e_mAsg, e_mFor, e_mItems, e_mRng1, e_mRng2, e_mEnum, e_mRaise, e_mCall, e_mAtt, e_mSetAtt, e_mMeth, e_mAnil0, e_mTry, e_mWh, e_mLc, e_mYes, e_mStar1, e_mPub, e_mAppO, e_mMt, e_mAstar, e_mSl, e_mPart, e_mNoPart, e_mBrk, e_mIf, e_mIx, e_mgName, e_mgTup, e_mgNil, e_mgCons, mDef, mDefV, mDefC, mCallAt, Mi.R.ne,
  Mi.bnd_ok, Mi.bnd_er, Mi.bnd_no, o_ok, o_er, o_no, ne_ok, ne_er, ne_no, Hd.at, rsv, opt, fin, ent, atAll, ownAt, gLt_ii, gLe_ii, gGt_ii, gGe_ii, gAdd, Mi.gSub, gLen, gNeg, gIx, atI_0, atI_1, gEq_int, gNe_int, Sl.d, kdOf, ansT, kI, kB, kT, kL, kS, insAt, tabA, tabS, tabM, List.getD_cons_zero, List.getD_cons_succ, truD, Option.bind_some, Option.bind_none, Option.map_some, Option.map_none,
  List.map_cons, List.map_nil, List.length_cons, List.length_nil, List.replicate_succ, List.replicate_zero, List.cons_append, List.nil_append, List.append_nil, List.getElem?_cons_zero, List.getElem?_cons_succ, List.set_cons_zero, List.set_cons_succ, Nat.reduceAdd, Nat.reduceSub, Nat.reduceLT, Nat.reduceEqDiff, Nat.reduceLeDiff, Nat.zero_add, natLit, le_LIM, lt_LIM, List.take_zero, List.drop_zero, List.take_succ_cons, List.drop_succ_cons, Nat.zero_le, true_and, and_true, and_self, Nat.reduceLeDiff, Int.reduceEq, Int.reduceLT, Int.reduceLE, Int.reduceAdd, Int.reduceSub, Int.reduceMul, Int.reduceNeg, Int.reduceToNat, eq_self_iff_true, reduceIte, if_true, if_false, ite_true, ite_false, Bool.false_eq_true, Bool.not_true, Bool.not_false, Bool.and_true, Bool.true_and, Bool.and_false, Bool.false_and, Bool.or_true, Bool.true_or, decide_true, decide_false, decide_eq_true_eq]
      exact ⟨a, rfl, fun z => absurd z (by decide), fun _ => rfl⟩
    · have hb : 0 < b := by omega
      have hm : 0 ≤ a % b := Int.emod_nonneg _ q
      have hl : a % b < b := Int.emod_lt_of_pos _ hb
      obtain ⟨g, e, h1, h2⟩ := gcd_loop S n b (a % b) hm (by omega)
      simp only [decide_eq_false q, Bool.not_false, if_true, gMod, if_pos hb]
      simp only [e_mSeq, e_mIfS, e_mT, e_mBin, e_mUn, e_mNm, e_mNv, e_mF, e_mC, e_mRet, e_mSet, e_mSetIx, e_mApp, e_mExpr, e_mCB, e_mHcons, e_mHnil, e_mAcons, e_mAnil, e_mTup, e_mLst, e_mNx, e_mRetN, e_mIsN, e_mIsi, e_mTru, e_mAnd, e_mOr, e_mNot, e_mV, e_mAndV, e_mOrV, e_mNotV, e_mChain, e_mPar, e_mAsg, e_mFor, e_mItems, e_mRng1, e_mRng2, e_mEnum, e_mRaise, e_mCall, e_mAtt, e_mSetAtt, e_mMeth, e_mAnil0, e_mTry, e_mWh, e_mLc, e_mYes, e_mStar1, e_mPub, e_mAppO, e_mMt, e_mAstar, e_mSl, e_mPart, e_mNoPart, e_mBrk, e_mIf, e_mIx, e_mgName, e_mgTup, e_mgNil, e_mgCons, mDef, mDefV, mDefC, mCallAt, Mi.R.ne,
  Mi.bnd_ok, Mi.bnd_er, Mi.bnd_no, o_ok, o_er, o_no, ne_ok, ne_er, ne_no, Hd.at, rsv, opt, fin, ent, atAll, ownAt, gLt_ii, gLe_ii, gGt_ii, gGe_ii, gAdd, Mi.gSub, gLen, gNeg, gIx, atI_0, atI_1, gEq_int, gNe_int, Sl.d, kdOf, ansT, kI, kB, kT, kL, kS, insAt, tabA, tabS, tabM, List.getD_cons_zero, List.getD_cons_succ, truD, Option.bind_some, Option.bind_none, Option.map_some, Option.map_none,
  List.map_cons, List.map_nil, List.length_cons, List.length_nil, List.replicate_succ, List.replicate_zero, List.cons_append, List.nil_append, List.append_nil, List.getElem?_cons_zero, List.getElem?_cons_succ, List.set_cons_zero, List.set_cons_succ, Nat.reduceAdd, Nat.reduceSub, Nat.reduceLT, Nat.reduceEqDiff, Nat.reduceLeDiff, Nat.zero_add, natLit, le_LIM, lt_LIM, List.take_zero, List.drop_zero, List.take_succ_cons, List.drop_succ_cons, Nat.zero_le, true_and, and_true, and_self, Nat.reduceLeDiff, Int.reduceEq, Int.reduceLT, Int.reduceLE, Int.reduceAdd, Int.reduceSub, Int.reduceMul, Int.reduceNeg, Int.reduceToNat, eq_self_iff_true, reduceIte, if_true, if_false, ite_true, ite_false, Bool.false_eq_true, Bool.not_true, Bool.not_false, Bool.and_true, Bool.true_and, Bool.and_false, Bool.false_and, Bool.or_true, Bool.true_or, decide_true, decide_false, decide_eq_true_eq]
      refine ⟨g, e, fun _ => ?_, fun z => absurd z q⟩
      by_cases z : a % b = 0
      · rw [h2 z]
        have := Int.gcd_eq_right (by omega) (Int.dvd_of_emod_eq_zero z)
        rw [this]
      · rw [h1 (by omega)]
        have := Wr.gcd_fmod a b
        rw [Int.fmod_eq_emod_of_nonneg a h0] at this
        rw [← this]
theorem ev_gcd (a b : Int) (h : 0 < b) (S : List Ins) : cf_common_divisor [.int a, .int b] S = .ok (.va (.int (Int.gcd a b : Nat))) ⟨[], S⟩ := by
  obtain ⟨g, e, h1, _⟩ := gcd_loop S (fuel ⟨[.va (.int a), .va (.int b)], S⟩) a b (by omega) (by simp only [fuel, List.foldl_cons, List.foldl_nil]; omega)
  simp only [cf_common_divisor, m_common_divisor]
  simp only [e_mSeq, e_mIfS, e_mT, e_mBin, e_mUn, e_mNm, e_mNv, e_mF, e_mC, e_mRet, e_mSet, e_mSetIx, e_mApp, e_mExpr, e_mCB, e_mHcons, e_mHnil, e_mAcons, e_mAnil, e_mTup, e_mLst, e_mNx, e_mRetN, e_mIsN, e_mIsi, e_mTru, e_mAnd, e_mOr, e_mNot, e_mV, e_mAndV, e_mOrV, e_mNotV, e_mChain, e_mPar, e_mAsg, e_mFor, e_mItems, e_mRng1, e_mRng2, e_mEnum, e_mRaise, e_mCall, e_mAtt, e_mSetAtt, e_mMeth, e_mAnil0, e_mTry, e_mWh, e_mLc, e_mYes, e_mStar1, e_mPub, e_mAppO, e_mMt, e_mAstar, e_mSl, e_mPart, e_mNoPart, e_mBrk, e_mIf, e_mIx, e_mgName, e_mgTup, e_mgNil, e_mgCons, mDef, mDefV, mDefC, mCallAt, Mi.R.ne,
  Mi.bnd_ok, Mi.bnd_er, Mi.bnd_no, o_ok, o_er, o_no, ne_ok, ne_er, ne_no, Hd.at, rsv, opt, fin, ent, atAll, ownAt, gLt_ii, gLe_ii, gGt_ii, gGe_ii, gAdd, Mi.gSub, gLen, gNeg, gIx, atI_0, atI_1, gEq_int, gNe_int, Sl.d, kdOf, ansT, kI, kB, kT, kL, kS, insAt, tabA, tabS, tabM, List.getD_cons_zero, List.getD_cons_succ, truD, Option.bind_some, Option.bind_none, Option.map_some, Option.map_none,
  List.map_cons, List.map_nil, List.length_cons, List.length_nil, List.replicate_succ, List.replicate_zero, List.cons_append, List.nil_append, List.append_nil, List.getElem?_cons_zero, List.getElem?_cons_succ, List.set_cons_zero, List.set_cons_succ, Nat.reduceAdd, Nat.reduceSub, Nat.reduceLT, Nat.reduceEqDiff, Nat.reduceLeDiff, Nat.zero_add, natLit, le_LIM, lt_LIM, List.take_zero, List.drop_zero, List.take_succ_cons, List.drop_succ_cons, Nat.zero_le, true_and, and_true, and_self, Nat.reduceLeDiff, Int.reduceEq, Int.reduceLT, Int.reduceLE, Int.reduceAdd, Int.reduceSub, Int.reduceMul, Int.reduceNeg, Int.reduceToNat, eq_self_iff_true, reduceIte, if_true, if_false, ite_true, ite_false, Bool.false_eq_true, Bool.not_true, Bool.not_false, Bool.and_true, Bool.true_and, Bool.and_false, Bool.false_and, Bool.or_true, Bool.true_or, decide_true, decide_false, decide_eq_true_eq]
  rw [e, h1 h]
  simp only [e_mSeq, e_mIfS, e_mT, e_mBin, e_mUn, e_mNm, e_mNv, e_mF, e_mC, e_mRet, e_mSet, e_mSetIx, e_mApp, e_mExpr, e_mCB, e_mHcons, e_mHnil, e_mAcons, e_mAnil, e_mTup, e_mLst, e_mNx, e_mRetN, e_mIsN, e_mIsi, e_mTru, e_mAnd, e_mOr, e_mNot, e_mV, e_mAndV, e_mOrV, e_mNotV, e_mChain, e_mPar, e_mAsg, e_mFor, e_mItems, e_mRng1, e_mRng2, e_mEnum, e_mRaise, e_mCall, e_mAtt, e_mSetAtt, e_mMeth, e_mAnil0, e_mTry, e_mWh, e_mLc, e_mYes, e_mStar1, e_mPub, e_mAppO, e_mMt, e_mAstar, e_mSl, e_mPart, e_mNoPart, e_mBrk, e_mIf, e_mIx, e_mgName, e_mgTup, e_mgNil, e_mgCons, mDef, mDefV, mDefC, mCallAt, Mi.R.ne,
  Mi.bnd_ok, Mi.bnd_er, Mi.bnd_no, o_ok, o_er, o_no, ne_ok, ne_er, ne_no, Hd.at, rsv, opt, fin, ent, atAll, ownAt, gLt_ii, gLe_ii, gGt_ii, gGe_ii, gAdd, Mi.gSub, gLen, gNeg, gIx, atI_0, atI_1, gEq_int, gNe_int, Sl.d, kdOf, ansT, kI, kB, kT, kL, kS, insAt, tabA, tabS, tabM, List.getD_cons_zero, List.getD_cons_succ, truD, Option.bind_some, Option.bind_none, Option.map_some, Option.map_none,
  List.map_cons, List.map_nil, List.length_cons, List.length_nil, List.replicate_succ, List.replicate_zero, List.cons_append, List.nil_append, List.append_nil, List.getElem?_cons_zero, List.getElem?_cons_succ, List.set_cons_zero, List.set_cons_succ, Nat.reduceAdd, Nat.reduceSub, Nat.reduceLT, Nat.reduceEqDiff, Nat.reduceLeDiff, Nat.zero_add, natLit, le_LIM, lt_LIM, List.take_zero, List.drop_zero, List.take_succ_cons, List.drop_succ_cons, Nat.zero_le, true_and, and_true, and_self, Nat.reduceLeDiff, Int.reduceEq, Int.reduceLT, Int.reduceLE, Int.reduceAdd, Int.reduceSub, Int.reduceMul, Int.reduceNeg, Int.reduceToNat, eq_self_iff_true, reduceIte, if_true, if_false, ite_true, ite_false, Bool.false_eq_true, Bool.not_true, Bool.not_false, Bool.and_true, Bool.true_and, Bool.and_false, Bool.false_and, Bool.or_true, Bool.true_or, decide_true, decide_false, decide_eq_true_eq]
theorem fr_neg {t b : Int} (h : b < 0) : (-t) / ((Int.gcd (-t) (-b) : Nat) : Int) = Wr.frT t b ∧ (-b) / ((Int.gcd (-t) (-b) : Nat) : Int) = Wr.frB t b := by
  unfold Wr.frT Wr.frB
  rw [if_pos h, if_pos h, Int.neg_gcd, Int.gcd_neg]
  exact ⟨rfl, rfl⟩
theorem fr_pos {t b : Int} (h : 0 < b) : t / ((Int.gcd t b : Nat) : Int) = Wr.frT t b ∧ b / ((Int.gcd t b : Nat) : Int) = Wr.frB t b := by
  unfold Wr.frT Wr.frB
  rw [if_neg (by omega), if_neg (by omega)]
  exact ⟨rfl, rfl⟩
theorem gDiv_ok {a g : Int} (h : 0 < g) (hl : g.natAbs < 2 ^ 8000) : gDiv (.int a) (.int g) = some (.va (.int (a / g))) := by
  simp only [gDiv]
  rw [if_pos ⟨h, hl⟩]
theorem gcd_small {a b : Int} (h : 0 < b) (hb : b.natAbs < 2 ^ 7000) : (0 : Int) < (Int.gcd a b : Nat) ∧ ((Int.gcd a b : Nat) : Int).natAbs < 2 ^ 8000 := by
  have h1 := Wr.gcd_posR (t := a) (b := b) (by omega)
  have h2 := Wr.gcd_leR (t := a) (b := b) (by omega)
  refine ⟨by omega, ?_⟩
  rw [Int.natAbs_natCast]
  exact Nat.lt_of_le_of_lt h2 (Nat.lt_of_lt_of_le hb (Nat.pow_le_pow_right (by decide) (by decide)))
theorem ev_fraction (a b : Int) (hb : b.natAbs < 2 ^ 7000) (S : List Ins) : cf_fraction [.int a, .int b] S = if b = 0 then .er 0 ⟨[], S⟩ else .ok (.va (frD (Wr.frT a b) (Wr.frB a b))) ⟨[], S⟩ := by
  simp only [cf_fraction, m_fraction]
  simp only [e_mSeq, e_mIfS, e_mT, e_mBin, e_mUn, e_mNm, e_mNv, e_mF, e_mC, e_mRet, e_mSet, e_mSetIx, e_mApp, e_mExpr, e_mCB, e_mHcons, e_mHnil, e_mAcons, e_mAnil, e_mTup, e_mLst, e_mNx, e_mRetN, e_mIsN, e_mIsi, e_mTru, e_mAnd, e_mOr, e_mNot, e_mV, e_mAndV, e_mOrV, e_mNotV, e_mChain, e_mPar, e_mAsg, e_mFor, e_mItems, e_mRng1, e_mRng2, e_mEnum, e_mRaise, e_mCall, e_mAtt, e_mSetAtt, e_mMeth, e_mAnil0, e_mTry, e_mWh, e_mLc, e_mYes, e_mStar1, e_mPub, e_mAppO, e_mMt, e_mAstar, e_mSl, e_mPart, e_mNoPart, e_mBrk, e_mIf, e_mIx, e_mgName, e_mgTup, e_mgNil, e_mgCons, mDef, mDefV, mDefC, mCallAt, Mi.R.ne,
  Mi.bnd_ok, Mi.bnd_er, Mi.bnd_no, o_ok, o_er, o_no, ne_ok, ne_er, ne_no, Hd.at, rsv, opt, fin, ent, atAll, ownAt, gLt_ii, gLe_ii, gGt_ii, gGe_ii, gAdd, Mi.gSub, gLen, gNeg, gIx, atI_0, atI_1, gEq_int, gNe_int, Sl.d, kdOf, ansT, kI, kB, kT, kL, kS, insAt, tabA, tabS, tabM, List.getD_cons_zero, List.getD_cons_succ, truD, Option.bind_some, Option.bind_none, Option.map_some, Option.map_none,
  List.map_cons, List.map_nil, List.length_cons, List.length_nil, List.replicate_succ, List.replicate_zero, List.cons_append, List.nil_append, List.append_nil, List.getElem?_cons_zero, List.getElem?_cons_succ, List.set_cons_zero, List.set_cons_succ, Nat.reduceAdd, Nat.reduceSub, Nat.reduceLT, Nat.reduceEqDiff, Nat.reduceLeDiff, Nat.zero_add, natLit, le_LIM, lt_LIM, List.take_zero, List.drop_zero, List.take_succ_cons, List.drop_succ_cons, Nat.zero_le, true_and, and_true, and_self, Nat.reduceLeDiff, Int.reduceEq, Int.reduceLT, Int.reduceLE, Int.reduceAdd, Int.reduceSub, Int.reduceMul, Int.reduceNeg, Int.reduceToNat, eq_self_iff_true, reduceIte, if_true, if_false, ite_true, ite_false, Bool.false_eq_true, Bool.not_true, Bool.not_false, Bool.and_true, Bool.true_and, Bool.and_false, Bool.false_and, Bool.or_true, Bool.true_or, decide_true, decide_false, decide_eq_true_eq]
  simp only [ev_whole_int]
  simp only [e_mSeq, e_mIfS, e_mT, e_mBin, e_mUn, e_mNm, e_mNv, e_mF, e_mC, e_mRet, e_mSet, e_mSetIx, e_mApp, e_mExpr, e_mCB, e_mHcons, e_mHnil, e_mAcons, e_mAnil, e_mTup, e_mLst, e_mNx, e_mRetN, e_mIsN, e_mIsi, e_mTru, e_mAnd, e_mOr, e_mNot, e_mV, e_mAndV, e_mOrV, e_mNotV, e_mChain, e_mPar, e_mAsg, e_mFor, e_mItems, e_mRng1, e_mRng2, e_mEnum, e_mRaise, e_mCall, e_mAtt, e_mSetAtt, e_mMeth, e_mAnil0, e_mTry, e_mWh, e_mLc, e_mYes, e_mStar1, e_mPub, e_mAppO, e_mMt, e_mAstar, e_mSl, e_mPart, e_mNoPart, e_mBrk, e_mIf, e_mIx, e_mgName, e_mgTup, e_mgNil, e_mgCons, mDef, mDefV, mDefC, mCallAt, Mi.R.ne,
  Mi.bnd_ok, Mi.bnd_er, Mi.bnd_no, o_ok, o_er, o_no, ne_ok, ne_er, ne_no, Hd.at, rsv, opt, fin, ent, atAll, ownAt, gLt_ii, gLe_ii, gGt_ii, gGe_ii, gAdd, Mi.gSub, gLen, gNeg, gIx, atI_0, atI_1, gEq_int, gNe_int, Sl.d, kdOf, ansT, kI, kB, kT, kL, kS, insAt, tabA, tabS, tabM, List.getD_cons_zero, List.getD_cons_succ, truD, Option.bind_some, Option.bind_none, Option.map_some, Option.map_none,
  List.map_cons, List.map_nil, List.length_cons, List.length_nil, List.replicate_succ, List.replicate_zero, List.cons_append, List.nil_append, List.append_nil, List.getElem?_cons_zero, List.getElem?_cons_succ, List.set_cons_zero, List.set_cons_succ, Nat.reduceAdd, Nat.reduceSub, Nat.reduceLT, Nat.reduceEqDiff, Nat.reduceLeDiff, Nat.zero_add, natLit, le_LIM, lt_LIM, List.take_zero, List.drop_zero, List.take_succ_cons, List.drop_succ_cons, Nat.zero_le, true_and, and_true, and_self, Nat.reduceLeDiff, Int.reduceEq, Int.reduceLT, Int.reduceLE, Int.reduceAdd, Int.reduceSub, Int.reduceMul, Int.reduceNeg, Int.reduceToNat, eq_self_iff_true, reduceIte, if_true, if_false, ite_true, ite_false, Bool.false_eq_true, Bool.not_true, Bool.not_false, Bool.and_true, Bool.true_and, Bool.and_false, Bool.false_and, Bool.or_true, Bool.true_or, decide_true, decide_false, decide_eq_true_eq]
  simp only [ev_whole_int]
  simp only [e_mSeq, e_mIfS, e_mT, e_mBin, e_mUn, e_mNm, e_mNv, e_mF, e_mC, e_mRet, e_mSet, e_mSetIx, e_mApp, e_mExpr, e_mCB, e_mHcons, e_mHnil, e_mAcons, e_mAnil, e_mTup, e_mLst, e_mNx, e_mRetN, e_mIsN, e_mIsi, e_mTru, e_mAnd, e_mOr, e_mNot, e_mV, e_mAndV, e_mOrV, e_mNotV, e_mChain, e_mPar, e_mAsg, e_mFor, e_mItems, e_mRng1, e_mRng2, e_mEnum, e_mRaise, e_mCall, e_mAtt, e_mSetAtt, e_mMeth, e_mAnil0, e_mTry, e_mWh, e_mLc, e_mYes, e_mStar1, e_mPub, e_mAppO, e_mMt, e_mAstar, e_mSl, e_mPart, e_mNoPart, e_mBrk, e_mIf, e_mIx, e_mgName, e_mgTup, e_mgNil, e_mgCons, mDef, mDefV, mDefC, mCallAt, Mi.R.ne,
  Mi.bnd_ok, Mi.bnd_er, Mi.bnd_no, o_ok, o_er, o_no, ne_ok, ne_er, ne_no, Hd.at, rsv, opt, fin, ent, atAll, ownAt, gLt_ii, gLe_ii, gGt_ii, gGe_ii, gAdd, Mi.gSub, gLen, gNeg, gIx, atI_0, atI_1, gEq_int, gNe_int, Sl.d, kdOf, ansT, kI, kB, kT, kL, kS, insAt, tabA, tabS, tabM, List.getD_cons_zero, List.getD_cons_succ, truD, Option.bind_some, Option.bind_none, Option.map_some, Option.map_none,
  List.map_cons, List.map_nil, List.length_cons, List.length_nil, List.replicate_succ, List.replicate_zero, List.cons_append, List.nil_append, List.append_nil, List.getElem?_cons_zero, List.getElem?_cons_succ, List.set_cons_zero, List.set_cons_succ, Nat.reduceAdd, Nat.reduceSub, Nat.reduceLT, Nat.reduceEqDiff, Nat.reduceLeDiff, Nat.zero_add, natLit, le_LIM, lt_LIM, List.take_zero, List.drop_zero, List.take_succ_cons, List.drop_succ_cons, Nat.zero_le, true_and, and_true, and_self, Nat.reduceLeDiff, Int.reduceEq, Int.reduceLT, Int.reduceLE, Int.reduceAdd, Int.reduceSub, Int.reduceMul, Int.reduceNeg, Int.reduceToNat, eq_self_iff_true, reduceIte, if_true, if_false, ite_true, ite_false, Bool.false_eq_true, Bool.not_true, Bool.not_false, Bool.and_true, Bool.true_and, Bool.and_false, Bool.false_and, Bool.or_true, Bool.true_or, decide_true, decide_false, decide_eq_true_eq]
  by_cases z : b = 0
  · subst z
    simp only [e_mSeq, e_mIfS, e_mT, e_mBin, e_mUn, e_mNm, e_mNv, e_mF, e_mC, e_mRet, e_mSet, e_mSetIx, e_mApp, e_mExpr, e_mCB, e_mHcons, e_mHnil, e_mAcons, e_mAnil, e_mTup, e_mLst, e_mNx, e_mRetN, e_mIsN, e_mIsi, e_mTru, e_mAnd, e_mOr, e_mNot, e_mV, e_mAndV, e_mOrV, e_mNotV, e_mChain, e_mPar, e_mAsg, e_mFor, e_mItems, e_mRng1, e_mRng2, e_mEnum, e_mRaise, e_mCall, e_mAtt, e_mSetAtt, e_mMeth, e_mAnil0, e_mTry, e_mWh, e_mLc, e_mYes, e_mStar1, e_mPub, e_mAppO, e_mMt, e_mAstar, e_mSl, e_mPart, e_mNoPart, e_mBrk, e_mIf, e_mIx, e_mgName, e_mgTup, e_mgNil, e_mgCons, mDef, mDefV, mDefC, mCallAt, Mi.R.ne,
  Mi.bnd_ok, Mi.bnd_er, Mi.bnd_no, o_ok, o_er, o_no, ne_ok, ne_er, ne_no, Hd.at, rsv, opt, fin, ent, atAll, ownAt, gLt_ii, gLe_ii, gGt_ii, gGe_ii, gAdd, Mi.gSub, gLen, gNeg, gIx, atI_0, atI_1, gEq_int, gNe_int, Sl.d, kdOf, ansT, kI, kB, kT, kL, kS, insAt, tabA, tabS, tabM, List.getD_cons_zero, List.getD_cons_succ, truD, Option.bind_some, Option.bind_none, Option.map_some, Option.map_none,
  List.map_cons, List.map_nil, List.length_cons, List.length_nil, List.replicate_succ, List.replicate_zero, List.cons_append, List.nil_append, List.append_nil, List.getElem?_cons_zero, List.getElem?_cons_succ, List.set_cons_zero, List.set_cons_succ, Nat.reduceAdd, Nat.reduceSub, Nat.reduceLT, Nat.reduceEqDiff, Nat.reduceLeDiff, Nat.zero_add, natLit, le_LIM, lt_LIM, List.take_zero, List.drop_zero, List.take_succ_cons, List.drop_succ_cons, Nat.zero_le, true_and, and_true, and_self, Nat.reduceLeDiff, Int.reduceEq, Int.reduceLT, Int.reduceLE, Int.reduceAdd, Int.reduceSub, Int.reduceMul, Int.reduceNeg, Int.reduceToNat, eq_self_iff_true, reduceIte, if_true, if_false, ite_true, ite_false, Bool.false_eq_true, Bool.not_true, Bool.not_false, Bool.and_true, Bool.true_and, Bool.and_false, Bool.false_and, Bool.or_true, Bool.true_or, decide_true, decide_false, decide_eq_true_eq]
  · simp only [z, decide_false]
    simp only [e_mSeq, e_mIfS, e_mT, e_mBin, e_mUn, e_mNm, e_mNv, e_mF, e_mC, e_mRet, e_mSet, e_mSetIx, e_mApp, e_mExpr, e_mCB, e_mHcons, e_mHnil, e_mAcons, e_mAnil, e_mTup, e_mLst, e_mNx, e_mRetN, e_mIsN, e_mIsi, e_mTru, e_mAnd, e_mOr, e_mNot, e_mV, e_mAndV, e_mOrV, e_mNotV, e_mChain, e_mPar, e_mAsg, e_mFor, e_mItems, e_mRng1, e_mRng2, e_mEnum, e_mRaise, e_mCall, e_mAtt, e_mSetAtt, e_mMeth, e_mAnil0, e_mTry, e_mWh, e_mLc, e_mYes, e_mStar1, e_mPub, e_mAppO, e_mMt, e_mAstar, e_mSl, e_mPart, e_mNoPart, e_mBrk, e_mIf, e_mIx, e_mgName, e_mgTup, e_mgNil, e_mgCons, mDef, mDefV, mDefC, mCallAt, Mi.R.ne,
  Mi.bnd_ok, Mi.bnd_er, Mi.bnd_no, o_ok, o_er, o_no, ne_ok, ne_er, ne_no, Hd.at, rsv, opt, fin, ent, atAll, ownAt, gLt_ii, gLe_ii, gGt_ii, gGe_ii, gAdd, Mi.gSub, gLen, gNeg, gIx, atI_0, atI_1, gEq_int, gNe_int, Sl.d, kdOf, ansT, kI, kB, kT, kL, kS, insAt, tabA, tabS, tabM, List.getD_cons_zero, List.getD_cons_succ, truD, Option.bind_some, Option.bind_none, Option.map_some, Option.map_none,
  List.map_cons, List.map_nil, List.length_cons, List.length_nil, List.replicate_succ, List.replicate_zero, List.cons_append, List.nil_append, List.append_nil, List.getElem?_cons_zero, List.getElem?_cons_succ, List.set_cons_zero, List.set_cons_succ, Nat.reduceAdd, Nat.reduceSub, Nat.reduceLT, Nat.reduceEqDiff, Nat.reduceLeDiff, Nat.zero_add, natLit, le_LIM, lt_LIM, List.take_zero, List.drop_zero, List.take_succ_cons, List.drop_succ_cons, Nat.zero_le, true_and, and_true, and_self, Nat.reduceLeDiff, Int.reduceEq, Int.reduceLT, Int.reduceLE, Int.reduceAdd, Int.reduceSub, Int.reduceMul, Int.reduceNeg, Int.reduceToNat, eq_self_iff_true, reduceIte, if_true, if_false, ite_true, ite_false, Bool.false_eq_true, Bool.not_true, Bool.not_false, Bool.and_true, Bool.true_and, Bool.and_false, Bool.false_and, Bool.or_true, Bool.true_or, decide_true, decide_false, decide_eq_true_eq]
    by_cases n : b < 0
    · have hp : 0 < -b := by omega
      have hs := gcd_small (a := -a) hp (by rw [Int.natAbs_neg]; exact hb)
      simp only [n, ev_gcd _ _ hp, gDiv_ok hs.1 hs.2, (fr_neg n).1, (fr_neg n).2, e_mSeq, e_mIfS, e_mT, e_mBin, e_mUn, e_mNm, e_mNv, e_mF, e_mC, e_mRet, e_mSet, e_mSetIx, e_mApp, e_mExpr, e_mCB, e_mHcons, e_mHnil, e_mAcons, e_mAnil, e_mTup, e_mLst, e_mNx, e_mRetN, e_mIsN, e_mIsi, e_mTru, e_mAnd, e_mOr, e_mNot, e_mV, e_mAndV, e_mOrV, e_mNotV, e_mChain, e_mPar, e_mAsg, e_mFor, e_mItems, e_mRng1, e_mRng2, e_mEnum, e_mRaise, e_mCall, e_mAtt, e_mSetAtt, e_mMeth, e_mAnil0, e_mTry, e_mWh, e_mLc, e_mYes, e_mStar1, e_mPub, e_mAppO, e_mMt, e_mAstar, e_mSl, e_mPart, e_mNoPart, e_mBrk, e_mIf, e_mIx, e_mgName, e_mgTup, e_mgNil, e_mgCons, mDef, mDefV, mDefC, mCallAt, Mi.R.ne,
  Mi.bnd_ok, Mi.bnd_er, Mi.bnd_no, o_ok, o_er, o_no, ne_ok, ne_er, ne_no, Hd.at, rsv, opt, fin, ent, atAll, ownAt, gLt_ii, gLe_ii, gGt_ii, gGe_ii, gAdd, Mi.gSub, gLen, gNeg, gIx, atI_0, atI_1, gEq_int, gNe_int, Sl.d, kdOf, ansT, kI, kB, kT, kL, kS, insAt, tabA, tabS, tabM, List.getD_cons_zero, List.getD_cons_succ, truD, Option.bind_some, Option.bind_none, Option.map_some, Option.map_none,
  List.map_cons, List.map_nil, List.length_cons, List.length_nil, List.replicate_succ, List.replicate_zero, List.cons_append, List.nil_append, List.append_nil, List.getElem?_cons_zero, List.getElem?_cons_succ, List.set_cons_zero, List.set_cons_succ, Nat.reduceAdd, Nat.reduceSub, Nat.reduceLT, Nat.reduceEqDiff, Nat.reduceLeDiff, Nat.zero_add, natLit, le_LIM, lt_LIM, List.take_zero, List.drop_zero, List.take_succ_cons, List.drop_succ_cons, Nat.zero_le, true_and, and_true, and_self, Nat.reduceLeDiff, Int.reduceEq, Int.reduceLT, Int.reduceLE, Int.reduceAdd, Int.reduceSub, Int.reduceMul, Int.reduceNeg, Int.reduceToNat, eq_self_iff_true, reduceIte, if_true, if_false, ite_true, ite_false, Bool.false_eq_true, Bool.not_true, Bool.not_false, Bool.and_true, Bool.true_and, Bool.and_false, Bool.false_and, Bool.or_true, Bool.true_or, decide_true, decide_false, decide_eq_true_eq]

    · have hp : 0 < b := by omega
      have hs := gcd_small (a := a) hp hb
      simp only [n, ev_gcd _ _ hp, gDiv_ok hs.1 hs.2, (fr_pos hp).1, (fr_pos hp).2, e_mSeq, e_mIfS, e_mT, e_mBin, e_mUn, e_mNm, e_mNv, e_mF, e_mC, e_mRet, e_mSet, e_mSetIx, e_mApp, e_mExpr, e_mCB, e_mHcons, e_mHnil, e_mAcons, e_mAnil, e_mTup, e_mLst, e_mNx, e_mRetN, e_mIsN, e_mIsi, e_mTru, e_mAnd, e_mOr, e_mNot, e_mV, e_mAndV, e_mOrV, e_mNotV, e_mChain, e_mPar, e_mAsg, e_mFor, e_mItems, e_mRng1, e_mRng2, e_mEnum, e_mRaise, e_mCall, e_mAtt, e_mSetAtt, e_mMeth, e_mAnil0, e_mTry, e_mWh, e_mLc, e_mYes, e_mStar1, e_mPub, e_mAppO, e_mMt, e_mAstar, e_mSl, e_mPart, e_mNoPart, e_mBrk, e_mIf, e_mIx, e_mgName, e_mgTup, e_mgNil, e_mgCons, mDef, mDefV, mDefC, mCallAt, Mi.R.ne,
  Mi.bnd_ok, Mi.bnd_er, Mi.bnd_no, o_ok, o_er, o_no, ne_ok, ne_er, ne_no, Hd.at, rsv, opt, fin, ent, atAll, ownAt, gLt_ii, gLe_ii, gGt_ii, gGe_ii, gAdd, Mi.gSub, gLen, gNeg, gIx, atI_0, atI_1, gEq_int, gNe_int, Sl.d, kdOf, ansT, kI, kB, kT, kL, kS, insAt, tabA, tabS, tabM, List.getD_cons_zero, List.getD_cons_succ, truD, Option.bind_some, Option.bind_none, Option.map_some, Option.map_none,
  List.map_cons, List.map_nil, List.length_cons, List.length_nil, List.replicate_succ, List.replicate_zero, List.cons_append, List.nil_append, List.append_nil, List.getElem?_cons_zero, List.getElem?_cons_succ, List.set_cons_zero, List.set_cons_succ, Nat.reduceAdd, Nat.reduceSub, Nat.reduceLT, Nat.reduceEqDiff, Nat.reduceLeDiff, Nat.zero_add, natLit, le_LIM, lt_LIM, List.take_zero, List.drop_zero, List.take_succ_cons, List.drop_succ_cons, Nat.zero_le, true_and, and_true, and_self, Nat.reduceLeDiff, Int.reduceEq, Int.reduceLT, Int.reduceLE, Int.reduceAdd, Int.reduceSub, Int.reduceMul, Int.reduceNeg, Int.reduceToNat, eq_self_iff_true, reduceIte, if_true, if_false, ite_true, ite_false, Bool.false_eq_true, Bool.not_true, Bool.not_false, Bool.and_true, Bool.true_and, Bool.and_false, Bool.false_and, Bool.or_true, Bool.true_or, decide_true, decide_false, decide_eq_true_eq]

/-- what is_valid_fraction says -/
def isFr : D → Bool
  | .tup [.int t, .int b] => decide (1 ≤ b) && decide (Int.gcd t b = 1)
  | _ => false
theorem gcd1 {t b : Int} : decide ((Int.gcd t b : Int) = 1) = decide (Int.gcd t b = 1) := by
  rw [decide_eq_decide]; omega
theorem ev_isfr (t b : Int) (S : List Ins) : cf_is_valid_fraction [frD t b] S = .ok (.va (.bl (isFr (frD t b)))) ⟨[], S⟩ := by
  simp only [cf_is_valid_fraction, m_is_valid_fraction]
  simp only [ev_whole_int, e_mSeq, e_mIfS, e_mT, e_mBin, e_mUn, e_mNm, e_mNv, e_mF, e_mC, e_mRet, e_mSet, e_mSetIx, e_mApp, e_mExpr, e_mCB, e_mHcons, e_mHnil, e_mAcons, e_mAnil, e_mTup, e_mLst, e_mNx, e_mRetN, e_mIsN, e_mIsi, e_mTru, e_mAnd, e_mOr, e_mNot, e_mV, e_mAndV, e_mOrV, e_mNotV, e_mChain, e_mPar, e_mAsg, e_mFor, e_mItems, e_mRng1, e_mRng2, e_mEnum, e_mRaise, e_mCall, e_mAtt, e_mSetAtt, e_mMeth, e_mAnil0, e_mTry, e_mWh, e_mLc, e_mYes, e_mStar1, e_mPub, e_mAppO, e_mMt, e_mAstar, e_mSl, e_mPart, e_mNoPart, e_mBrk, e_mIf, e_mIx, e_mgName, e_mgTup, e_mgNil, e_mgCons, mDef, mDefV, mDefC, mCallAt, Mi.R.ne,
  Mi.bnd_ok, Mi.bnd_er, Mi.bnd_no, o_ok, o_er, o_no, ne_ok, ne_er, ne_no, Hd.at, rsv, opt, fin, ent, atAll, ownAt, gLt_ii, gLe_ii, gGt_ii, gGe_ii, gAdd, Mi.gSub, gLen, gNeg, gIx, atI_0, atI_1, gEq_int, gNe_int, Sl.d, kdOf, ansT, kI, kB, kT, kL, kS, insAt, tabA, tabS, tabM, List.getD_cons_zero, List.getD_cons_succ, truD, Option.bind_some, Option.bind_none, Option.map_some, Option.map_none,
  List.map_cons, List.map_nil, List.length_cons, List.length_nil, List.replicate_succ, List.replicate_zero, List.cons_append, List.nil_append, List.append_nil, List.getElem?_cons_zero, List.getElem?_cons_succ, List.set_cons_zero, List.set_cons_succ, Nat.reduceAdd, Nat.reduceSub, Nat.reduceLT, Nat.reduceEqDiff, Nat.reduceLeDiff, Nat.zero_add, natLit, le_LIM, lt_LIM, List.take_zero, List.drop_zero, List.take_succ_cons, List.drop_succ_cons, Nat.zero_le, true_and, and_true, and_self, Nat.reduceLeDiff, Int.reduceEq, Int.reduceLT, Int.reduceLE, Int.reduceAdd, Int.reduceSub, Int.reduceMul, Int.reduceNeg, Int.reduceToNat, eq_self_iff_true, reduceIte, if_true, if_false, ite_true, ite_false, Bool.false_eq_true, Bool.not_true, Bool.not_false, Bool.and_true, Bool.true_and, Bool.and_false, Bool.false_and, Bool.or_true, Bool.true_or, decide_true, decide_false, decide_eq_true_eq]
  by_cases h : 1 ≤ b
  · simp only [h, ev_gcd t b (by omega), isFr, gcd1, e_mSeq, e_mIfS, e_mT, e_mBin, e_mUn, e_mNm, e_mNv, e_mF, e_mC, e_mRet, e_mSet, e_mSetIx, e_mApp, e_mExpr, e_mCB, e_mHcons, e_mHnil, e_mAcons, e_mAnil, e_mTup, e_mLst, e_mNx, e_mRetN, e_mIsN, e_mIsi, e_mTru, e_mAnd, e_mOr, e_mNot, e_mV, e_mAndV, e_mOrV, e_mNotV, e_mChain, e_mPar, e_mAsg, e_mFor, e_mItems, e_mRng1, e_mRng2, e_mEnum, e_mRaise, e_mCall, e_mAtt, e_mSetAtt, e_mMeth, e_mAnil0, e_mTry, e_mWh, e_mLc, e_mYes, e_mStar1, e_mPub, e_mAppO, e_mMt, e_mAstar, e_mSl, e_mPart, e_mNoPart, e_mBrk, e_mIf, e_mIx, e_mgName, e_mgTup, e_mgNil, e_mgCons, mDef, mDefV, mDefC, mCallAt, Mi.R.ne,
  Mi.bnd_ok, Mi.bnd_er, Mi.bnd_no, o_ok, o_er, o_no, ne_ok, ne_er, ne_no, Hd.at, rsv, opt, fin, ent, atAll, ownAt, gLt_ii, gLe_ii, gGt_ii, gGe_ii, gAdd, Mi.gSub, gLen, gNeg, gIx, atI_0, atI_1, gEq_int, gNe_int, Sl.d, kdOf, ansT, kI, kB, kT, kL, kS, insAt, tabA, tabS, tabM, List.getD_cons_zero, List.getD_cons_succ, truD, Option.bind_some, Option.bind_none, Option.map_some, Option.map_none,
  List.map_cons, List.map_nil, List.length_cons, List.length_nil, List.replicate_succ, List.replicate_zero, List.cons_append, List.nil_append, List.append_nil, List.getElem?_cons_zero, List.getElem?_cons_succ, List.set_cons_zero, List.set_cons_succ, Nat.reduceAdd, Nat.reduceSub, Nat.reduceLT, Nat.reduceEqDiff, Nat.reduceLeDiff, Nat.zero_add, natLit, le_LIM, lt_LIM, List.take_zero, List.drop_zero, List.take_succ_cons, List.drop_succ_cons, Nat.zero_le, true_and, and_true, and_self, Nat.reduceLeDiff, Int.reduceEq, Int.reduceLT, Int.reduceLE, Int.reduceAdd, Int.reduceSub, Int.reduceMul, Int.reduceNeg, Int.reduceToNat, eq_self_iff_true, reduceIte, if_true, if_false, ite_true, ite_false, Bool.false_eq_true, Bool.not_true, Bool.not_false, Bool.and_true, Bool.true_and, Bool.and_false, Bool.false_and, Bool.or_true, Bool.true_or, decide_true, decide_false, decide_eq_true_eq]
  · simp only [h, isFr, e_mSeq, e_mIfS, e_mT, e_mBin, e_mUn, e_mNm, e_mNv, e_mF, e_mC, e_mRet, e_mSet, e_mSetIx, e_mApp, e_mExpr, e_mCB, e_mHcons, e_mHnil, e_mAcons, e_mAnil, e_mTup, e_mLst, e_mNx, e_mRetN, e_mIsN, e_mIsi, e_mTru, e_mAnd, e_mOr, e_mNot, e_mV, e_mAndV, e_mOrV, e_mNotV, e_mChain, e_mPar, e_mAsg, e_mFor, e_mItems, e_mRng1, e_mRng2, e_mEnum, e_mRaise, e_mCall, e_mAtt, e_mSetAtt, e_mMeth, e_mAnil0, e_mTry, e_mWh, e_mLc, e_mYes, e_mStar1, e_mPub, e_mAppO, e_mMt, e_mAstar, e_mSl, e_mPart, e_mNoPart, e_mBrk, e_mIf, e_mIx, e_mgName, e_mgTup, e_mgNil, e_mgCons, mDef, mDefV, mDefC, mCallAt, Mi.R.ne,
  Mi.bnd_ok, Mi.bnd_er, Mi.bnd_no, o_ok, o_er, o_no, ne_ok, ne_er, ne_no, Hd.at, rsv, opt, fin, ent, atAll, ownAt, gLt_ii, gLe_ii, gGt_ii, gGe_ii, gAdd, Mi.gSub, gLen, gNeg, gIx, atI_0, atI_1, gEq_int, gNe_int, Sl.d, kdOf, ansT, kI, kB, kT, kL, kS, insAt, tabA, tabS, tabM, List.getD_cons_zero, List.getD_cons_succ, truD, Option.bind_some, Option.bind_none, Option.map_some, Option.map_none,
  List.map_cons, List.map_nil, List.length_cons, List.length_nil, List.replicate_succ, List.replicate_zero, List.cons_append, List.nil_append, List.append_nil, List.getElem?_cons_zero, List.getElem?_cons_succ, List.set_cons_zero, List.set_cons_succ, Nat.reduceAdd, Nat.reduceSub, Nat.reduceLT, Nat.reduceEqDiff, Nat.reduceLeDiff, Nat.zero_add, natLit, le_LIM, lt_LIM, List.take_zero, List.drop_zero, List.take_succ_cons, List.drop_succ_cons, Nat.zero_le, true_and, and_true, and_self, Nat.reduceLeDiff, Int.reduceEq, Int.reduceLT, Int.reduceLE, Int.reduceAdd, Int.reduceSub, Int.reduceMul, Int.reduceNeg, Int.reduceToNat, eq_self_iff_true, reduceIte, if_true, if_false, ite_true, ite_false, Bool.false_eq_true, Bool.not_true, Bool.not_false, Bool.and_true, Bool.true_and, Bool.and_false, Bool.false_and, Bool.or_true, Bool.true_or, decide_true, decide_false, decide_eq_true_eq]
theorem ev_pos (t b : Int) (S : List Ins) : cf_is_positive_fraction [frD t b] S = .ok (.va (.bl (isFr (frD t b) && decide (0 < t)))) ⟨[], S⟩ := by
  simp only [cf_is_positive_fraction, m_is_positive_fraction]
  simp only [ev_isfr, e_mSeq, e_mIfS, e_mT, e_mBin, e_mUn, e_mNm, e_mNv, e_mF, e_mC, e_mRet, e_mSet, e_mSetIx, e_mApp, e_mExpr, e_mCB, e_mHcons, e_mHnil, e_mAcons, e_mAnil, e_mTup, e_mLst, e_mNx, e_mRetN, e_mIsN, e_mIsi, e_mTru, e_mAnd, e_mOr, e_mNot, e_mV, e_mAndV, e_mOrV, e_mNotV, e_mChain, e_mPar, e_mAsg, e_mFor, e_mItems, e_mRng1, e_mRng2, e_mEnum, e_mRaise, e_mCall, e_mAtt, e_mSetAtt, e_mMeth, e_mAnil0, e_mTry, e_mWh, e_mLc, e_mYes, e_mStar1, e_mPub, e_mAppO, e_mMt, e_mAstar, e_mSl, e_mPart, e_mNoPart, e_mBrk, e_mIf, e_mIx, e_mgName, e_mgTup, e_mgNil, e_mgCons, mDef, mDefV, mDefC, mCallAt, Mi.R.ne,
  Mi.bnd_ok, Mi.bnd_er, Mi.bnd_no, o_ok, o_er, o_no, ne_ok, ne_er, ne_no, Hd.at, rsv, opt, fin, ent, atAll, ownAt, gLt_ii, gLe_ii, gGt_ii, gGe_ii, gAdd, Mi.gSub, gLen, gNeg, gIx, atI_0, atI_1, gEq_int, gNe_int, Sl.d, kdOf, ansT, kI, kB, kT, kL, kS, insAt, tabA, tabS, tabM, List.getD_cons_zero, List.getD_cons_succ, truD, Option.bind_some, Option.bind_none, Option.map_some, Option.map_none,
  List.map_cons, List.map_nil, List.length_cons, List.length_nil, List.replicate_succ, List.replicate_zero, List.cons_append, List.nil_append, List.append_nil, List.getElem?_cons_zero, List.getElem?_cons_succ, List.set_cons_zero, List.set_cons_succ, Nat.reduceAdd, Nat.reduceSub, Nat.reduceLT, Nat.reduceEqDiff, Nat.reduceLeDiff, Nat.zero_add, natLit, le_LIM, lt_LIM, List.take_zero, List.drop_zero, List.take_succ_cons, List.drop_succ_cons, Nat.zero_le, true_and, and_true, and_self, Nat.reduceLeDiff, Int.reduceEq, Int.reduceLT, Int.reduceLE, Int.reduceAdd, Int.reduceSub, Int.reduceMul, Int.reduceNeg, Int.reduceToNat, eq_self_iff_true, reduceIte, if_true, if_false, ite_true, ite_false, Bool.false_eq_true, Bool.not_true, Bool.not_false, Bool.and_true, Bool.true_and, Bool.and_false, Bool.false_and, Bool.or_true, Bool.true_or, decide_true, decide_false, decide_eq_true_eq]
  cases isFr (frD t b)
  · simp only [e_mSeq, e_mIfS, e_mT, e_mBin, e_mUn, e_mNm, e_mNv, e_mF, e_mC, e_mRet, e_mSet, e_mSetIx, e_mApp, e_mExpr, e_mCB, e_mHcons, e_mHnil, e_mAcons, e_mAnil, e_mTup, e_mLst, e_mNx, e_mRetN, e_mIsN, e_mIsi, e_mTru, e_mAnd, e_mOr, e_mNot, e_mV, e_mAndV, e_mOrV, e_mNotV, e_mChain, e_mPar, e_mAsg, e_mFor, e_mItems, e_mRng1, e_mRng2, e_mEnum, e_mRaise, e_mCall, e_mAtt, e_mSetAtt, e_mMeth, e_mAnil0, e_mTry, e_mWh, e_mLc, e_mYes, e_mStar1, e_mPub, e_mAppO, e_mMt, e_mAstar, e_mSl, e_mPart, e_mNoPart, e_mBrk, e_mIf, e_mIx, e_mgName, e_mgTup, e_mgNil, e_mgCons, mDef, mDefV, mDefC, mCallAt, Mi.R.ne,
  Mi.bnd_ok, Mi.bnd_er, Mi.bnd_no, o_ok, o_er, o_no, ne_ok, ne_er, ne_no, Hd.at, rsv, opt, fin, ent, atAll, ownAt, gLt_ii, gLe_ii, gGt_ii, gGe_ii, gAdd, Mi.gSub, gLen, gNeg, gIx, atI_0, atI_1, gEq_int, gNe_int, Sl.d, kdOf, ansT, kI, kB, kT, kL, kS, insAt, tabA, tabS, tabM, List.getD_cons_zero, List.getD_cons_succ, truD, Option.bind_some, Option.bind_none, Option.map_some, Option.map_none,
  List.map_cons, List.map_nil, List.length_cons, List.length_nil, List.replicate_succ, List.replicate_zero, List.cons_append, List.nil_append, List.append_nil, List.getElem?_cons_zero, List.getElem?_cons_succ, List.set_cons_zero, List.set_cons_succ, Nat.reduceAdd, Nat.reduceSub, Nat.reduceLT, Nat.reduceEqDiff, Nat.reduceLeDiff, Nat.zero_add, natLit, le_LIM, lt_LIM, List.take_zero, List.drop_zero, List.take_succ_cons, List.drop_succ_cons, Nat.zero_le, true_and, and_true, and_self, Nat.reduceLeDiff, Int.reduceEq, Int.reduceLT, Int.reduceLE, Int.reduceAdd, Int.reduceSub, Int.reduceMul, Int.reduceNeg, Int.reduceToNat, eq_self_iff_true, reduceIte, if_true, if_false, ite_true, ite_false, Bool.false_eq_true, Bool.not_true, Bool.not_false, Bool.and_true, Bool.true_and, Bool.and_false, Bool.false_and, Bool.or_true, Bool.true_or, decide_true, decide_false, decide_eq_true_eq]
  · simp only [e_mSeq, e_mIfS, e_mT, e_mBin, e_mUn, e_mNm, e_mNv, e_mF, e_mC, e_mRet, e_mSet, e_mSetIx, e_mApp, e_mExpr, e_mCB, e_mHcons, e_mHnil, e_mAcons, e_mAnil, e_mTup, e_mLst, e_mNx, e_mRetN, e_mIsN, e_mIsi, e_mTru, e_mAnd, e_mOr, e_mNot, e_mV, e_mAndV, e_mOrV, e_mNotV, e_mChain, e_mPar, e_mAsg, e_mFor, e_mItems, e_mRng1, e_mRng2, e_mEnum, e_mRaise, e_mCall, e_mAtt, e_mSetAtt, e_mMeth, e_mAnil0, e_mTry, e_mWh, e_mLc, e_mYes, e_mStar1, e_mPub, e_mAppO, e_mMt, e_mAstar, e_mSl, e_mPart, e_mNoPart, e_mBrk, e_mIf, e_mIx, e_mgName, e_mgTup, e_mgNil, e_mgCons, mDef, mDefV, mDefC, mCallAt, Mi.R.ne,
  Mi.bnd_ok, Mi.bnd_er, Mi.bnd_no, o_ok, o_er, o_no, ne_ok, ne_er, ne_no, Hd.at, rsv, opt, fin, ent, atAll, ownAt, gLt_ii, gLe_ii, gGt_ii, gGe_ii, gAdd, Mi.gSub, gLen, gNeg, gIx, atI_0, atI_1, gEq_int, gNe_int, Sl.d, kdOf, ansT, kI, kB, kT, kL, kS, insAt, tabA, tabS, tabM, List.getD_cons_zero, List.getD_cons_succ, truD, Option.bind_some, Option.bind_none, Option.map_some, Option.map_none,
  List.map_cons, List.map_nil, List.length_cons, List.length_nil, List.replicate_succ, List.replicate_zero, List.cons_append, List.nil_append, List.append_nil, List.getElem?_cons_zero, List.getElem?_cons_succ, List.set_cons_zero, List.set_cons_succ, Nat.reduceAdd, Nat.reduceSub, Nat.reduceLT, Nat.reduceEqDiff, Nat.reduceLeDiff, Nat.zero_add, natLit, le_LIM, lt_LIM, List.take_zero, List.drop_zero, List.take_succ_cons, List.drop_succ_cons, Nat.zero_le, true_and, and_true, and_self, Nat.reduceLeDiff, Int.reduceEq, Int.reduceLT, Int.reduceLE, Int.reduceAdd, Int.reduceSub, Int.reduceMul, Int.reduceNeg, Int.reduceToNat, eq_self_iff_true, reduceIte, if_true, if_false, ite_true, ite_false, Bool.false_eq_true, Bool.not_true, Bool.not_false, Bool.and_true, Bool.true_and, Bool.and_false, Bool.false_and, Bool.or_true, Bool.true_or, decide_true, decide_false, decide_eq_true_eq]
theorem forL_check (S : List Ins) (x : Sl) : ∀ (ds : List D) (y : Sl), (∀ d ∈ ds, ∃ t b, d = frD t b ∧ isFr (frD t b) = true) →
    ∃ y', forL fg_check_fractions1 fb_check_fractions1 ds ⟨[x, y], S⟩ = .nx ⟨[x, y'], S⟩
  | [], y, _ => ⟨y, rfl⟩
  | d :: ds, y, h => by
    obtain ⟨t, b, rfl, hf⟩ := h d List.mem_cons_self
    obtain ⟨y', e⟩ := forL_check S x ds (.va (frD t b)) fun d m => h d (List.mem_cons_of_mem _ m)
    refine ⟨y', ?_⟩
    rw [← e, forL]
    simp only [fg_check_fractions1, fb_check_fractions1, ev_isfr, hf, e_mSeq, e_mIfS, e_mT, e_mBin, e_mUn, e_mNm, e_mNv, e_mF, e_mC, e_mRet, e_mSet, e_mSetIx, e_mApp, e_mExpr, e_mCB, e_mHcons, e_mHnil, e_mAcons, e_mAnil, e_mTup, e_mLst, e_mNx, e_mRetN, e_mIsN, e_mIsi, e_mTru, e_mAnd, e_mOr, e_mNot, e_mV, e_mAndV, e_mOrV, e_mNotV, e_mChain, e_mPar, e_mAsg, e_mFor, e_mItems, e_mRng1, e_mRng2, e_mEnum, e_mRaise, e_mCall, e_mAtt, e_mSetAtt, e_mMeth, e_mAnil0, e_mTry, e_mWh, e_mLc, e_mYes, e_mStar1, e_mPub, e_mAppO, e_mMt, e_mAstar, e_mSl, e_mPart, e_mNoPart, e_mBrk, e_mIf, e_mIx, e_mgName, e_mgTup, e_mgNil, e_mgCons, mDef, mDefV, mDefC, mCallAt, Mi.R.ne,
  Mi.bnd_ok, Mi.bnd_er, Mi.bnd_no, o_ok, o_er, o_no, ne_ok, ne_er, ne_no, Hd.at, rsv, opt, fin, ent, atAll, ownAt, gLt_ii, gLe_ii, gGt_ii, gGe_ii, gAdd, Mi.gSub, gLen, gNeg, gIx, atI_0, atI_1, gEq_int, gNe_int, Sl.d, kdOf, ansT, kI, kB, kT, kL, kS, insAt, tabA, tabS, tabM, List.getD_cons_zero, List.getD_cons_succ, truD, Option.bind_some, Option.bind_none, Option.map_some, Option.map_none,
  List.map_cons, List.map_nil, List.length_cons, List.length_nil, List.replicate_succ, List.replicate_zero, List.cons_append, List.nil_append, List.append_nil, List.getElem?_cons_zero, List.getElem?_cons_succ, List.set_cons_zero, List.set_cons_succ, Nat.reduceAdd, Nat.reduceSub, Nat.reduceLT, Nat.reduceEqDiff, Nat.reduceLeDiff, Nat.zero_add, natLit, le_LIM, lt_LIM, List.take_zero, List.drop_zero, List.take_succ_cons, List.drop_succ_cons, Nat.zero_le, true_and, and_true, and_self, Nat.reduceLeDiff, Int.reduceEq, Int.reduceLT, Int.reduceLE, Int.reduceAdd, Int.reduceSub, Int.reduceMul, Int.reduceNeg, Int.reduceToNat, eq_self_iff_true, reduceIte, if_true, if_false, ite_true, ite_false, Bool.false_eq_true, Bool.not_true, Bool.not_false, Bool.and_true, Bool.true_and, Bool.and_false, Bool.false_and, Bool.or_true, Bool.true_or, decide_true, decide_false, decide_eq_true_eq]
def isFrs (ds : List D) : Prop := ∀ d ∈ ds, ∃ t b, d = frD t b ∧ isFr (frD t b) = true
theorem ev_check (ds : List D) (h : isFrs ds) (S : List Ins) : cf_check_fractions [.tup ds] S = .ok (.va .non) ⟨[], S⟩ := by
  obtain ⟨y', e⟩ := forL_check S (.va (.tup ds)) ds .un h
  simp only [cf_check_fractions, m_check_fractions]
  simp only [e, e_mSeq, e_mIfS, e_mT, e_mBin, e_mUn, e_mNm, e_mNv, e_mF, e_mC, e_mRet, e_mSet, e_mSetIx, e_mApp, e_mExpr, e_mCB, e_mHcons, e_mHnil, e_mAcons, e_mAnil, e_mTup, e_mLst, e_mNx, e_mRetN, e_mIsN, e_mIsi, e_mTru, e_mAnd, e_mOr, e_mNot, e_mV, e_mAndV, e_mOrV, e_mNotV, e_mChain, e_mPar, e_mAsg, e_mFor, e_mItems, e_mRng1, e_mRng2, e_mEnum, e_mRaise, e_mCall, e_mAtt, e_mSetAtt, e_mMeth, e_mAnil0, e_mTry, e_mWh, e_mLc, e_mYes, e_mStar1, e_mPub, e_mAppO, e_mMt, e_mAstar, e_mSl, e_mPart, e_mNoPart, e_mBrk, e_mIf, e_mIx, e_mgName, e_mgTup, e_mgNil, e_mgCons, mDef, mDefV, mDefC, mCallAt, Mi.R.ne,
  Mi.bnd_ok, Mi.bnd_er, Mi.bnd_no, o_ok, o_er, o_no, ne_ok, ne_er, ne_no, Hd.at, rsv, opt, fin, ent, atAll, ownAt, gLt_ii, gLe_ii, gGt_ii, gGe_ii, gAdd, Mi.gSub, gLen, gNeg, gIx, atI_0, atI_1, gEq_int, gNe_int, Sl.d, kdOf, ansT, kI, kB, kT, kL, kS, insAt, tabA, tabS, tabM, List.getD_cons_zero, List.getD_cons_succ, truD, Option.bind_some, Option.bind_none, Option.map_some, Option.map_none,
  List.map_cons, List.map_nil, List.length_cons, List.length_nil, List.replicate_succ, List.replicate_zero, List.cons_append, List.nil_append, List.append_nil, List.getElem?_cons_zero, List.getElem?_cons_succ, List.set_cons_zero, List.set_cons_succ, Nat.reduceAdd, Nat.reduceSub, Nat.reduceLT, Nat.reduceEqDiff, Nat.reduceLeDiff, Nat.zero_add, natLit, le_LIM, lt_LIM, List.take_zero, List.drop_zero, List.take_succ_cons, List.drop_succ_cons, Nat.zero_le, true_and, and_true, and_self, Nat.reduceLeDiff, Int.reduceEq, Int.reduceLT, Int.reduceLE, Int.reduceAdd, Int.reduceSub, Int.reduceMul, Int.reduceNeg, Int.reduceToNat, eq_self_iff_true, reduceIte, if_true, if_false, ite_true, ite_false, Bool.false_eq_true, Bool.not_true, Bool.not_false, Bool.and_true, Bool.true_and, Bool.and_false, Bool.false_and, Bool.or_true, Bool.true_or, decide_true, decide_false, decide_eq_true_eq]
end Lw

set_option exponentiation.threshold 100000
namespace Lw
open PySem Mi
theorem gMul_int {i j : Int} (hi : i.natAbs < 2 ^ 7000) (hj : j.natAbs < 2 ^ 7000) : gMul (.int i) (.int j) = some (.va (.int (i * j))) := by
  have h : (2 : Nat) ^ 7000 ≤ BIG := by unfold BIG; exact Nat.pow_le_pow_right (by decide) (by decide)
  have e : mulOk i j = true := by
    unfold mulOk
    rw [decide_eq_true (Nat.lt_of_lt_of_le hi h), decide_eq_true (Nat.lt_of_lt_of_le hj h)]
    simp
  simp only [gMul]
  rw [if_pos e]
abbrev Fr := Int × Int
def Fr.d (x : Fr) : D := frD x.1 x.2
def addF (x y : Fr) : Fr := (Wr.frT (x.1 * y.2 + y.1 * x.2) (x.2 * y.2), Wr.frB (x.1 * y.2 + y.1 * x.2) (x.2 * y.2))
/-- no larger than that, the bottom positive -/
def Fr.le (p : Nat) (x : Fr) : Prop := x.1.natAbs ≤ 2 ^ p ∧ x.2.natAbs ≤ 2 ^ p ∧ 0 < x.2
theorem Fr.le.mono {p q : Nat} {x : Fr} (h : x.le p) (hq : p ≤ q) : x.le q :=
  ⟨Nat.le_trans h.1 (Nat.pow_le_pow_right (by decide) hq), Nat.le_trans h.2.1 (Nat.pow_le_pow_right (by decide) hq), h.2.2⟩
theorem lt7000 {p : Nat} {n : Nat} (h : n ≤ 2 ^ p) (hp : p < 7000) : n < 2 ^ 7000 := Nat.lt_of_le_of_lt h (Nat.pow_lt_pow_right (by decide) hp)
theorem frB_pos {t b : Int} (h : b ≠ 0) : 0 < Wr.frB t b := by
  unfold Wr.frB
  have h1 := Wr.gcd_posR (t := t) h
  have h2 : ((Int.gcd t b : Nat) : Int) ∣ b := Int.gcd_dvd_right ..
  by_cases n : b < 0
  · rw [if_pos n]
    obtain ⟨k, e⟩ := h2
    have : -b = ((Int.gcd t b : Nat) : Int) * (-k) := by rw [Int.mul_neg, ← e]
    rw [this, Int.mul_ediv_cancel_left _ (by omega)]
    by_cases z : 0 < -k
    · exact z
    · exfalso
      have : 0 ≤ ((Int.gcd t b : Nat) : Int) * k := Int.mul_nonneg (by omega) (by omega)
      omega
  · rw [if_neg n]
    obtain ⟨k, e⟩ := h2
    have hk : b / ((Int.gcd t b : Nat) : Int) = k := Int.ediv_eq_of_eq_mul_right (by omega) e
    rw [hk]
    by_cases z : 0 < k
    · exact z
    · exfalso
      have : ((Int.gcd t b : Nat) : Int) * k ≤ 0 := Int.mul_nonpos_of_nonneg_of_nonpos (by omega) (by omega)
      omega
theorem addF_le {p M : Nat} {x y : Fr} (hx : x.le p) (hy : y.le M) : (addF x y).le (p + M + 1) := by
  obtain ⟨x1, x2, x3⟩ := hx
  obtain ⟨y1, y2, y3⟩ := hy
  have nb : x.2 * y.2 ≠ 0 := Int.mul_ne_zero (by omega) (by omega)
  have m1 : (x.1 * y.2).natAbs ≤ 2 ^ (p + M) := by rw [Int.natAbs_mul, Nat.pow_add]; exact Nat.mul_le_mul x1 y2
  have m2 : (y.1 * x.2).natAbs ≤ 2 ^ (p + M) := by rw [Int.natAbs_mul, Nat.pow_add, Nat.mul_comm]; exact Nat.mul_le_mul x2 y1
  have m3 : (x.2 * y.2).natAbs ≤ 2 ^ (p + M) := by rw [Int.natAbs_mul, Nat.pow_add]; exact Nat.mul_le_mul x2 y2
  have e : 2 ^ (p + M + 1) = 2 ^ (p + M) + 2 ^ (p + M) := by rw [Nat.pow_succ]; omega
  refine ⟨Nat.le_trans (Wr.frT_le nb) ?_, Nat.le_trans (Wr.frB_le nb) ?_, frB_pos nb⟩
  · have := Int.natAbs_add_le (x.1 * y.2) (y.1 * x.2); omega
  · omega
theorem forL_total (S : List Ins) (M : Nat) (T : Sl) : ∀ (ys : List Fr) (x : Fr) (p : Nat) (s2 s3 : Sl), (∀ y ∈ ys, y.le M) → x.le p → p + (M + 1) * ys.length < 3000 → M < 3000 →
    ∃ s2' s3', forL fg_total1 fb_total1 (ys.map Fr.d) ⟨[T, .va x.d, s2, s3], S⟩ = .nx ⟨[T, .va (ys.foldl addF x).d, s2', s3'], S⟩
  | [], x, p, s2, s3, _, _, _, _ => ⟨s2, s3, rfl⟩
  | y :: ys, x, p, s2, s3, hy, hx, hp, hM => by
    have h1 := hy y List.mem_cons_self
    have e0 : (M + 1) * (y :: ys).length = (M + 1) * ys.length + (M + 1) := by rw [List.length_cons, Nat.mul_succ]
    rw [e0] at hp
    have hp' : p < 3000 := by omega
    obtain ⟨s2', s3', e⟩ := forL_total S M T ys (addF x y) (p + M + 1) (.va y.d) (.va (.int (x.1 * y.2 + y.1 * x.2))) (fun z m => hy z (List.mem_cons_of_mem _ m)) (addF_le hx h1) (by omega) hM
    refine ⟨s2', s3', ?_⟩
    rw [List.foldl_cons, ← e, List.map_cons, forL]
    obtain ⟨x1, x2⟩ := x
    obtain ⟨y1, y2⟩ := y
    obtain ⟨a1, a2, a3⟩ := hx
    obtain ⟨b1, b2, b3⟩ := h1
    have nb : x2 * y2 ≠ 0 := Int.mul_ne_zero (Int.ne_of_gt a3) (Int.ne_of_gt b3)
    have m3 : (x2 * y2).natAbs < 2 ^ 7000 := by
      rw [Int.natAbs_mul]
      refine lt7000 (p := p + M) ?_ (by omega)
      rw [Nat.pow_add]; exact Nat.mul_le_mul a2 b2
    simp only [fg_total1, fb_total1, Fr.d, gMul_int (lt7000 a1 (by omega)) (lt7000 b2 (by omega)), gMul_int (lt7000 b1 (by omega)) (lt7000 a2 (by omega)), gMul_int (lt7000 a2 (by omega)) (lt7000 b2 (by omega)), ev_fraction _ _ m3, nb, addF, e_mSeq, e_mIfS, e_mT, e_mBin, e_mUn, e_mNm, e_mNv, e_mF, e_mC, e_mRet, e_mSet, e_mSetIx, e_mApp, e_mExpr, e_mCB, e_mHcons, e_mHnil, e_mAcons, e_mAnil, e_mTup, e_mLst, e_mNx, e_mRetN, e_mIsN, e_mIsi, e_mTru, e_mAnd, e_mOr, e_mNot, e_mV, e_mAndV, e_mOrV, e_mNotV, e_mChain, e_mPar, e_mAsg, e_mFor, e_mItems, e_mRng1, e_mRng2, e_mEnum, e_mRaise, e_mCall, e_mAtt, e_mSetAtt, e_mMeth, e_mAnil0, e_mTry, e_mWh, e_mLc, e_mYes, e_mStar1, e_mPub, e_mAppO, e_mMt, e_mAstar, e_mSl, e_mPart, e_mNoPart, e_mBrk, e_mIf, e_mIx, e_mgName, e_mgTup, e_mgNil, e_mgCons, mDef, mDefV, mDefC, mCallAt, Mi.R.ne,
  Mi.bnd_ok, Mi.bnd_er, Mi.bnd_no, o_ok, o_er, o_no, ne_ok, ne_er, ne_no, Hd.at, rsv, opt, fin, ent, atAll, ownAt, gLt_ii, gLe_ii, gGt_ii, gGe_ii, gAdd, Mi.gSub, gLen, gNeg, gIx, atI_0, atI_1, gEq_int, gNe_int, Sl.d, kdOf, ansT, kI, kB, kT, kL, kS, insAt, tabA, tabS, tabM, List.getD_cons_zero, List.getD_cons_succ, truD, Option.bind_some, Option.bind_none, Option.map_some, Option.map_none,
  List.map_cons, List.map_nil, List.length_cons, List.length_nil, List.replicate_succ, List.replicate_zero, List.cons_append, List.nil_append, List.append_nil, List.getElem?_cons_zero, List.getElem?_cons_succ, List.set_cons_zero, List.set_cons_succ, Nat.reduceAdd, Nat.reduceSub, Nat.reduceLT, Nat.reduceEqDiff, Nat.reduceLeDiff, Nat.zero_add, natLit, le_LIM, lt_LIM, List.take_zero, List.drop_zero, List.take_succ_cons, List.drop_succ_cons, Nat.zero_le, true_and, and_true, and_self, Nat.reduceLeDiff, Int.reduceEq, Int.reduceLT, Int.reduceLE, Int.reduceAdd, Int.reduceSub, Int.reduceMul, Int.reduceNeg, Int.reduceToNat, eq_self_iff_true, reduceIte, if_true, if_false, ite_true, ite_false, Bool.false_eq_true, Bool.not_true, Bool.not_false, Bool.and_true, Bool.true_and, Bool.and_false, Bool.false_and, Bool.or_true, Bool.true_or, decide_true, decide_false, decide_eq_true_eq]
def totF (ys : List Fr) : Fr := ys.foldl addF (0, 1)
theorem ev_total (ys : List Fr) (M : Nat) (hM : (M + 1) * ys.length < 2999) (hM2 : M < 3000) (hy : ∀ y ∈ ys, y.le M) (hf : ∀ y ∈ ys, isFr y.d = true) (hl : ys.length < LIM) (S : List Ins) : cf_total (ys.map Fr.d) S = .ok (.va (totF ys).d) ⟨[], S⟩ := by
  have hc := ev_check (ys.map Fr.d) (fun d m => by
    obtain ⟨y, hm, rfl⟩ := List.mem_map.mp m
    exact ⟨y.1, y.2, rfl, hf y hm⟩) S
  obtain ⟨s2', s3', e⟩ := forL_total S M (.va (.tup (ys.map Fr.d))) ys (0, 1) 0 .un .un hy ⟨by decide, by decide, by decide⟩ (by omega) hM2
  simp only [cf_total, m_total]
  simp only [List.length_map, hl, hc, e_mSeq, e_mIfS, e_mT, e_mBin, e_mUn, e_mNm, e_mNv, e_mF, e_mC, e_mRet, e_mSet, e_mSetIx, e_mApp, e_mExpr, e_mCB, e_mHcons, e_mHnil, e_mAcons, e_mAnil, e_mTup, e_mLst, e_mNx, e_mRetN, e_mIsN, e_mIsi, e_mTru, e_mAnd, e_mOr, e_mNot, e_mV, e_mAndV, e_mOrV, e_mNotV, e_mChain, e_mPar, e_mAsg, e_mFor, e_mItems, e_mRng1, e_mRng2, e_mEnum, e_mRaise, e_mCall, e_mAtt, e_mSetAtt, e_mMeth, e_mAnil0, e_mTry, e_mWh, e_mLc, e_mYes, e_mStar1, e_mPub, e_mAppO, e_mMt, e_mAstar, e_mSl, e_mPart, e_mNoPart, e_mBrk, e_mIf, e_mIx, e_mgName, e_mgTup, e_mgNil, e_mgCons, mDef, mDefV, mDefC, mCallAt, Mi.R.ne,
  Mi.bnd_ok, Mi.bnd_er, Mi.bnd_no, o_ok, o_er, o_no, ne_ok, ne_er, ne_no, Hd.at, rsv, opt, fin, ent, atAll, ownAt, gLt_ii, gLe_ii, gGt_ii, gGe_ii, gAdd, Mi.gSub, gLen, gNeg, gIx, atI_0, atI_1, gEq_int, gNe_int, Sl.d, kdOf, ansT, kI, kB, kT, kL, kS, insAt, tabA, tabS, tabM, List.getD_cons_zero, List.getD_cons_succ, truD, Option.bind_some, Option.bind_none, Option.map_some, Option.map_none,
  List.map_cons, List.map_nil, List.length_cons, List.length_nil, List.replicate_succ, List.replicate_zero, List.cons_append, List.nil_append, List.append_nil, List.getElem?_cons_zero, List.getElem?_cons_succ, List.set_cons_zero, List.set_cons_succ, Nat.reduceAdd, Nat.reduceSub, Nat.reduceLT, Nat.reduceEqDiff, Nat.reduceLeDiff, Nat.zero_add, natLit, le_LIM, lt_LIM, List.take_zero, List.drop_zero, List.take_succ_cons, List.drop_succ_cons, Nat.zero_le, true_and, and_true, and_self, Nat.reduceLeDiff, Int.reduceEq, Int.reduceLT, Int.reduceLE, Int.reduceAdd, Int.reduceSub, Int.reduceMul, Int.reduceNeg, Int.reduceToNat, eq_self_iff_true, reduceIte, if_true, if_false, ite_true, ite_false, Bool.false_eq_true, Bool.not_true, Bool.not_false, Bool.and_true, Bool.true_and, Bool.and_false, Bool.false_and, Bool.or_true, Bool.true_or, decide_true, decide_false, decide_eq_true_eq]
  simp only [Fr.d] at e
  simp only [e, Fr.d, totF, e_mSeq, e_mIfS, e_mT, e_mBin, e_mUn, e_mNm, e_mNv, e_mF, e_mC, e_mRet, e_mSet, e_mSetIx, e_mApp, e_mExpr, e_mCB, e_mHcons, e_mHnil, e_mAcons, e_mAnil, e_mTup, e_mLst, e_mNx, e_mRetN, e_mIsN, e_mIsi, e_mTru, e_mAnd, e_mOr, e_mNot, e_mV, e_mAndV, e_mOrV, e_mNotV, e_mChain, e_mPar, e_mAsg, e_mFor, e_mItems, e_mRng1, e_mRng2, e_mEnum, e_mRaise, e_mCall, e_mAtt, e_mSetAtt, e_mMeth, e_mAnil0, e_mTry, e_mWh, e_mLc, e_mYes, e_mStar1, e_mPub, e_mAppO, e_mMt, e_mAstar, e_mSl, e_mPart, e_mNoPart, e_mBrk, e_mIf, e_mIx, e_mgName, e_mgTup, e_mgNil, e_mgCons, mDef, mDefV, mDefC, mCallAt, Mi.R.ne,
  Mi.bnd_ok, Mi.bnd_er, Mi.bnd_no, o_ok, o_er, o_no, ne_ok, ne_er, ne_no, Hd.at, rsv, opt, fin, ent, atAll, ownAt, gLt_ii, gLe_ii, gGt_ii, gGe_ii, gAdd, Mi.gSub, gLen, gNeg, gIx, atI_0, atI_1, gEq_int, gNe_int, Sl.d, kdOf, ansT, kI, kB, kT, kL, kS, insAt, tabA, tabS, tabM, List.getD_cons_zero, List.getD_cons_succ, truD, Option.bind_some, Option.bind_none, Option.map_some, Option.map_none,
  List.map_cons, List.map_nil, List.length_cons, List.length_nil, List.replicate_succ, List.replicate_zero, List.cons_append, List.nil_append, List.append_nil, List.getElem?_cons_zero, List.getElem?_cons_succ, List.set_cons_zero, List.set_cons_succ, Nat.reduceAdd, Nat.reduceSub, Nat.reduceLT, Nat.reduceEqDiff, Nat.reduceLeDiff, Nat.zero_add, natLit, le_LIM, lt_LIM, List.take_zero, List.drop_zero, List.take_succ_cons, List.drop_succ_cons, Nat.zero_le, true_and, and_true, and_self, Nat.reduceLeDiff, Int.reduceEq, Int.reduceLT, Int.reduceLE, Int.reduceAdd, Int.reduceSub, Int.reduceMul, Int.reduceNeg, Int.reduceToNat, eq_self_iff_true, reduceIte, if_true, if_false, ite_true, ite_false, Bool.false_eq_true, Bool.not_true, Bool.not_false, Bool.and_true, Bool.true_and, Bool.and_false, Bool.false_and, Bool.or_true, Bool.true_or, decide_true, decide_false, decide_eq_true_eq]
end Lw

set_option exponentiation.threshold 100000
namespace Lw
open PySem Mi
theorem coF {t b : Int} (hb : 0 < b) : ∃ g t' b' : Int, 0 < g ∧ t = g * t' ∧ b = g * b' ∧ Int.gcd t' b' = 1 ∧ 0 < b' ∧ Wr.frT t b = t' ∧ Wr.frB t b = b' := by
  have hg : 0 < Int.gcd t b := Int.gcd_pos_of_ne_zero_right t (by omega)
  have hg' : (0 : Int) < (Int.gcd t b : Nat) := by omega
  have d1 : ((Int.gcd t b : Nat) : Int) ∣ t := Int.gcd_dvd_left ..
  have d2 : ((Int.gcd t b : Nat) : Int) ∣ b := Int.gcd_dvd_right ..
  refine ⟨(Int.gcd t b : Nat), t / (Int.gcd t b : Nat), b / (Int.gcd t b : Nat), hg', (Int.mul_ediv_cancel' d1).symm, (Int.mul_ediv_cancel' d2).symm, Int.gcd_ediv_gcd_ediv_gcd hg, ?_, ?_, ?_⟩
  · exact Int.ediv_pos_of_pos_of_dvd hb (by omega) d2
  · unfold Wr.frT; rw [if_neg (by omega)]
  · unfold Wr.frB; rw [if_neg (by omega)]
theorem dvd_cop {a b c : Int} (h : a ∣ b * c) (g : Int.gcd a b = 1) : a ∣ c := by
  have z := Int.dvd_gcd_mul_iff_dvd_mul.mpr h
  rw [g] at z
  simpa using z
/-- t / b in lowest terms -/
def lo (t b : Int) : Fr := (Wr.frT t b, Wr.frB t b)
theorem lo_eq {t b s d : Int} (hb : 0 < b) (hd : 0 < d) (h : t * d = s * b) : lo t b = lo s d := by
  unfold lo
  obtain ⟨g, t', b', g0, rfl, rfl, c1, p1, e1, e2⟩ := coF (t := t) hb
  obtain ⟨k, s', d', k0, rfl, rfl, c2, p2, e3, e4⟩ := coF (t := s) hd
  rw [e1, e2, e3, e4]
  have hx : t' * d' = s' * b' := by
    have hgk : g * k ≠ 0 := Int.mul_ne_zero (by omega) (by omega)
    apply Int.eq_of_mul_eq_mul_left hgk
    calc g * k * (t' * d') = g * t' * (k * d') := by ac_rfl
      _ = k * s' * (g * b') := h
      _ = g * k * (s' * b') := by ac_rfl
  have x1 : b' ∣ d' := dvd_cop (b := t') ⟨s', by rw [hx, Int.mul_comm]⟩ (by rw [Int.gcd_comm]; exact c1)
  have x2 : d' ∣ b' := dvd_cop (b := s') ⟨t', by rw [← hx, Int.mul_comm]⟩ (by rw [Int.gcd_comm]; exact c2)
  have e : b' = d' := Int.dvd_antisymm (by omega) (by omega) x1 x2
  subst e
  rw [Int.eq_of_mul_eq_mul_right (by omega) hx]
theorem lo_ex {t b : Int} (hb : 0 < b) : ∃ g : Int, 0 < g ∧ t = g * (lo t b).1 ∧ b = g * (lo t b).2 ∧ 0 < (lo t b).2 ∧ Int.gcd (lo t b).1 (lo t b).2 = 1 := by
  obtain ⟨g, t', b', g0, e, f, c1, p1, e1, e2⟩ := coF (t := t) hb
  exact ⟨g, g0, by simpa [lo, e1] using e, by simpa [lo, e2] using f, by simpa [lo, e2] using p1, by simpa [lo, e1, e2] using c1⟩
/-- .. of one in lowest terms -/
theorem lo_self {t b : Int} (hb : 0 < b) (h : Int.gcd t b = 1) : lo t b = (t, b) := by
  unfold lo Wr.frT Wr.frB
  rw [if_neg (by omega), if_neg (by omega), h]
  simp
theorem addF_lo {a b c d : Int} (hb : 0 < b) (hd : 0 < d) : addF (lo a b) (lo c d) = lo (a * d + c * b) (b * d) := by
  obtain ⟨g, g0, e1, e2, p1, _⟩ := lo_ex (t := a) hb
  obtain ⟨k, k0, e3, e4, p2, _⟩ := lo_ex (t := c) hd
  refine lo_eq (Int.mul_pos p1 p2) (Int.mul_pos hb hd) ?_
  generalize (lo a b).1 = a' at *
  generalize (lo a b).2 = b' at *
  generalize (lo c d).1 = c' at *
  generalize (lo c d).2 = d' at *
  subst e1 e2 e3 e4
  rw [Int.add_mul, Int.add_mul]
  congr 1 <;> ac_rfl
theorem lo_01 : lo 0 1 = (0, 1) := by decide
theorem lo_11 : lo 1 1 = (1, 1) := by decide
theorem lo_zero {b : Int} (hb : 0 < b) : lo 0 b = (0, 1) := by rw [← lo_01]; exact lo_eq hb (by decide) (by omega)
theorem lo_one {b : Int} (hb : 0 < b) : lo b b = (1, 1) := by rw [← lo_11]; exact lo_eq hb (by decide) (by omega)
theorem addF_same {a c b : Int} (hb : 0 < b) : addF (lo a b) (lo c b) = lo (a + c) b := by
  rw [addF_lo hb hb]
  refine lo_eq (Int.mul_pos hb hb) hb ?_
  rw [← Int.add_mul, Int.mul_assoc]
/-- a sum with one bottom -/
theorem foldl_lo {α : Type} (w : α → Int) {b : Int} (hb : 0 < b) : ∀ (ps : List α) (a : Int), (ps.map fun p => lo (w p) b).foldl addF (lo a b) = lo (a + (ps.map w).sum) b
  | [], a => by simp
  | p :: ps, a => by
    rw [List.map_cons, List.foldl_cons, addF_same hb, foldl_lo w hb ps]
    simp [Int.add_assoc]
theorem totF_lo {α : Type} (w : α → Int) {b : Int} (hb : 0 < b) (ps : List α) : totF (ps.map fun p => lo (w p) b) = lo ((ps.map w).sum) b := by
  unfold totF
  rw [← lo_zero hb, foldl_lo w hb ps 0, Int.zero_add]

end Lw

namespace Lw
open PySem Mi
def pick (vs : List Fr) (ps : List Nat) : List Fr := ps.map fun p => vs.getD p (0, 1)
def natD (p : Nat) : D := .int (p : Int)
theorem getD_mem {vs : List Fr} {p : Nat} (h : p < vs.length) : vs.getD p (0, 1) ∈ vs := by
  rw [List.getD_eq_getElem?_getD, List.getElem?_eq_getElem h]
  exact List.getElem_mem h
theorem ix_frs {vs : List Fr} {p : Nat} (h : p < vs.length) : L2.atI (vs.map Fr.d) (p : Int) = some (vs.getD p (0, 1)).d := by
  rw [Mi.atI_nat, List.getElem?_map, List.getD_eq_getElem?_getD, List.getElem?_eq_getElem h]
  rfl
theorem ev_total_at (vs : List Fr) (ps : List Nat) (M : Nat) (hp : ∀ p ∈ ps, p < vs.length) (hM : (M + 1) * ps.length < 2999) (hM2 : M < 3000) (hv : ∀ y ∈ vs, y.le M) (hf : ∀ y ∈ vs, isFr y.d = true) (hl : ps.length < LIM) (S : List Ins) :
    cf_total_at [.tup (vs.map Fr.d), .tup (ps.map natD)] S = .ok (.va (totF (pick vs ps)).d) ⟨[], S⟩ := by
  have mem : ∀ y ∈ pick vs ps, y ∈ vs := fun y m => by
    obtain ⟨p, hm, rfl⟩ := List.mem_map.mp m
    exact getD_mem (hp p hm)
  have ht := ev_total (pick vs ps) M (by rw [pick, List.length_map]; exact hM) hM2 (fun y m => hv y (mem y m)) (fun y m => hf y (mem y m)) (by rw [pick, List.length_map]; exact hl) S
  have lc := lc_map (own := [3]) (mg := cg_total_at1) (me := ce_total_at1) (st0 := ⟨[.va (.tup (vs.map Fr.d)), .va (.tup (ps.map natD)), .un, .un], S⟩)
    (fun d => match d with | .int i => (vs.getD i.toNat (0, 1)).d | _ => d) (fun d => [.va (.tup (vs.map Fr.d)), .va (.tup (ps.map natD)), .un, .va d]) rfl (ps.map natD) (fun d m => by
      obtain ⟨p, hm, rfl⟩ := List.mem_map.mp m
      refine ⟨rfl, rfl, .va (vs.getD p (0, 1)).d, ?_, rfl⟩
      simp only [ce_total_at1, natD, ix_frs (hp p hm), e_mSeq, e_mIfS, e_mT, e_mBin, e_mUn, e_mNm, e_mNv, e_mF, e_mC, e_mRet, e_mSet, e_mSetIx, e_mApp, e_mExpr, e_mCB, e_mHcons, e_mHnil, e_mAcons, e_mAnil, e_mTup, e_mLst, e_mNx, e_mRetN, e_mIsN, e_mIsi, e_mTru, e_mAnd, e_mOr, e_mNot, e_mV, e_mAndV, e_mOrV, e_mNotV, e_mChain, e_mPar, e_mAsg, e_mFor, e_mItems, e_mRng1, e_mRng2, e_mEnum, e_mRaise, e_mCall, e_mAtt, e_mSetAtt, e_mMeth, e_mAnil0, e_mTry, e_mWh, e_mLc, e_mYes, e_mStar1, e_mPub, e_mAppO, e_mMt, e_mAstar, e_mSl, e_mPart, e_mNoPart, e_mBrk, e_mIf, e_mIx, e_mgName, e_mgTup, e_mgNil, e_mgCons, mDef, mDefV, mDefC, mCallAt, Mi.R.ne,
  Mi.bnd_ok, Mi.bnd_er, Mi.bnd_no, o_ok, o_er, o_no, ne_ok, ne_er, ne_no, Hd.at, rsv, opt, fin, ent, atAll, ownAt, gLt_ii, gLe_ii, gGt_ii, gGe_ii, gAdd, Mi.gSub, gLen, gNeg, gIx, atI_0, atI_1, gEq_int, gNe_int, Sl.d, kdOf, ansT, kI, kB, kT, kL, kS, insAt, tabA, tabS, tabM, List.getD_cons_zero, List.getD_cons_succ, truD, Option.bind_some, Option.bind_none, Option.map_some, Option.map_none,
  List.map_cons, List.map_nil, List.length_cons, List.length_nil, List.replicate_succ, List.replicate_zero, List.cons_append, List.nil_append, List.append_nil, List.getElem?_cons_zero, List.getElem?_cons_succ, List.set_cons_zero, List.set_cons_succ, Nat.reduceAdd, Nat.reduceSub, Nat.reduceLT, Nat.reduceEqDiff, Nat.reduceLeDiff, Nat.zero_add, natLit, le_LIM, lt_LIM, List.take_zero, List.drop_zero, List.take_succ_cons, List.drop_succ_cons, Nat.zero_le, true_and, and_true, and_self, Nat.reduceLeDiff, Int.reduceEq, Int.reduceLT, Int.reduceLE, Int.reduceAdd, Int.reduceSub, Int.reduceMul, Int.reduceNeg, Int.reduceToNat, eq_self_iff_true, reduceIte, if_true, if_false, ite_true, ite_false, Bool.false_eq_true, Bool.not_true, Bool.not_false, Bool.and_true, Bool.true_and, Bool.and_false, Bool.false_and, Bool.or_true, Bool.true_or, decide_true, decide_false, decide_eq_true_eq])
  have e1 : (ps.map natD).map (fun d => match d with | .int i => (vs.getD i.toNat (0, 1)).d | _ => d) = (pick vs ps).map Fr.d := by
    rw [List.map_map, pick, List.map_map]; rfl
  rw [e1] at lc
  have hl' : ps.length ≤ LIM := Nat.le_of_lt hl
  simp only [cf_total_at, m_total_at]
  simp only [wipeS, rst, vaOf, List.length_map, hl', seqOf, e_mSeq, e_mIfS, e_mT, e_mBin, e_mUn, e_mNm, e_mNv, e_mF, e_mC, e_mRet, e_mSet, e_mSetIx, e_mApp, e_mExpr, e_mCB, e_mHcons, e_mHnil, e_mAcons, e_mAnil, e_mTup, e_mLst, e_mNx, e_mRetN, e_mIsN, e_mIsi, e_mTru, e_mAnd, e_mOr, e_mNot, e_mV, e_mAndV, e_mOrV, e_mNotV, e_mChain, e_mPar, e_mAsg, e_mFor, e_mItems, e_mRng1, e_mRng2, e_mEnum, e_mRaise, e_mCall, e_mAtt, e_mSetAtt, e_mMeth, e_mAnil0, e_mTry, e_mWh, e_mLc, e_mYes, e_mStar1, e_mPub, e_mAppO, e_mMt, e_mAstar, e_mSl, e_mPart, e_mNoPart, e_mBrk, e_mIf, e_mIx, e_mgName, e_mgTup, e_mgNil, e_mgCons, mDef, mDefV, mDefC, mCallAt, Mi.R.ne,
  Mi.bnd_ok, Mi.bnd_er, Mi.bnd_no, o_ok, o_er, o_no, ne_ok, ne_er, ne_no, Hd.at, rsv, opt, fin, ent, atAll, ownAt, gLt_ii, gLe_ii, gGt_ii, gGe_ii, gAdd, Mi.gSub, gLen, gNeg, gIx, atI_0, atI_1, gEq_int, gNe_int, Sl.d, kdOf, ansT, kI, kB, kT, kL, kS, insAt, tabA, tabS, tabM, List.getD_cons_zero, List.getD_cons_succ, truD, Option.bind_some, Option.bind_none, Option.map_some, Option.map_none,
  List.map_cons, List.map_nil, List.length_cons, List.length_nil, List.replicate_succ, List.replicate_zero, List.cons_append, List.nil_append, List.append_nil, List.getElem?_cons_zero, List.getElem?_cons_succ, List.set_cons_zero, List.set_cons_succ, Nat.reduceAdd, Nat.reduceSub, Nat.reduceLT, Nat.reduceEqDiff, Nat.reduceLeDiff, Nat.zero_add, natLit, le_LIM, lt_LIM, List.take_zero, List.drop_zero, List.take_succ_cons, List.drop_succ_cons, Nat.zero_le, true_and, and_true, and_self, Nat.reduceLeDiff, Int.reduceEq, Int.reduceLT, Int.reduceLE, Int.reduceAdd, Int.reduceSub, Int.reduceMul, Int.reduceNeg, Int.reduceToNat, eq_self_iff_true, reduceIte, if_true, if_false, ite_true, ite_false, Bool.false_eq_true, Bool.not_true, Bool.not_false, Bool.and_true, Bool.true_and, Bool.and_false, Bool.false_and, Bool.or_true, Bool.true_or, decide_true, decide_false, decide_eq_true_eq]
  simp only [lc, ht, wipeS, rst, vaOf, seqOf, e_mSeq, e_mIfS, e_mT, e_mBin, e_mUn, e_mNm, e_mNv, e_mF, e_mC, e_mRet, e_mSet, e_mSetIx, e_mApp, e_mExpr, e_mCB, e_mHcons, e_mHnil, e_mAcons, e_mAnil, e_mTup, e_mLst, e_mNx, e_mRetN, e_mIsN, e_mIsi, e_mTru, e_mAnd, e_mOr, e_mNot, e_mV, e_mAndV, e_mOrV, e_mNotV, e_mChain, e_mPar, e_mAsg, e_mFor, e_mItems, e_mRng1, e_mRng2, e_mEnum, e_mRaise, e_mCall, e_mAtt, e_mSetAtt, e_mMeth, e_mAnil0, e_mTry, e_mWh, e_mLc, e_mYes, e_mStar1, e_mPub, e_mAppO, e_mMt, e_mAstar, e_mSl, e_mPart, e_mNoPart, e_mBrk, e_mIf, e_mIx, e_mgName, e_mgTup, e_mgNil, e_mgCons, mDef, mDefV, mDefC, mCallAt, Mi.R.ne,
  Mi.bnd_ok, Mi.bnd_er, Mi.bnd_no, o_ok, o_er, o_no, ne_ok, ne_er, ne_no, Hd.at, rsv, opt, fin, ent, atAll, ownAt, gLt_ii, gLe_ii, gGt_ii, gGe_ii, gAdd, Mi.gSub, gLen, gNeg, gIx, atI_0, atI_1, gEq_int, gNe_int, Sl.d, kdOf, ansT, kI, kB, kT, kL, kS, insAt, tabA, tabS, tabM, List.getD_cons_zero, List.getD_cons_succ, truD, Option.bind_some, Option.bind_none, Option.map_some, Option.map_none,
  List.map_cons, List.map_nil, List.length_cons, List.length_nil, List.replicate_succ, List.replicate_zero, List.cons_append, List.nil_append, List.append_nil, List.getElem?_cons_zero, List.getElem?_cons_succ, List.set_cons_zero, List.set_cons_succ, Nat.reduceAdd, Nat.reduceSub, Nat.reduceLT, Nat.reduceEqDiff, Nat.reduceLeDiff, Nat.zero_add, natLit, le_LIM, lt_LIM, List.take_zero, List.drop_zero, List.take_succ_cons, List.drop_succ_cons, Nat.zero_le, true_and, and_true, and_self, Nat.reduceLeDiff, Int.reduceEq, Int.reduceLT, Int.reduceLE, Int.reduceAdd, Int.reduceSub, Int.reduceMul, Int.reduceNeg, Int.reduceToNat, eq_self_iff_true, reduceIte, if_true, if_false, ite_true, ite_false, Bool.false_eq_true, Bool.not_true, Bool.not_false, Bool.and_true, Bool.true_and, Bool.and_false, Bool.false_and, Bool.or_true, Bool.true_or, decide_true, decide_false, decide_eq_true_eq]
theorem gEq_fr (a b c d : Int) : gEq (frD a b) (frD c d) = some (.va (.bl (decide (a = c) && decide (b = d)))) := by
  simp only [gEq, okF, toPy, toPys, List.all_cons, List.all_nil, Bool.and_self, if_true]
  simp [PyData.eqv, PyData.eqvAll]
  rfl
theorem blsD_map {β : Type} (f : β → Bool) : ∀ l : List β, blsD (l.map fun x => .bl (f x)) = some (l.map f)
  | [] => rfl
  | x :: l => by rw [List.map_cons, List.map_cons, blsD, blsD_map f l]; rfl
def tupD (ps : List Nat) : D := .tup (ps.map natD)
theorem ev_are_odds (vs : List Fr) (labs : List D) (parts : List (List Nat)) (M : Nat) (hlen : vs.length = labs.length) (hl : vs.length < 3000) (hpl : parts.length < 3000) (hM2 : M < 3000) (hv : ∀ y ∈ vs, y.le M) (hf : ∀ y ∈ vs, isFr y.d = true) (hpos : ∀ y ∈ vs, 0 < y.1)
    (hp : ∀ ps ∈ parts, (∀ p ∈ ps, p < vs.length) ∧ (M + 1) * ps.length < 2999 ∧ ps.length < LIM) (S : List Ins) :
    cf_are_odds [.tup (vs.map Fr.d), .tup labs, .tup (parts.map tupD)] S = .ok (.va (.bl (parts.all fun ps => decide (totF (pick vs ps) = (1, 1))))) ⟨[], S⟩ := by
  have lc1 := lc_mapB (own := [4]) (mg := cg_are_odds1) (me := ce_are_odds1) (st0 := ⟨[.va (.tup (vs.map Fr.d)), .va (.tup labs), .va (.tup (parts.map tupD)), .un, .un], S⟩)
    Fr.d (fun _ => .bl true) (fun y => [.va (.tup (vs.map Fr.d)), .va (.tup labs), .va (.tup (parts.map tupD)), .un, .va y.d]) rfl vs (fun y hm => by
      refine ⟨rfl, rfl, .va (.bl true), ?_, rfl⟩
      have e := ev_pos y.1 y.2 S
      rw [show isFr (frD y.1 y.2) = true from hf y hm, decide_eq_true (hpos y hm)] at e
      simp only [ce_are_odds1, Fr.d, e, e_mSeq, e_mIfS, e_mT, e_mBin, e_mUn, e_mNm, e_mNv, e_mF, e_mC, e_mRet, e_mSet, e_mSetIx, e_mApp, e_mExpr, e_mCB, e_mHcons, e_mHnil, e_mAcons, e_mAnil, e_mTup, e_mLst, e_mNx, e_mRetN, e_mIsN, e_mIsi, e_mTru, e_mAnd, e_mOr, e_mNot, e_mV, e_mAndV, e_mOrV, e_mNotV, e_mChain, e_mPar, e_mAsg, e_mFor, e_mItems, e_mRng1, e_mRng2, e_mEnum, e_mRaise, e_mCall, e_mAtt, e_mSetAtt, e_mMeth, e_mAnil0, e_mTry, e_mWh, e_mLc, e_mYes, e_mStar1, e_mPub, e_mAppO, e_mMt, e_mAstar, e_mSl, e_mPart, e_mNoPart, e_mBrk, e_mIf, e_mIx, e_mgName, e_mgTup, e_mgNil, e_mgCons, mDef, mDefV, mDefC, mCallAt, Mi.R.ne,
  Mi.bnd_ok, Mi.bnd_er, Mi.bnd_no, o_ok, o_er, o_no, ne_ok, ne_er, ne_no, Hd.at, rsv, opt, fin, ent, atAll, ownAt, gLt_ii, gLe_ii, gGt_ii, gGe_ii, gAdd, Mi.gSub, gLen, gNeg, gIx, atI_0, atI_1, gEq_int, gNe_int, Sl.d, kdOf, ansT, kI, kB, kT, kL, kS, insAt, tabA, tabS, tabM, List.getD_cons_zero, List.getD_cons_succ, truD, Option.bind_some, Option.bind_none, Option.map_some, Option.map_none,
  List.map_cons, List.map_nil, List.length_cons, List.length_nil, List.replicate_succ, List.replicate_zero, List.cons_append, List.nil_append, List.append_nil, List.getElem?_cons_zero, List.getElem?_cons_succ, List.set_cons_zero, List.set_cons_succ, Nat.reduceAdd, Nat.reduceSub, Nat.reduceLT, Nat.reduceEqDiff, Nat.reduceLeDiff, Nat.zero_add, natLit, le_LIM, lt_LIM, List.take_zero, List.drop_zero, List.take_succ_cons, List.drop_succ_cons, Nat.zero_le, true_and, and_true, and_self, Nat.reduceLeDiff, Int.reduceEq, Int.reduceLT, Int.reduceLE, Int.reduceAdd, Int.reduceSub, Int.reduceMul, Int.reduceNeg, Int.reduceToNat, eq_self_iff_true, reduceIte, if_true, if_false, ite_true, ite_false, Bool.false_eq_true, Bool.not_true, Bool.not_false, Bool.and_true, Bool.true_and, Bool.and_false, Bool.false_and, Bool.or_true, Bool.true_or, decide_true, decide_false, decide_eq_true_eq])
  have lc2 := lc_mapB (own := [3]) (mg := cg_are_odds2) (me := ce_are_odds2) (st0 := ⟨[.va (.tup (vs.map Fr.d)), .va (.tup labs), .va (.tup (parts.map tupD)), .un, .un], S⟩)
    tupD (fun ps => .bl (decide (totF (pick vs ps) = (1, 1)))) (fun d => [.va (.tup (vs.map Fr.d)), .va (.tup labs), .va (.tup (parts.map tupD)), .va (tupD d), .un]) rfl parts (fun ps hm => by
      obtain ⟨h1, h2, h3⟩ := hp ps hm
      have e := ev_total_at vs ps M h1 h2 hM2 hv hf h3 S
      refine ⟨rfl, rfl, .va (.bl (decide (totF (pick vs ps) = (1, 1)))), ?_, rfl⟩
      simp only [ce_are_odds2, tupD, e, e_mSeq, e_mIfS, e_mT, e_mBin, e_mUn, e_mNm, e_mNv, e_mF, e_mC, e_mRet, e_mSet, e_mSetIx, e_mApp, e_mExpr, e_mCB, e_mHcons, e_mHnil, e_mAcons, e_mAnil, e_mTup, e_mLst, e_mNx, e_mRetN, e_mIsN, e_mIsi, e_mTru, e_mAnd, e_mOr, e_mNot, e_mV, e_mAndV, e_mOrV, e_mNotV, e_mChain, e_mPar, e_mAsg, e_mFor, e_mItems, e_mRng1, e_mRng2, e_mEnum, e_mRaise, e_mCall, e_mAtt, e_mSetAtt, e_mMeth, e_mAnil0, e_mTry, e_mWh, e_mLc, e_mYes, e_mStar1, e_mPub, e_mAppO, e_mMt, e_mAstar, e_mSl, e_mPart, e_mNoPart, e_mBrk, e_mIf, e_mIx, e_mgName, e_mgTup, e_mgNil, e_mgCons, mDef, mDefV, mDefC, mCallAt, Mi.R.ne,
  Mi.bnd_ok, Mi.bnd_er, Mi.bnd_no, o_ok, o_er, o_no, ne_ok, ne_er, ne_no, Hd.at, rsv, opt, fin, ent, atAll, ownAt, gLt_ii, gLe_ii, gGt_ii, gGe_ii, gAdd, Mi.gSub, gLen, gNeg, gIx, atI_0, atI_1, gEq_int, gNe_int, Sl.d, kdOf, ansT, kI, kB, kT, kL, kS, insAt, tabA, tabS, tabM, List.getD_cons_zero, List.getD_cons_succ, truD, Option.bind_some, Option.bind_none, Option.map_some, Option.map_none,
  List.map_cons, List.map_nil, List.length_cons, List.length_nil, List.replicate_succ, List.replicate_zero, List.cons_append, List.nil_append, List.append_nil, List.getElem?_cons_zero, List.getElem?_cons_succ, List.set_cons_zero, List.set_cons_succ, Nat.reduceAdd, Nat.reduceSub, Nat.reduceLT, Nat.reduceEqDiff, Nat.reduceLeDiff, Nat.zero_add, natLit, le_LIM, lt_LIM, List.take_zero, List.drop_zero, List.take_succ_cons, List.drop_succ_cons, Nat.zero_le, true_and, and_true, and_self, Nat.reduceLeDiff, Int.reduceEq, Int.reduceLT, Int.reduceLE, Int.reduceAdd, Int.reduceSub, Int.reduceMul, Int.reduceNeg, Int.reduceToNat, eq_self_iff_true, reduceIte, if_true, if_false, ite_true, ite_false, Bool.false_eq_true, Bool.not_true, Bool.not_false, Bool.and_true, Bool.true_and, Bool.and_false, Bool.false_and, Bool.or_true, Bool.true_or, decide_true, decide_false, decide_eq_true_eq]
      rw [Fr.d, gEq_fr]
      simp only [e_mSeq, e_mIfS, e_mT, e_mBin, e_mUn, e_mNm, e_mNv, e_mF, e_mC, e_mRet, e_mSet, e_mSetIx, e_mApp, e_mExpr, e_mCB, e_mHcons, e_mHnil, e_mAcons, e_mAnil, e_mTup, e_mLst, e_mNx, e_mRetN, e_mIsN, e_mIsi, e_mTru, e_mAnd, e_mOr, e_mNot, e_mV, e_mAndV, e_mOrV, e_mNotV, e_mChain, e_mPar, e_mAsg, e_mFor, e_mItems, e_mRng1, e_mRng2, e_mEnum, e_mRaise, e_mCall, e_mAtt, e_mSetAtt, e_mMeth, e_mAnil0, e_mTry, e_mWh, e_mLc, e_mYes, e_mStar1, e_mPub, e_mAppO, e_mMt, e_mAstar, e_mSl, e_mPart, e_mNoPart, e_mBrk, e_mIf, e_mIx, e_mgName, e_mgTup, e_mgNil, e_mgCons, mDef, mDefV, mDefC, mCallAt, Mi.R.ne,
  Mi.bnd_ok, Mi.bnd_er, Mi.bnd_no, o_ok, o_er, o_no, ne_ok, ne_er, ne_no, Hd.at, rsv, opt, fin, ent, atAll, ownAt, gLt_ii, gLe_ii, gGt_ii, gGe_ii, gAdd, Mi.gSub, gLen, gNeg, gIx, atI_0, atI_1, gEq_int, gNe_int, Sl.d, kdOf, ansT, kI, kB, kT, kL, kS, insAt, tabA, tabS, tabM, List.getD_cons_zero, List.getD_cons_succ, truD, Option.bind_some, Option.bind_none, Option.map_some, Option.map_none,
  List.map_cons, List.map_nil, List.length_cons, List.length_nil, List.replicate_succ, List.replicate_zero, List.cons_append, List.nil_append, List.append_nil, List.getElem?_cons_zero, List.getElem?_cons_succ, List.set_cons_zero, List.set_cons_succ, Nat.reduceAdd, Nat.reduceSub, Nat.reduceLT, Nat.reduceEqDiff, Nat.reduceLeDiff, Nat.zero_add, natLit, le_LIM, lt_LIM, List.take_zero, List.drop_zero, List.take_succ_cons, List.drop_succ_cons, Nat.zero_le, true_and, and_true, and_self, Nat.reduceLeDiff, Int.reduceEq, Int.reduceLT, Int.reduceLE, Int.reduceAdd, Int.reduceSub, Int.reduceMul, Int.reduceNeg, Int.reduceToNat, eq_self_iff_true, reduceIte, if_true, if_false, ite_true, ite_false, Bool.false_eq_true, Bool.not_true, Bool.not_false, Bool.and_true, Bool.true_and, Bool.and_false, Bool.false_and, Bool.or_true, Bool.true_or, decide_true, decide_false, decide_eq_true_eq]
      congr 3
      rw [Bool.eq_iff_iff]; simp [Prod.ext_iff])
  have b1 := blsD_map (fun _ : Fr => true) vs
  have b2 := blsD_map (fun ps => decide (totF (pick vs ps) = (1, 1))) parts
  have l1 : labs.length ≤ LIM := by rw [← hlen]; exact Nat.le_trans (Nat.le_of_lt hl) (by decide)
  have l2 : parts.length ≤ LIM := Nat.le_trans (Nat.le_of_lt hpl) (by decide)
  have a1 : (vs.map fun _ => true).all id = true := by simp
  simp only [cf_are_odds, m_are_odds]
  simp only [List.length_map, hlen, wipeS, rst, vaOf, l1, l2, lc1, lc2, b1, b2, gAll, a1, List.all_map, e_mSeq, e_mIfS, e_mT, e_mBin, e_mUn, e_mNm, e_mNv, e_mF, e_mC, e_mRet, e_mSet, e_mSetIx, e_mApp, e_mExpr, e_mCB, e_mHcons, e_mHnil, e_mAcons, e_mAnil, e_mTup, e_mLst, e_mNx, e_mRetN, e_mIsN, e_mIsi, e_mTru, e_mAnd, e_mOr, e_mNot, e_mV, e_mAndV, e_mOrV, e_mNotV, e_mChain, e_mPar, e_mAsg, e_mFor, e_mItems, e_mRng1, e_mRng2, e_mEnum, e_mRaise, e_mCall, e_mAtt, e_mSetAtt, e_mMeth, e_mAnil0, e_mTry, e_mWh, e_mLc, e_mYes, e_mStar1, e_mPub, e_mAppO, e_mMt, e_mAstar, e_mSl, e_mPart, e_mNoPart, e_mBrk, e_mIf, e_mIx, e_mgName, e_mgTup, e_mgNil, e_mgCons, mDef, mDefV, mDefC, mCallAt, Mi.R.ne,
  Mi.bnd_ok, Mi.bnd_er, Mi.bnd_no, o_ok, o_er, o_no, ne_ok, ne_er, ne_no, Hd.at, rsv, opt, fin, ent, atAll, ownAt, gLt_ii, gLe_ii, gGt_ii, gGe_ii, gAdd, Mi.gSub, gLen, gNeg, gIx, atI_0, atI_1, gEq_int, gNe_int, Sl.d, kdOf, ansT, kI, kB, kT, kL, kS, insAt, tabA, tabS, tabM, List.getD_cons_zero, List.getD_cons_succ, truD, Option.bind_some, Option.bind_none, Option.map_some, Option.map_none,
  List.map_cons, List.map_nil, List.length_cons, List.length_nil, List.replicate_succ, List.replicate_zero, List.cons_append, List.nil_append, List.append_nil, List.getElem?_cons_zero, List.getElem?_cons_succ, List.set_cons_zero, List.set_cons_succ, Nat.reduceAdd, Nat.reduceSub, Nat.reduceLT, Nat.reduceEqDiff, Nat.reduceLeDiff, Nat.zero_add, natLit, le_LIM, lt_LIM, List.take_zero, List.drop_zero, List.take_succ_cons, List.drop_succ_cons, Nat.zero_le, true_and, and_true, and_self, Nat.reduceLeDiff, Int.reduceEq, Int.reduceLT, Int.reduceLE, Int.reduceAdd, Int.reduceSub, Int.reduceMul, Int.reduceNeg, Int.reduceToNat, eq_self_iff_true, reduceIte, if_true, if_false, ite_true, ite_false, Bool.false_eq_true, Bool.not_true, Bool.not_false, Bool.and_true, Bool.true_and, Bool.and_false, Bool.false_and, Bool.or_true, Bool.true_or, decide_true, decide_false, decide_eq_true_eq]
  simp only [Function.comp_def, id]
end Lw

namespace Lw
open PySem Mi
theorem gMax_ii (i j : Int) : gMax [.int i, .int j] = some (.va (.int (max i j))) := by
  simp only [gMax]
  congr 3
  by_cases h : j > i
  · rw [if_pos h]; omega
  · rw [if_neg h]; omega
theorem forL_lab (S : List Ins) (T : Sl) : ∀ (ns : List Int) (k : Int) (y : Sl), ∃ k' y', (Wr.labI k ns = true → forL fg_is_valid_labels1 fb_is_valid_labels1 (ns.map D.int) ⟨[T, .va (.int k), y], S⟩ = .nx ⟨[T, .va (.int k'), y'], S⟩) ∧
    (Wr.labI k ns = false → forL fg_is_valid_labels1 fb_is_valid_labels1 (ns.map D.int) ⟨[T, .va (.int k), y], S⟩ = .rt (.va (.bl false)) ⟨[T, .va (.int k'), y'], S⟩)
  | [], k, y => ⟨k, y, fun _ => rfl, fun h => by cases h⟩
  | n :: ns, k, y => by
    by_cases h0 : 0 ≤ n
    · by_cases h1 : n ≤ k
      · obtain ⟨k', y', e1, e2⟩ := forL_lab S T ns (max k (n + 1)) (.va (.int n))
        refine ⟨k', y', fun h => ?_, fun h => ?_⟩
        · rw [Wr.labI, decide_eq_true h0, decide_eq_true h1] at h
          rw [← e1 (by simpa using h), List.map_cons, forL]
          simp only [fg_is_valid_labels1, fb_is_valid_labels1, ev_whole_int, h0, h1, gMax_ii, e_mSeq, e_mIfS, e_mT, e_mBin, e_mUn, e_mNm, e_mNv, e_mF, e_mC, e_mRet, e_mSet, e_mSetIx, e_mApp, e_mExpr, e_mCB, e_mHcons, e_mHnil, e_mAcons, e_mAnil, e_mTup, e_mLst, e_mNx, e_mRetN, e_mIsN, e_mIsi, e_mTru, e_mAnd, e_mOr, e_mNot, e_mV, e_mAndV, e_mOrV, e_mNotV, e_mChain, e_mPar, e_mAsg, e_mFor, e_mItems, e_mRng1, e_mRng2, e_mEnum, e_mRaise, e_mCall, e_mAtt, e_mSetAtt, e_mMeth, e_mAnil0, e_mTry, e_mWh, e_mLc, e_mYes, e_mStar1, e_mPub, e_mAppO, e_mMt, e_mAstar, e_mSl, e_mPart, e_mNoPart, e_mBrk, e_mIf, e_mIx, e_mgName, e_mgTup, e_mgNil, e_mgCons, mDef, mDefV, mDefC, mCallAt, Mi.R.ne,
  Mi.bnd_ok, Mi.bnd_er, Mi.bnd_no, o_ok, o_er, o_no, ne_ok, ne_er, ne_no, Hd.at, rsv, opt, fin, ent, atAll, ownAt, gLt_ii, gLe_ii, gGt_ii, gGe_ii, gAdd, Mi.gSub, gLen, gNeg, gIx, atI_0, atI_1, gEq_int, gNe_int, Sl.d, kdOf, ansT, kI, kB, kT, kL, kS, insAt, tabA, tabS, tabM, List.getD_cons_zero, List.getD_cons_succ, truD, Option.bind_some, Option.bind_none, Option.map_some, Option.map_none,
  List.map_cons, List.map_nil, List.length_cons, List.length_nil, List.replicate_succ, List.replicate_zero, List.cons_append, List.nil_append, List.append_nil, List.getElem?_cons_zero, List.getElem?_cons_succ, List.set_cons_zero, List.set_cons_succ, Nat.reduceAdd, Nat.reduceSub, Nat.reduceLT, Nat.reduceEqDiff, Nat.reduceLeDiff, Nat.zero_add, natLit, le_LIM, lt_LIM, List.take_zero, List.drop_zero, List.take_succ_cons, List.drop_succ_cons, Nat.zero_le, true_and, and_true, and_self, Nat.reduceLeDiff, Int.reduceEq, Int.reduceLT, Int.reduceLE, Int.reduceAdd, Int.reduceSub, Int.reduceMul, Int.reduceNeg, Int.reduceToNat, eq_self_iff_true, reduceIte, if_true, if_false, ite_true, ite_false, Bool.false_eq_true, Bool.not_true, Bool.not_false, Bool.and_true, Bool.true_and, Bool.and_false, Bool.false_and, Bool.or_true, Bool.true_or, decide_true, decide_false, decide_eq_true_eq]
        · rw [Wr.labI, decide_eq_true h0, decide_eq_true h1] at h
          rw [← e2 (by simpa using h), List.map_cons, forL]
          simp only [fg_is_valid_labels1, fb_is_valid_labels1, ev_whole_int, h0, h1, gMax_ii, e_mSeq, e_mIfS, e_mT, e_mBin, e_mUn, e_mNm, e_mNv, e_mF, e_mC, e_mRet, e_mSet, e_mSetIx, e_mApp, e_mExpr, e_mCB, e_mHcons, e_mHnil, e_mAcons, e_mAnil, e_mTup, e_mLst, e_mNx, e_mRetN, e_mIsN, e_mIsi, e_mTru, e_mAnd, e_mOr, e_mNot, e_mV, e_mAndV, e_mOrV, e_mNotV, e_mChain, e_mPar, e_mAsg, e_mFor, e_mItems, e_mRng1, e_mRng2, e_mEnum, e_mRaise, e_mCall, e_mAtt, e_mSetAtt, e_mMeth, e_mAnil0, e_mTry, e_mWh, e_mLc, e_mYes, e_mStar1, e_mPub, e_mAppO, e_mMt, e_mAstar, e_mSl, e_mPart, e_mNoPart, e_mBrk, e_mIf, e_mIx, e_mgName, e_mgTup, e_mgNil, e_mgCons, mDef, mDefV, mDefC, mCallAt, Mi.R.ne,
  Mi.bnd_ok, Mi.bnd_er, Mi.bnd_no, o_ok, o_er, o_no, ne_ok, ne_er, ne_no, Hd.at, rsv, opt, fin, ent, atAll, ownAt, gLt_ii, gLe_ii, gGt_ii, gGe_ii, gAdd, Mi.gSub, gLen, gNeg, gIx, atI_0, atI_1, gEq_int, gNe_int, Sl.d, kdOf, ansT, kI, kB, kT, kL, kS, insAt, tabA, tabS, tabM, List.getD_cons_zero, List.getD_cons_succ, truD, Option.bind_some, Option.bind_none, Option.map_some, Option.map_none,
  List.map_cons, List.map_nil, List.length_cons, List.length_nil, List.replicate_succ, List.replicate_zero, List.cons_append, List.nil_append, List.append_nil, List.getElem?_cons_zero, List.getElem?_cons_succ, List.set_cons_zero, List.set_cons_succ, Nat.reduceAdd, Nat.reduceSub, Nat.reduceLT, Nat.reduceEqDiff, Nat.reduceLeDiff, Nat.zero_add, natLit, le_LIM, lt_LIM, List.take_zero, List.drop_zero, List.take_succ_cons, List.drop_succ_cons, Nat.zero_le, true_and, and_true, and_self, Nat.reduceLeDiff, Int.reduceEq, Int.reduceLT, Int.reduceLE, Int.reduceAdd, Int.reduceSub, Int.reduceMul, Int.reduceNeg, Int.reduceToNat, eq_self_iff_true, reduceIte, if_true, if_false, ite_true, ite_false, Bool.false_eq_true, Bool.not_true, Bool.not_false, Bool.and_true, Bool.true_and, Bool.and_false, Bool.false_and, Bool.or_true, Bool.true_or, decide_true, decide_false, decide_eq_true_eq]
      · refine ⟨k, .va (.int n), fun h => ?_, fun _ => ?_⟩
        · rw [Wr.labI, decide_eq_false h1] at h; simp at h
        · rw [List.map_cons, forL]
          simp only [fg_is_valid_labels1, fb_is_valid_labels1, ev_whole_int, h0, h1, e_mSeq, e_mIfS, e_mT, e_mBin, e_mUn, e_mNm, e_mNv, e_mF, e_mC, e_mRet, e_mSet, e_mSetIx, e_mApp, e_mExpr, e_mCB, e_mHcons, e_mHnil, e_mAcons, e_mAnil, e_mTup, e_mLst, e_mNx, e_mRetN, e_mIsN, e_mIsi, e_mTru, e_mAnd, e_mOr, e_mNot, e_mV, e_mAndV, e_mOrV, e_mNotV, e_mChain, e_mPar, e_mAsg, e_mFor, e_mItems, e_mRng1, e_mRng2, e_mEnum, e_mRaise, e_mCall, e_mAtt, e_mSetAtt, e_mMeth, e_mAnil0, e_mTry, e_mWh, e_mLc, e_mYes, e_mStar1, e_mPub, e_mAppO, e_mMt, e_mAstar, e_mSl, e_mPart, e_mNoPart, e_mBrk, e_mIf, e_mIx, e_mgName, e_mgTup, e_mgNil, e_mgCons, mDef, mDefV, mDefC, mCallAt, Mi.R.ne,
  Mi.bnd_ok, Mi.bnd_er, Mi.bnd_no, o_ok, o_er, o_no, ne_ok, ne_er, ne_no, Hd.at, rsv, opt, fin, ent, atAll, ownAt, gLt_ii, gLe_ii, gGt_ii, gGe_ii, gAdd, Mi.gSub, gLen, gNeg, gIx, atI_0, atI_1, gEq_int, gNe_int, Sl.d, kdOf, ansT, kI, kB, kT, kL, kS, insAt, tabA, tabS, tabM, List.getD_cons_zero, List.getD_cons_succ, truD, Option.bind_some, Option.bind_none, Option.map_some, Option.map_none,
  List.map_cons, List.map_nil, List.length_cons, List.length_nil, List.replicate_succ, List.replicate_zero, List.cons_append, List.nil_append, List.append_nil, List.getElem?_cons_zero, List.getElem?_cons_succ, List.set_cons_zero, List.set_cons_succ, Nat.reduceAdd, Nat.reduceSub, Nat.reduceLT, Nat.reduceEqDiff, Nat.reduceLeDiff, Nat.zero_add, natLit, le_LIM, lt_LIM, List.take_zero, List.drop_zero, List.take_succ_cons, List.drop_succ_cons, Nat.zero_le, true_and, and_true, and_self, Nat.reduceLeDiff, Int.reduceEq, Int.reduceLT, Int.reduceLE, Int.reduceAdd, Int.reduceSub, Int.reduceMul, Int.reduceNeg, Int.reduceToNat, eq_self_iff_true, reduceIte, if_true, if_false, ite_true, ite_false, Bool.false_eq_true, Bool.not_true, Bool.not_false, Bool.and_true, Bool.true_and, Bool.and_false, Bool.false_and, Bool.or_true, Bool.true_or, decide_true, decide_false, decide_eq_true_eq]
    · refine ⟨k, .va (.int n), fun h => ?_, fun _ => ?_⟩
      · rw [Wr.labI, decide_eq_false h0] at h; simp at h
      · rw [List.map_cons, forL]
        simp only [fg_is_valid_labels1, fb_is_valid_labels1, ev_whole_int, h0, e_mSeq, e_mIfS, e_mT, e_mBin, e_mUn, e_mNm, e_mNv, e_mF, e_mC, e_mRet, e_mSet, e_mSetIx, e_mApp, e_mExpr, e_mCB, e_mHcons, e_mHnil, e_mAcons, e_mAnil, e_mTup, e_mLst, e_mNx, e_mRetN, e_mIsN, e_mIsi, e_mTru, e_mAnd, e_mOr, e_mNot, e_mV, e_mAndV, e_mOrV, e_mNotV, e_mChain, e_mPar, e_mAsg, e_mFor, e_mItems, e_mRng1, e_mRng2, e_mEnum, e_mRaise, e_mCall, e_mAtt, e_mSetAtt, e_mMeth, e_mAnil0, e_mTry, e_mWh, e_mLc, e_mYes, e_mStar1, e_mPub, e_mAppO, e_mMt, e_mAstar, e_mSl, e_mPart, e_mNoPart, e_mBrk, e_mIf, e_mIx, e_mgName, e_mgTup, e_mgNil, e_mgCons, mDef, mDefV, mDefC, mCallAt, Mi.R.ne,
  Mi.bnd_ok, Mi.bnd_er, Mi.bnd_no, o_ok, o_er, o_no, ne_ok, ne_er, ne_no, Hd.at, rsv, opt, fin, ent, atAll, ownAt, gLt_ii, gLe_ii, gGt_ii, gGe_ii, gAdd, Mi.gSub, gLen, gNeg, gIx, atI_0, atI_1, gEq_int, gNe_int, Sl.d, kdOf, ansT, kI, kB, kT, kL, kS, insAt, tabA, tabS, tabM, List.getD_cons_zero, List.getD_cons_succ, truD, Option.bind_some, Option.bind_none, Option.map_some, Option.map_none,
  List.map_cons, List.map_nil, List.length_cons, List.length_nil, List.replicate_succ, List.replicate_zero, List.cons_append, List.nil_append, List.append_nil, List.getElem?_cons_zero, List.getElem?_cons_succ, List.set_cons_zero, List.set_cons_succ, Nat.reduceAdd, Nat.reduceSub, Nat.reduceLT, Nat.reduceEqDiff, Nat.reduceLeDiff, Nat.zero_add, natLit, le_LIM, lt_LIM, List.take_zero, List.drop_zero, List.take_succ_cons, List.drop_succ_cons, Nat.zero_le, true_and, and_true, and_self, Nat.reduceLeDiff, Int.reduceEq, Int.reduceLT, Int.reduceLE, Int.reduceAdd, Int.reduceSub, Int.reduceMul, Int.reduceNeg, Int.reduceToNat, eq_self_iff_true, reduceIte, if_true, if_false, ite_true, ite_false, Bool.false_eq_true, Bool.not_true, Bool.not_false, Bool.and_true, Bool.true_and, Bool.and_false, Bool.false_and, Bool.or_true, Bool.true_or, decide_true, decide_false, decide_eq_true_eq]
theorem ev_labels (ns : List Int) (h1 : 1 ≤ ns.length) (h2 : ns.length ≤ 12) (S : List Ins) : cf_is_valid_labels [.tup (ns.map D.int)] S = .ok (.va (.bl (Wr.labI 0 ns))) ⟨[], S⟩ := by
  obtain ⟨k', y', e1, e2⟩ := forL_lab S (.va (.tup (ns.map D.int))) ns 0 .un
  have i1 : (1 : Int) ≤ (ns.length : Int) := by omega
  have i2 : (ns.length : Int) ≤ 12 := by omega
  simp only [cf_is_valid_labels, m_is_valid_labels]
  cases h : Wr.labI 0 ns with
  | true => simp only [List.length_map, i1, i2, e1 h, e_mSeq, e_mIfS, e_mT, e_mBin, e_mUn, e_mNm, e_mNv, e_mF, e_mC, e_mRet, e_mSet, e_mSetIx, e_mApp, e_mExpr, e_mCB, e_mHcons, e_mHnil, e_mAcons, e_mAnil, e_mTup, e_mLst, e_mNx, e_mRetN, e_mIsN, e_mIsi, e_mTru, e_mAnd, e_mOr, e_mNot, e_mV, e_mAndV, e_mOrV, e_mNotV, e_mChain, e_mPar, e_mAsg, e_mFor, e_mItems, e_mRng1, e_mRng2, e_mEnum, e_mRaise, e_mCall, e_mAtt, e_mSetAtt, e_mMeth, e_mAnil0, e_mTry, e_mWh, e_mLc, e_mYes, e_mStar1, e_mPub, e_mAppO, e_mMt, e_mAstar, e_mSl, e_mPart, e_mNoPart, e_mBrk, e_mIf, e_mIx, e_mgName, e_mgTup, e_mgNil, e_mgCons, mDef, mDefV, mDefC, mCallAt, Mi.R.ne,
  Mi.bnd_ok, Mi.bnd_er, Mi.bnd_no, o_ok, o_er, o_no, ne_ok, ne_er, ne_no, Hd.at, rsv, opt, fin, ent, atAll, ownAt, gLt_ii, gLe_ii, gGt_ii, gGe_ii, gAdd, Mi.gSub, gLen, gNeg, gIx, atI_0, atI_1, gEq_int, gNe_int, Sl.d, kdOf, ansT, kI, kB, kT, kL, kS, insAt, tabA, tabS, tabM, List.getD_cons_zero, List.getD_cons_succ, truD, Option.bind_some, Option.bind_none, Option.map_some, Option.map_none,
  List.map_cons, List.map_nil, List.length_cons, List.length_nil, List.replicate_succ, List.replicate_zero, List.cons_append, List.nil_append, List.append_nil, List.getElem?_cons_zero, List.getElem?_cons_succ, List.set_cons_zero, List.set_cons_succ, Nat.reduceAdd, Nat.reduceSub, Nat.reduceLT, Nat.reduceEqDiff, Nat.reduceLeDiff, Nat.zero_add, natLit, le_LIM, lt_LIM, List.take_zero, List.drop_zero, List.take_succ_cons, List.drop_succ_cons, Nat.zero_le, true_and, and_true, and_self, Nat.reduceLeDiff, Int.reduceEq, Int.reduceLT, Int.reduceLE, Int.reduceAdd, Int.reduceSub, Int.reduceMul, Int.reduceNeg, Int.reduceToNat, eq_self_iff_true, reduceIte, if_true, if_false, ite_true, ite_false, Bool.false_eq_true, Bool.not_true, Bool.not_false, Bool.and_true, Bool.true_and, Bool.and_false, Bool.false_and, Bool.or_true, Bool.true_or, decide_true, decide_false, decide_eq_true_eq]
  | false => simp only [List.length_map, i1, i2, e2 h, e_mSeq, e_mIfS, e_mT, e_mBin, e_mUn, e_mNm, e_mNv, e_mF, e_mC, e_mRet, e_mSet, e_mSetIx, e_mApp, e_mExpr, e_mCB, e_mHcons, e_mHnil, e_mAcons, e_mAnil, e_mTup, e_mLst, e_mNx, e_mRetN, e_mIsN, e_mIsi, e_mTru, e_mAnd, e_mOr, e_mNot, e_mV, e_mAndV, e_mOrV, e_mNotV, e_mChain, e_mPar, e_mAsg, e_mFor, e_mItems, e_mRng1, e_mRng2, e_mEnum, e_mRaise, e_mCall, e_mAtt, e_mSetAtt, e_mMeth, e_mAnil0, e_mTry, e_mWh, e_mLc, e_mYes, e_mStar1, e_mPub, e_mAppO, e_mMt, e_mAstar, e_mSl, e_mPart, e_mNoPart, e_mBrk, e_mIf, e_mIx, e_mgName, e_mgTup, e_mgNil, e_mgCons, mDef, mDefV, mDefC, mCallAt, Mi.R.ne,
  Mi.bnd_ok, Mi.bnd_er, Mi.bnd_no, o_ok, o_er, o_no, ne_ok, ne_er, ne_no, Hd.at, rsv, opt, fin, ent, atAll, ownAt, gLt_ii, gLe_ii, gGt_ii, gGe_ii, gAdd, Mi.gSub, gLen, gNeg, gIx, atI_0, atI_1, gEq_int, gNe_int, Sl.d, kdOf, ansT, kI, kB, kT, kL, kS, insAt, tabA, tabS, tabM, List.getD_cons_zero, List.getD_cons_succ, truD, Option.bind_some, Option.bind_none, Option.map_some, Option.map_none,
  List.map_cons, List.map_nil, List.length_cons, List.length_nil, List.replicate_succ, List.replicate_zero, List.cons_append, List.nil_append, List.append_nil, List.getElem?_cons_zero, List.getElem?_cons_succ, List.set_cons_zero, List.set_cons_succ, Nat.reduceAdd, Nat.reduceSub, Nat.reduceLT, Nat.reduceEqDiff, Nat.reduceLeDiff, Nat.zero_add, natLit, le_LIM, lt_LIM, List.take_zero, List.drop_zero, List.take_succ_cons, List.drop_succ_cons, Nat.zero_le, true_and, and_true, and_self, Nat.reduceLeDiff, Int.reduceEq, Int.reduceLT, Int.reduceLE, Int.reduceAdd, Int.reduceSub, Int.reduceMul, Int.reduceNeg, Int.reduceToNat, eq_self_iff_true, reduceIte, if_true, if_false, ite_true, ite_false, Bool.false_eq_true, Bool.not_true, Bool.not_false, Bool.and_true, Bool.true_and, Bool.and_false, Bool.false_and, Bool.or_true, Bool.true_or, decide_true, decide_false, decide_eq_true_eq]
theorem ev_check_labels (ns : List Int) (h1 : 1 ≤ ns.length) (h2 : ns.length ≤ 12) (h : Wr.labI 0 ns = true) (S : List Ins) : cf_check_labels [.tup (ns.map D.int)] S = .ok (.va .non) ⟨[], S⟩ := by
  simp only [cf_check_labels, m_check_labels]
  simp only [ev_labels ns h1 h2, h, e_mSeq, e_mIfS, e_mT, e_mBin, e_mUn, e_mNm, e_mNv, e_mF, e_mC, e_mRet, e_mSet, e_mSetIx, e_mApp, e_mExpr, e_mCB, e_mHcons, e_mHnil, e_mAcons, e_mAnil, e_mTup, e_mLst, e_mNx, e_mRetN, e_mIsN, e_mIsi, e_mTru, e_mAnd, e_mOr, e_mNot, e_mV, e_mAndV, e_mOrV, e_mNotV, e_mChain, e_mPar, e_mAsg, e_mFor, e_mItems, e_mRng1, e_mRng2, e_mEnum, e_mRaise, e_mCall, e_mAtt, e_mSetAtt, e_mMeth, e_mAnil0, e_mTry, e_mWh, e_mLc, e_mYes, e_mStar1, e_mPub, e_mAppO, e_mMt, e_mAstar, e_mSl, e_mPart, e_mNoPart, e_mBrk, e_mIf, e_mIx, e_mgName, e_mgTup, e_mgNil, e_mgCons, mDef, mDefV, mDefC, mCallAt, Mi.R.ne,
  Mi.bnd_ok, Mi.bnd_er, Mi.bnd_no, o_ok, o_er, o_no, ne_ok, ne_er, ne_no, Hd.at, rsv, opt, fin, ent, atAll, ownAt, gLt_ii, gLe_ii, gGt_ii, gGe_ii, gAdd, Mi.gSub, gLen, gNeg, gIx, atI_0, atI_1, gEq_int, gNe_int, Sl.d, kdOf, ansT, kI, kB, kT, kL, kS, insAt, tabA, tabS, tabM, List.getD_cons_zero, List.getD_cons_succ, truD, Option.bind_some, Option.bind_none, Option.map_some, Option.map_none,
  List.map_cons, List.map_nil, List.length_cons, List.length_nil, List.replicate_succ, List.replicate_zero, List.cons_append, List.nil_append, List.append_nil, List.getElem?_cons_zero, List.getElem?_cons_succ, List.set_cons_zero, List.set_cons_succ, Nat.reduceAdd, Nat.reduceSub, Nat.reduceLT, Nat.reduceEqDiff, Nat.reduceLeDiff, Nat.zero_add, natLit, le_LIM, lt_LIM, List.take_zero, List.drop_zero, List.take_succ_cons, List.drop_succ_cons, Nat.zero_le, true_and, and_true, and_self, Nat.reduceLeDiff, Int.reduceEq, Int.reduceLT, Int.reduceLE, Int.reduceAdd, Int.reduceSub, Int.reduceMul, Int.reduceNeg, Int.reduceToNat, eq_self_iff_true, reduceIte, if_true, if_false, ite_true, ite_false, Bool.false_eq_true, Bool.not_true, Bool.not_false, Bool.and_true, Bool.true_and, Bool.and_false, Bool.false_and, Bool.or_true, Bool.true_or, decide_true, decide_false, decide_eq_true_eq]
end Lw

namespace Lw
open PySem Mi
def cellD (c : List Nat) : Ins := .lst (c.map natD)
def objsD (m k : Nat) : List D := (List.range k).map fun i => .obj (m + i)
theorem objsD_succ (m k : Nat) : objsD m (k + 1) = .obj m :: objsD (m + 1) k := by
  unfold objsD
  rw [List.range_succ_eq_map, List.map_cons, List.map_map, Nat.add_zero]
  congr 1
  apply List.map_congr_left
  intro i _
  show D.obj (m + (i + 1)) = D.obj (m + 1 + i)
  congr 1; omega
theorem lc_pub (a b c d f : Sl) : ∀ (items : List D) (S : List Ins), lcLoop [4] cg_parts_of1 mYes ce_parts_of1 items ⟨[a, b, c, d, .un, f], S⟩ =
    .ok (objsD S.length items.length) ⟨[a, b, c, d, .un, f], S ++ (List.replicate items.length ([] : List Nat)).map cellD⟩
  | [], S => by simp [lcLoop, objsD]
  | x :: items, S => by
    have ih := lc_pub a b c d f items (S ++ [.lst []])
    rw [lcLoop]
    simp only [cg_parts_of1, ce_parts_of1] at ih ⊢
    simp only [wipeS, ih, e_mSeq, e_mIfS, e_mT, e_mBin, e_mUn, e_mNm, e_mNv, e_mF, e_mC, e_mRet, e_mSet, e_mSetIx, e_mApp, e_mExpr, e_mCB, e_mHcons, e_mHnil, e_mAcons, e_mAnil, e_mTup, e_mLst, e_mNx, e_mRetN, e_mIsN, e_mIsi, e_mTru, e_mAnd, e_mOr, e_mNot, e_mV, e_mAndV, e_mOrV, e_mNotV, e_mChain, e_mPar, e_mAsg, e_mFor, e_mItems, e_mRng1, e_mRng2, e_mEnum, e_mRaise, e_mCall, e_mAtt, e_mSetAtt, e_mMeth, e_mAnil0, e_mTry, e_mWh, e_mLc, e_mYes, e_mStar1, e_mPub, e_mAppO, e_mMt, e_mAstar, e_mSl, e_mPart, e_mNoPart, e_mBrk, e_mIf, e_mIx, e_mgName, e_mgTup, e_mgNil, e_mgCons, mDef, mDefV, mDefC, mCallAt, Mi.R.ne,
  Mi.bnd_ok, Mi.bnd_er, Mi.bnd_no, o_ok, o_er, o_no, ne_ok, ne_er, ne_no, Hd.at, rsv, opt, fin, ent, atAll, ownAt, gLt_ii, gLe_ii, gGt_ii, gGe_ii, gAdd, Mi.gSub, gLen, gNeg, gIx, atI_0, atI_1, gEq_int, gNe_int, Sl.d, kdOf, ansT, kI, kB, kT, kL, kS, insAt, tabA, tabS, tabM, List.getD_cons_zero, List.getD_cons_succ, truD, Option.bind_some, Option.bind_none, Option.map_some, Option.map_none,
  List.map_cons, List.map_nil, List.length_cons, List.length_nil, List.replicate_succ, List.replicate_zero, List.cons_append, List.nil_append, List.append_nil, List.getElem?_cons_zero, List.getElem?_cons_succ, List.set_cons_zero, List.set_cons_succ, Nat.reduceAdd, Nat.reduceSub, Nat.reduceLT, Nat.reduceEqDiff, Nat.reduceLeDiff, Nat.zero_add, natLit, le_LIM, lt_LIM, List.take_zero, List.drop_zero, List.take_succ_cons, List.drop_succ_cons, Nat.zero_le, true_and, and_true, and_self, Nat.reduceLeDiff, Int.reduceEq, Int.reduceLT, Int.reduceLE, Int.reduceAdd, Int.reduceSub, Int.reduceMul, Int.reduceNeg, Int.reduceToNat, eq_self_iff_true, reduceIte, if_true, if_false, ite_true, ite_false, Bool.false_eq_true, Bool.not_true, Bool.not_false, Bool.and_true, Bool.true_and, Bool.and_false, Bool.false_and, Bool.or_true, Bool.true_or, decide_true, decide_false, decide_eq_true_eq]
    rw [List.length_append, objsD_succ]
    simp [List.replicate_succ, cellD]
theorem atI_objs {m k n : Nat} (h : n < k) : L2.atI (objsD m k) (n : Int) = some (.obj (m + n)) := by
  rw [Mi.atI_nat]
  unfold objsD
  rw [List.getElem?_map, List.getElem?_range h]
  rfl
def putP (cs : List (List Nat)) (l i : Nat) : List (List Nat) := cs.set l ((cs.getD l []) ++ [i])
theorem putP_len (cs : List (List Nat)) (l i : Nat) : (putP cs l i).length = cs.length := by simp [putP]
theorem cell_at {S0 : List Ins} {cs : List (List Nat)} {l : Nat} (h : l < cs.length) : (S0 ++ cs.map cellD)[S0.length + l]? = some (cellD (cs.getD l [])) := by
  rw [List.getElem?_append_right (by omega), Nat.add_sub_cancel_left, List.getElem?_map, List.getD_eq_getElem?_getD, List.getElem?_eq_getElem h]
  rfl
theorem cell_set {S0 : List Ins} {cs : List (List Nat)} {l : Nat} {c : List Nat} : (S0 ++ cs.map cellD).set (S0.length + l) (cellD c) = S0 ++ (cs.set l c).map cellD := by
  rw [List.set_append_right _ _ (by omega), Nat.add_sub_cancel_left, List.map_set]
def fillP : Nat → List Nat → List (List Nat) → List (List Nat)
  | _, [], cs => cs
  | i, l :: ls, cs => fillP (i + 1) ls (putP cs l i)
theorem forL_parts (S0 : List Ins) (a f g : Sl) (k : Nat) : ∀ (ls : List Nat) (i : Nat) (cs : List (List Nat)) (x y : Sl), cs.length = k → (∀ l ∈ ls, l < k) → (∀ c ∈ cs, c.length ≤ i) → i + ls.length < 1000 →
    ∃ x' y', forL fg_parts_of1 fb_parts_of1 (enumD i (ls.map natD)) ⟨[a, .ow (objsD S0.length k), x, y, f, g], S0 ++ cs.map cellD⟩ = .nx ⟨[a, .ow (objsD S0.length k), x', y', f, g], S0 ++ (fillP i ls cs).map cellD⟩
  | [], i, cs, x, y, _, _, _, _ => ⟨x, y, rfl⟩
  | l :: ls, i, cs, x, y, hc, hl, hb, hi => by
    have h1 := hl l List.mem_cons_self
    have hm : (cs.getD l []).length ≤ i := by
      rw [List.getD_eq_getElem?_getD, List.getElem?_eq_getElem (by omega)]
      exact hb _ (List.getElem_mem _)
    obtain ⟨x', y', e⟩ := forL_parts S0 a f g k ls (i + 1) (putP cs l i) (.va (natD i)) (.va (natD l)) (by rw [putP_len, hc]) (fun z m => hl z (List.mem_cons_of_mem _ m)) (fun c m => by
      rcases List.mem_or_eq_of_mem_set m with m | m
      · exact Nat.le_succ_of_le (hb c m)
      · rw [m, List.length_append]; simp; exact hm) (by rw [List.length_cons] at hi; omega)
    refine ⟨x', y', ?_⟩
    have ca : (S0 ++ cs.map cellD)[S0.length + l]? = some (.lst ((cs.getD l []).map natD)) := cell_at (by omega)
    have cl : ((cs.getD l []).map natD).length < LIM := by rw [List.length_map]; exact Nat.lt_of_le_of_lt hm (Nat.lt_of_lt_of_le (show i < 1000 by omega) (by decide))
    have cset : (S0 ++ cs.map cellD).set (S0.length + l) (.lst ((cs.getD l []).map natD ++ [.int i])) = S0 ++ (putP cs l i).map cellD := by
      rw [putP, ← cell_set]
      congr 1
      simp [cellD, natD]
    rw [show fillP i (l :: ls) cs = fillP (i + 1) ls (putP cs l i) from rfl, ← e, List.map_cons, enumD, forL]
    simp only [fg_parts_of1, fb_parts_of1, natD, atI_objs h1, Mi.numAt, lstAt, ca, cl, cset, e_mSeq, e_mIfS, e_mT, e_mBin, e_mUn, e_mNm, e_mNv, e_mF, e_mC, e_mRet, e_mSet, e_mSetIx, e_mApp, e_mExpr, e_mCB, e_mHcons, e_mHnil, e_mAcons, e_mAnil, e_mTup, e_mLst, e_mNx, e_mRetN, e_mIsN, e_mIsi, e_mTru, e_mAnd, e_mOr, e_mNot, e_mV, e_mAndV, e_mOrV, e_mNotV, e_mChain, e_mPar, e_mAsg, e_mFor, e_mItems, e_mRng1, e_mRng2, e_mEnum, e_mRaise, e_mCall, e_mAtt, e_mSetAtt, e_mMeth, e_mAnil0, e_mTry, e_mWh, e_mLc, e_mYes, e_mStar1, e_mPub, e_mAppO, e_mMt, e_mAstar, e_mSl, e_mPart, e_mNoPart, e_mBrk, e_mIf, e_mIx, e_mgName, e_mgTup, e_mgNil, e_mgCons, mDef, mDefV, mDefC, mCallAt, Mi.R.ne,
  Mi.bnd_ok, Mi.bnd_er, Mi.bnd_no, o_ok, o_er, o_no, ne_ok, ne_er, ne_no, Hd.at, rsv, opt, fin, ent, atAll, ownAt, gLt_ii, gLe_ii, gGt_ii, gGe_ii, gAdd, Mi.gSub, gLen, gNeg, gIx, atI_0, atI_1, gEq_int, gNe_int, Sl.d, kdOf, ansT, kI, kB, kT, kL, kS, insAt, tabA, tabS, tabM, List.getD_cons_zero, List.getD_cons_succ, truD, Option.bind_some, Option.bind_none, Option.map_some, Option.map_none,
  List.map_cons, List.map_nil, List.length_cons, List.length_nil, List.replicate_succ, List.replicate_zero, List.cons_append, List.nil_append, List.append_nil, List.getElem?_cons_zero, List.getElem?_cons_succ, List.set_cons_zero, List.set_cons_succ, Nat.reduceAdd, Nat.reduceSub, Nat.reduceLT, Nat.reduceEqDiff, Nat.reduceLeDiff, Nat.zero_add, natLit, le_LIM, lt_LIM, List.take_zero, List.drop_zero, List.take_succ_cons, List.drop_succ_cons, Nat.zero_le, true_and, and_true, and_self, Nat.reduceLeDiff, Int.reduceEq, Int.reduceLT, Int.reduceLE, Int.reduceAdd, Int.reduceSub, Int.reduceMul, Int.reduceNeg, Int.reduceToNat, eq_self_iff_true, reduceIte, if_true, if_false, ite_true, ite_false, Bool.false_eq_true, Bool.not_true, Bool.not_false, Bool.and_true, Bool.true_and, Bool.and_false, Bool.false_and, Bool.or_true, Bool.true_or, decide_true, decide_false, decide_eq_true_eq]
theorem rsv_obj {S0 : List Ins} {cs : List (List Nat)} {l : Nat} (h : l < cs.length) : (S0 ++ cs.map cellD)[S0.length + l]? = some (.lst ((cs.getD l []).map natD)) := cell_at h
theorem lc_parts (S0 : List Ins) (a b x y f : Sl) (k : Nat) (cs : List (List Nat)) (hc : cs.length = k) : lcLoop [5] cg_parts_of2 mYes ce_parts_of2 (objsD S0.length k) ⟨[a, b, x, y, f, .un], S0 ++ cs.map cellD⟩ =
    .ok (cs.map tupD) ⟨[a, b, x, y, f, .un], S0 ++ cs.map cellD⟩ := by
  have z := lc_mapB (own := [5]) (mg := cg_parts_of2) (me := ce_parts_of2) (st0 := ⟨[a, b, x, y, f, .un], S0 ++ cs.map cellD⟩) (fun i => .obj (S0.length + i)) (fun i => tupD (cs.getD i [])) (fun i => [a, b, x, y, f, .va (.obj (S0.length + i))]) rfl (List.range k) (fun i m => by
    have hi : i < cs.length := by rw [hc]; exact List.mem_range.mp m
    refine ⟨rfl, rfl, .va (tupD (cs.getD i [])), ?_, rfl⟩
    simp only [ce_parts_of2, rsv_obj hi, gTuple, tupD, e_mSeq, e_mIfS, e_mT, e_mBin, e_mUn, e_mNm, e_mNv, e_mF, e_mC, e_mRet, e_mSet, e_mSetIx, e_mApp, e_mExpr, e_mCB, e_mHcons, e_mHnil, e_mAcons, e_mAnil, e_mTup, e_mLst, e_mNx, e_mRetN, e_mIsN, e_mIsi, e_mTru, e_mAnd, e_mOr, e_mNot, e_mV, e_mAndV, e_mOrV, e_mNotV, e_mChain, e_mPar, e_mAsg, e_mFor, e_mItems, e_mRng1, e_mRng2, e_mEnum, e_mRaise, e_mCall, e_mAtt, e_mSetAtt, e_mMeth, e_mAnil0, e_mTry, e_mWh, e_mLc, e_mYes, e_mStar1, e_mPub, e_mAppO, e_mMt, e_mAstar, e_mSl, e_mPart, e_mNoPart, e_mBrk, e_mIf, e_mIx, e_mgName, e_mgTup, e_mgNil, e_mgCons, mDef, mDefV, mDefC, mCallAt, Mi.R.ne,
  Mi.bnd_ok, Mi.bnd_er, Mi.bnd_no, o_ok, o_er, o_no, ne_ok, ne_er, ne_no, Hd.at, rsv, opt, fin, ent, atAll, ownAt, gLt_ii, gLe_ii, gGt_ii, gGe_ii, gAdd, Mi.gSub, gLen, gNeg, gIx, atI_0, atI_1, gEq_int, gNe_int, Sl.d, kdOf, ansT, kI, kB, kT, kL, kS, insAt, tabA, tabS, tabM, List.getD_cons_zero, List.getD_cons_succ, truD, Option.bind_some, Option.bind_none, Option.map_some, Option.map_none,
  List.map_cons, List.map_nil, List.length_cons, List.length_nil, List.replicate_succ, List.replicate_zero, List.cons_append, List.nil_append, List.append_nil, List.getElem?_cons_zero, List.getElem?_cons_succ, List.set_cons_zero, List.set_cons_succ, Nat.reduceAdd, Nat.reduceSub, Nat.reduceLT, Nat.reduceEqDiff, Nat.reduceLeDiff, Nat.zero_add, natLit, le_LIM, lt_LIM, List.take_zero, List.drop_zero, List.take_succ_cons, List.drop_succ_cons, Nat.zero_le, true_and, and_true, and_self, Nat.reduceLeDiff, Int.reduceEq, Int.reduceLT, Int.reduceLE, Int.reduceAdd, Int.reduceSub, Int.reduceMul, Int.reduceNeg, Int.reduceToNat, eq_self_iff_true, reduceIte, if_true, if_false, ite_true, ite_false, Bool.false_eq_true, Bool.not_true, Bool.not_false, Bool.and_true, Bool.true_and, Bool.and_false, Bool.false_and, Bool.or_true, Bool.true_or, decide_true, decide_false, decide_eq_true_eq])
  rw [show (List.range k).map (fun i => D.obj (S0.length + i)) = objsD S0.length k from rfl] at z
  rw [z]
  congr 1
  subst hc
  apply List.ext_getElem
  · simp
  · intro i h1 h2
    simp
    rw [List.getElem?_eq_getElem (by simpa using h1)]
    rfl
theorem ints_nat : ∀ ls : List Nat, intsD (ls.map natD) = some (ls.map fun n : Nat => (n : Int))
  | [] => rfl
  | l :: ls => by rw [List.map_cons, natD, intsD, ints_nat ls]; rfl
def topL : Nat → List Nat → Nat
  | m, [] => m
  | m, l :: ls => topL (max m l) ls
theorem maxI_nat : ∀ (ls : List Nat) (m : Nat), maxI (m : Int) (ls.map fun n : Nat => (n : Int)) = (topL m ls : Nat)
  | [], m => rfl
  | l :: ls, m => by
    rw [List.map_cons, maxI, topL, ← maxI_nat ls (max m l)]
    congr 1
    split <;> omega
theorem topL_le : ∀ (ls : List Nat) (m l : Nat), (l = m ∨ l ∈ ls) → l ≤ topL m ls
  | [], m, l, h => by
    rcases h with h | h
    · exact Nat.le_of_eq h
    · cases h
  | x :: ls, m, l, h => by
    rw [topL]
    rcases h with h | h
    · exact Nat.le_trans (by omega) (topL_le ls (max m x) (max m x) (.inl rfl))
    · rcases List.mem_cons.mp h with h | h
      · exact Nat.le_trans (by omega) (topL_le ls (max m x) (max m x) (.inl rfl))
      · exact topL_le ls _ l (.inr h)
theorem topL_lt : ∀ (ls : List Nat) (m b : Nat), m < b → (∀ l ∈ ls, l < b) → topL m ls < b
  | [], m, b, h, _ => h
  | x :: ls, m, b, h, hl => topL_lt ls _ b (by have := hl x List.mem_cons_self; omega) fun l m => hl l (List.mem_cons_of_mem _ m)
def natI (ls : List Nat) : List Int := ls.map fun n : Nat => (n : Int)
def manyP (ls : List Nat) : Nat := topL 0 ls + 1
def partsP (ls : List Nat) : List (List Nat) := fillP 0 ls (List.replicate (manyP ls) [])
theorem fillP_len : ∀ (ls : List Nat) (i : Nat) (cs : List (List Nat)), (fillP i ls cs).length = cs.length
  | [], _, _ => rfl
  | l :: ls, i, cs => by rw [fillP, fillP_len ls, putP_len]
theorem ev_parts (ls : List Nat) (h1 : 1 ≤ ls.length) (h2 : ls.length ≤ 12) (hb : ∀ l ∈ ls, l < 12) (h : Wr.labI 0 (natI ls) = true) (S : List Ins) :
    cf_parts_of [.tup (ls.map natD)] S = .ok (.va (.tup ((partsP ls).map tupD))) ⟨[], S ++ (partsP ls).map cellD⟩ := by
  have e0 : ls.map natD = (natI ls).map D.int := by rw [natI, List.map_map]; rfl
  have hc := ev_check_labels (natI ls) (by simpa [natI] using h1) (by simpa [natI] using h2) h S
  rw [← e0] at hc
  have hk : manyP ls < 13 := by
    have := topL_lt ls 0 12 (by decide) hb
    unfold manyP; omega
  have hmx : gMax [.tup (ls.map natD)] = some (.va (.int (topL 0 ls : Nat))) := by
    cases ls with
    | nil => simp at h1
    | cons l ls =>
      show (intsD ((l :: ls).map natD)).bind maxL = _
      rw [ints_nat, Option.bind_some, List.map_cons, maxL, maxI_nat, topL, Nat.zero_max]
  have lc := lc_pub (.va (.tup (ls.map natD))) .un .un .un .un (rngD 0 (manyP ls)) S
  have hr : (rngD 0 (manyP ls)).length = manyP ls := by simp [rngD]
  rw [hr] at lc
  obtain ⟨x', y', e⟩ := forL_parts S (.va (.tup (ls.map natD))) .un .un (manyP ls) ls 0 (List.replicate (manyP ls) []) .un .un (by simp) (fun l m => by have := topL_le ls 0 l (.inr m); unfold manyP; omega) (fun c m => by rw [List.eq_of_mem_replicate m]; exact Nat.zero_le _) (by omega)
  rw [show fillP 0 ls (List.replicate (manyP ls) []) = partsP ls from rfl] at e
  have lp := lc_parts S (.va (.tup (ls.map natD))) (.va (.lst (objsD S.length (manyP ls)))) x' y' .un (manyP ls) (partsP ls) (by rw [partsP, fillP_len]; simp)
  have l1 : manyP ls ≤ LIM := by unfold LIM; omega
  have l2 : ((partsP ls).map tupD).length ≤ LIM := by rw [List.length_map, partsP, fillP_len]; simpa using l1
  have l3 : (objsD S.length (manyP ls)).length ≤ LIM := by simpa [objsD] using l1
  have hR : rngOk ((manyP ls : Nat) : Int) = true := rngOk_nat (by omega)
  have ht : ((topL 0 ls : Nat) : Int) + 1 = (manyP ls : Nat) := by unfold manyP; omega
  simp only [cf_parts_of, m_parts_of]
  simp only [hc, hmx, ht, hR, Int.toNat_natCast, wipeS, rst, vaOf, hr, l1, lc, e, l3, lp, gTuple, e_mSeq, e_mIfS, e_mT, e_mBin, e_mUn, e_mNm, e_mNv, e_mF, e_mC, e_mRet, e_mSet, e_mSetIx, e_mApp, e_mExpr, e_mCB, e_mHcons, e_mHnil, e_mAcons, e_mAnil, e_mTup, e_mLst, e_mNx, e_mRetN, e_mIsN, e_mIsi, e_mTru, e_mAnd, e_mOr, e_mNot, e_mV, e_mAndV, e_mOrV, e_mNotV, e_mChain, e_mPar, e_mAsg, e_mFor, e_mItems, e_mRng1, e_mRng2, e_mEnum, e_mRaise, e_mCall, e_mAtt, e_mSetAtt, e_mMeth, e_mAnil0, e_mTry, e_mWh, e_mLc, e_mYes, e_mStar1, e_mPub, e_mAppO, e_mMt, e_mAstar, e_mSl, e_mPart, e_mNoPart, e_mBrk, e_mIf, e_mIx, e_mgName, e_mgTup, e_mgNil, e_mgCons, mDef, mDefV, mDefC, mCallAt, Mi.R.ne,
  Mi.bnd_ok, Mi.bnd_er, Mi.bnd_no, o_ok, o_er, o_no, ne_ok, ne_er, ne_no, Hd.at, rsv, opt, fin, ent, atAll, ownAt, gLt_ii, gLe_ii, gGt_ii, gGe_ii, gAdd, Mi.gSub, gLen, gNeg, gIx, atI_0, atI_1, gEq_int, gNe_int, Sl.d, kdOf, ansT, kI, kB, kT, kL, kS, insAt, tabA, tabS, tabM, List.getD_cons_zero, List.getD_cons_succ, truD, Option.bind_some, Option.bind_none, Option.map_some, Option.map_none,
  List.map_cons, List.map_nil, List.length_cons, List.length_nil, List.replicate_succ, List.replicate_zero, List.cons_append, List.nil_append, List.append_nil, List.getElem?_cons_zero, List.getElem?_cons_succ, List.set_cons_zero, List.set_cons_succ, Nat.reduceAdd, Nat.reduceSub, Nat.reduceLT, Nat.reduceEqDiff, Nat.reduceLeDiff, Nat.zero_add, natLit, le_LIM, lt_LIM, List.take_zero, List.drop_zero, List.take_succ_cons, List.drop_succ_cons, Nat.zero_le, true_and, and_true, and_self, Nat.reduceLeDiff, Int.reduceEq, Int.reduceLT, Int.reduceLE, Int.reduceAdd, Int.reduceSub, Int.reduceMul, Int.reduceNeg, Int.reduceToNat, eq_self_iff_true, reduceIte, if_true, if_false, ite_true, ite_false, Bool.false_eq_true, Bool.not_true, Bool.not_false, Bool.and_true, Bool.true_and, Bool.and_false, Bool.false_and, Bool.or_true, Bool.true_or, decide_true, decide_false, decide_eq_true_eq]
end Lw

set_option exponentiation.threshold 100000
namespace Lw
open PySem Mi
/-- the cases with label l, from i on -/
def idxs : Nat → List Nat → Nat → List Nat
  | _, [], _ => []
  | i, x :: xs, l => if x = l then i :: idxs (i + 1) xs l else idxs (i + 1) xs l
theorem getD_set_nat (cs : List (List Nat)) (l k : Nat) (c : List Nat) (h : l < cs.length) : (cs.set l c).getD k [] = if l = k then c else cs.getD k [] := by
  rw [List.getD_eq_getElem?_getD, List.getD_eq_getElem?_getD, List.getElem?_set]
  by_cases e : l = k
  · subst e; simp [h]
  · simp [e]
theorem fillP_at : ∀ (ls : List Nat) (i : Nat) (cs : List (List Nat)) (l : Nat), (∀ x ∈ ls, x < cs.length) → (fillP i ls cs).getD l [] = cs.getD l [] ++ idxs i ls l
  | [], i, cs, l, _ => by simp [fillP, idxs]
  | x :: xs, i, cs, l, h => by
    have hx := h x List.mem_cons_self
    rw [fillP, fillP_at xs (i + 1) (putP cs x i) l (fun y m => by rw [putP_len]; exact h y (List.mem_cons_of_mem _ m)), putP, getD_set_nat _ _ _ _ hx, idxs]
    by_cases e : x = l
    · subst e; simp
    · simp [e]
theorem partsP_eq (ls : List Nat) : partsP ls = (List.range (manyP ls)).map (idxs 0 ls) := by
  have hl : (partsP ls).length = manyP ls := by rw [partsP, fillP_len, List.length_replicate]
  apply List.ext_getElem
  · simpa using hl
  · intro l h1 h2
    have z := fillP_at ls 0 (List.replicate (manyP ls) []) l (fun x m => by
      have := topL_le ls 0 x (.inr m)
      rw [List.length_replicate, manyP]; omega)
    rw [show fillP 0 ls (List.replicate (manyP ls) []) = partsP ls from rfl, List.getD_eq_getElem?_getD, List.getElem?_eq_getElem h1] at z
    rw [List.getElem_map, List.getElem_range]
    rw [hl] at h1
    have e0 : (List.replicate (manyP ls) ([] : List Nat)).getD l [] = [] := by simp [List.getD_eq_getElem?_getD, h1]
    rw [e0] at z
    simpa using z
theorem mem_idxs : ∀ (ls : List Nat) (i l p : Nat), p ∈ idxs i ls l ↔ i ≤ p ∧ ls[p - i]? = some l
  | [], i, l, p => by simp [idxs]
  | x :: xs, i, l, p => by
    have ih := mem_idxs xs (i + 1) l p
    rw [idxs]
    by_cases hp : p = i
    · subst hp
      by_cases e : x = l
      · simp [e]
      · simp [e, ih]; omega
    · have e1 : p - i = (p - (i + 1)) + 1 ∨ p < i := by omega
      rcases e1 with e1 | e1
      · by_cases e : x = l
        · simp only [e, if_true, List.mem_cons, hp, false_or, ih, e1, List.getElem?_cons_succ]
          constructor
          · rintro ⟨a, b⟩; exact ⟨by omega, b⟩
          · rintro ⟨a, b⟩; exact ⟨by omega, b⟩
        · simp only [e, if_false, ih, e1, List.getElem?_cons_succ]
          constructor
          · rintro ⟨a, b⟩; exact ⟨by omega, b⟩
          · rintro ⟨a, b⟩; exact ⟨by omega, b⟩
      · have n1 : ¬ i + 1 ≤ p := by omega
        have n2 : ¬ i ≤ p := by omega
        by_cases e : x = l
        · simp [e, hp, ih, n1, n2]
        · simp [e, ih, n1, n2]
theorem idxs_lt {ls : List Nat} {l p : Nat} (h : p ∈ idxs 0 ls l) : p < ls.length := by
  obtain ⟨_, h⟩ := (mem_idxs ls 0 l p).mp h
  exact (List.getElem?_eq_some_iff.mp h).1
theorem idxs_lab {ls : List Nat} {l p : Nat} (h : p ∈ idxs 0 ls l) : ls[p]? = some l := ((mem_idxs ls 0 l p).mp h).2
theorem idxs_len : ∀ (ls : List Nat) (i l : Nat), (idxs i ls l).length ≤ ls.length
  | [], _, _ => Nat.le_refl _
  | x :: xs, i, l => by
    have := idxs_len xs (i + 1) l
    rw [idxs]
    split <;> simp <;> omega
theorem idxs_filter : ∀ (ls : List Nat) (i l : Nat), idxs i ls l = ((List.range ls.length).filter fun j => decide (ls.getD j 0 = l)).map (· + i)
  | [], i, l => by simp [idxs]
  | x :: xs, i, l => by
    rw [idxs, idxs_filter xs (i + 1) l, List.length_cons, List.range_succ_eq_map, List.filter_cons, List.filter_map]
    simp only [Function.comp_def, List.getD_cons_zero, List.getD_cons_succ, Nat.succ_eq_add_one]
    by_cases e : x = l
    · simp only [e, if_true, decide_true, List.map_cons, List.map_map, Nat.zero_add]
      congr 1
      apply List.map_congr_left
      intro j _
      show j + (i + 1) = j + 1 + i
      omega
    · simp only [e, if_false, decide_false, Bool.false_eq_true, List.map_map]
      apply List.map_congr_left
      intro j _
      show j + (i + 1) = j + 1 + i
      omega
theorem idxs0 (ls : List Nat) (l : Nat) : idxs 0 ls l = (List.range ls.length).filter fun j => decide (ls.getD j 0 = l) := by
  rw [idxs_filter]; simp
/-- weights of cases -/
def wsum (ws : List Int) (ps : List Nat) : Int := (ps.map fun p => ws.getD p 0).sum
theorem wsum_bd {ws : List Int} {B : Int} (h : ∀ w ∈ ws, 1 ≤ w ∧ w ≤ B) : ∀ (ps : List Nat), (∀ p ∈ ps, p < ws.length) → (ps.length : Int) ≤ wsum ws ps ∧ wsum ws ps ≤ B * ps.length
  | [], _ => by simp [wsum]
  | p :: ps, hp => by
    obtain ⟨h1, h2⟩ := wsum_bd h ps fun q m => hp q (List.mem_cons_of_mem _ m)
    have hq := hp p List.mem_cons_self
    have hw := h (ws.getD p 0) (by rw [List.getD_eq_getElem?_getD, List.getElem?_eq_getElem hq]; exact List.getElem_mem hq)
    have e : wsum ws (p :: ps) = ws.getD p 0 + wsum ws ps := by simp [wsum]
    rw [e, List.length_cons]
    generalize ws.getD p 0 = x at *
    constructor
    · omega
    · have : B * ((ps.length + 1 : Nat) : Int) = B * ps.length + B := by rw [Int.natCast_add, Int.mul_add]; simp
      omega
/-- a row: labels, and weights of up to 1,000 -/
structure RowOk (n : Nat) (ls : List Nat) (ws : List Int) : Prop where
  n1 : 1 ≤ n
  n2 : n ≤ 12
  ll : ls.length = n
  lw : ws.length = n
  lb : ∀ l ∈ ls, l < 12
  lab : Wr.labI 0 (natI ls) = true
  w : ∀ w ∈ ws, 1 ≤ w ∧ w ≤ 1000
def partOf (ls : List Nat) (p : Nat) : List Nat := idxs 0 ls (ls.getD p 0)
/-- the odds of the cases -/
def oddsF (ls : List Nat) (ws : List Int) : List Fr := (List.range ls.length).map fun p => lo (ws.getD p 0) (wsum ws (partOf ls p))
def labD (ls : List Nat) : D := .tup (ls.map natD)
def frsD (vs : List Fr) : D := .tup (vs.map Fr.d)
def partD (ls : List Nat) : D := .tup ((partsP ls).map tupD)
def wsD (ws : List Int) : D := .tup (ws.map D.int)
section
variable {n : Nat} {ls : List Nat} {ws : List Int}
theorem partOf_pos (r : RowOk n ls ws) {p : Nat} (hp : p < n) : 0 < wsum ws (partOf ls p) ∧ wsum ws (partOf ls p) ≤ 12000 := by
  have hm : p ∈ partOf ls p := by
    rw [partOf, mem_idxs]
    refine ⟨Nat.zero_le _, ?_⟩
    rw [Nat.sub_zero, List.getD_eq_getElem?_getD, List.getElem?_eq_getElem (by rw [r.ll]; exact hp)]
    rfl
  have h0 := List.length_pos_of_mem hm
  have h1 := idxs_len ls 0 (ls.getD p 0)
  obtain ⟨h2, h3⟩ := wsum_bd r.w (partOf ls p) fun q m => by rw [r.lw, ← r.ll]; exact idxs_lt m
  have h4 : (partOf ls p).length ≤ ls.length := h1
  have := r.n2; have := r.ll
  constructor <;> omega
theorem wat (r : RowOk n ls ws) {p : Nat} (hp : p < n) : 1 ≤ ws.getD p 0 ∧ ws.getD p 0 ≤ 1000 := by
  apply r.w
  rw [List.getD_eq_getElem?_getD, List.getElem?_eq_getElem (by rw [r.lw]; exact hp)]
  exact List.getElem_mem _
theorem oddsF_at (r : RowOk n ls ws) {p : Nat} (hp : p < n) : (oddsF ls ws).getD p (0, 1) = lo (ws.getD p 0) (wsum ws (partOf ls p)) := by
  rw [oddsF, List.getD_eq_getElem?_getD, List.getElem?_map, List.getElem?_range (by rw [r.ll]; exact hp)]
  rfl
theorem oddsF_len (r : RowOk n ls ws) : (oddsF ls ws).length = n := by rw [oddsF, List.length_map, List.length_range, r.ll]
theorem lo_le {t b : Int} (hb : 0 < b) {p : Nat} (h1 : t.natAbs ≤ 2 ^ p) (h2 : b.natAbs ≤ 2 ^ p) : (lo t b).le p :=
  ⟨Nat.le_trans (Wr.frT_le (by omega)) h1, Nat.le_trans (Wr.frB_le (by omega)) h2, frB_pos (by omega)⟩
theorem lo_fr {t b : Int} (hb : 0 < b) : isFr (lo t b).d = true := by
  obtain ⟨g, g0, e1, e2, p1, c⟩ := lo_ex (t := t) hb
  unfold Fr.d isFr
  simp only [decide_eq_true c, decide_eq_true (show 1 ≤ (lo t b).2 by omega), Bool.and_self]
theorem lo_pos {t b : Int} (hb : 0 < b) (ht : 0 < t) : 0 < (lo t b).1 := by
  obtain ⟨g, g0, e1, e2, p1, c⟩ := lo_ex (t := t) hb
  by_cases z : 0 < (lo t b).1
  · exact z
  · have : g * (lo t b).1 ≤ 0 := Int.mul_nonpos_of_nonneg_of_nonpos (by omega) (by omega)
    omega
theorem odds_mem (r : RowOk n ls ws) {y : Fr} (m : y ∈ oddsF ls ws) : ∃ p, p < n ∧ y = lo (ws.getD p 0) (wsum ws (partOf ls p)) := by
  obtain ⟨p, hp, rfl⟩ := List.mem_map.mp m
  exact ⟨p, by rw [← r.ll]; exact List.mem_range.mp hp, rfl⟩
theorem mem_partsP {ps : List Nat} (h : ps ∈ partsP ls) : ∃ l, ps = idxs 0 ls l := by
  rw [partsP_eq] at h
  obtain ⟨l, _, rfl⟩ := List.mem_map.mp h
  exact ⟨l, rfl⟩
theorem manyP_lt (r : RowOk n ls ws) : manyP ls < 13 := by
  have := topL_lt ls 0 12 (by decide) r.lb
  unfold manyP; omega
theorem partsP_len (ls : List Nat) : (partsP ls).length = manyP ls := by rw [partsP_eq]; simp
theorem part_of_mem {l p : Nat} (h : p ∈ idxs 0 ls l) : partOf ls p = idxs 0 ls l := by
  rw [partOf, List.getD_eq_getElem?_getD, idxs_lab h]; rfl
/-- the odds of some cases of a part -/
theorem tot_part (r : RowOk n ls ws) {l : Nat} {ps : List Nat} (hs : ∀ p ∈ ps, p ∈ idxs 0 ls l) (h0 : idxs 0 ls l ≠ []) : totF (pick (oddsF ls ws) ps) = lo (wsum ws ps) (wsum ws (idxs 0 ls l)) := by
  have hW : 0 < wsum ws (idxs 0 ls l) := by
    cases e : idxs 0 ls l with
    | nil => exact absurd e h0
    | cons q qs =>
      have hq : q ∈ idxs 0 ls l := by rw [e]; exact List.mem_cons_self
      have := (partOf_pos r (p := q) (by rw [← r.ll]; exact idxs_lt hq)).1
      rw [part_of_mem hq, e] at this
      exact this
  have e : pick (oddsF ls ws) ps = ps.map fun p => lo (ws.getD p 0) (wsum ws (idxs 0 ls l)) := by
    rw [pick]
    apply List.map_congr_left
    intro p m
    rw [oddsF_at r (by rw [← r.ll]; exact idxs_lt (hs p m)), part_of_mem (hs p m)]
  rw [e, totF_lo _ hW]
  rfl
theorem wsum_part_pos (r : RowOk n ls ws) {l : Nat} (h0 : idxs 0 ls l ≠ []) : 0 < wsum ws (idxs 0 ls l) ∧ wsum ws (idxs 0 ls l) ≤ 12000 := by
  cases e : idxs 0 ls l with
  | nil => exact absurd e h0
  | cons q qs =>
    have hq : q ∈ idxs 0 ls l := by rw [e]; exact List.mem_cons_self
    have := partOf_pos r (p := q) (by rw [← r.ll]; exact idxs_lt hq)
    rw [part_of_mem hq, e] at this
    exact this
end
end Lw

namespace Lw
open PySem Mi
/-- what an observer is given -/
structure ObsOk (ls : List Nat) (vs : List Fr) : Prop where
  l1 : 1 ≤ ls.length
  l2 : ls.length ≤ 12
  lb : ∀ l ∈ ls, l < 12
  lab : Wr.labI 0 (natI ls) = true
  len : vs.length = ls.length
  small : ∀ y ∈ vs, y.le 40
  fr : ∀ y ∈ vs, isFr y.d = true
  pos : ∀ y ∈ vs, 0 < y.1
  inr : ∀ ps ∈ partsP ls, (∀ p ∈ ps, p < ls.length) ∧ ps.length ≤ 12
  one : ∀ ps ∈ partsP ls, totF (pick vs ps) = (1, 1)
  many : (partsP ls).length < 3000
theorem ObsOk.odds {ls : List Nat} {vs : List Fr} (h : ObsOk ls vs) (S : List Ins) : cf_are_odds [frsD vs, labD ls, partD ls] S = .ok (.va (.bl true)) ⟨[], S⟩ := by
  have e := ev_are_odds vs (ls.map natD) (partsP ls) 40 (by rw [List.length_map]; exact h.len) (by have := h.len; have := h.l2; omega) h.many (by decide) h.small h.fr h.pos
    (fun ps m => ⟨fun p hp => by rw [h.len]; exact (h.inr ps m).1 p hp, by have := (h.inr ps m).2; omega, Nat.lt_of_le_of_lt (h.inr ps m).2 (by decide)⟩) S
  rw [show (partsP ls).all (fun ps => decide (totF (pick vs ps) = (1, 1))) = true from List.all_eq_true.mpr fun ps m => decide_eq_true (h.one ps m)] at e
  exact e
theorem at_new (S R : List Ins) (i : Ins) : (S ++ i :: R)[S.length]? = some i := by
  rw [List.getElem?_append_right (Nat.le_refl _), Nat.sub_self]; rfl
theorem set_new (S R : List Ins) (i j : Ins) : (S ++ i :: R).set S.length j = S ++ j :: R := by
  rw [List.set_append_right _ _ (Nat.le_refl _), Nat.sub_self]; rfl
def obsI (ls : List Nat) (vs : List Fr) : Ins := .ins 0 [("parts", partD ls), ("labels", labD ls), ("held_odds", frsD vs)]
section
variable {a b c : D}
theorem lk_labels : List.lookup ("labels" : Str) [(("parts" : Str), a), (("labels" : Str), b)] = some b := by
  have h : (("labels" : Str) == ("parts" : Str)) = false := by decide
  have h2 : (("labels" : Str) == ("labels" : Str)) = true := by decide
  simp only [List.lookup, h, h2]
theorem lk_parts : List.lookup ("parts" : Str) [(("parts" : Str), a), (("labels" : Str), b)] = some a := by
  have h2 : (("parts" : Str) == ("parts" : Str)) = true := by decide
  simp only [List.lookup, h2]
theorem put0 : putD ("parts" : Str) a [] = [(("parts" : Str), a)] := rfl
theorem put1 : putD ("labels" : Str) b [(("parts" : Str), a)] = [(("parts" : Str), a), (("labels" : Str), b)] := by
  have h : ¬ ("parts" : Str) = ("labels" : Str) := by decide
  simp only [putD, if_neg h]
theorem put2 : putD ("held_odds" : Str) c [(("parts" : Str), a), (("labels" : Str), b)] = [(("parts" : Str), a), (("labels" : Str), b), (("held_odds" : Str), c)] := by
  have h : ¬ ("parts" : Str) = ("held_odds" : Str) := by decide
  have h2 : ¬ ("labels" : Str) = ("held_odds" : Str) := by decide
  simp only [putD, if_neg h, if_neg h2]
end
theorem ev_odds_set {ls : List Nat} {vs : List Fr} (h : ObsOk ls vs) (S R : List Ins) :
    cf_Observer_odds_set [.obj S.length, frsD vs] (S ++ .ins 0 [("parts", partD ls), ("labels", labD ls)] :: R) = .ok (.va .non) ⟨[], S ++ obsI ls vs :: R⟩ := by
  have e := h.odds (S ++ .ins 0 [("parts", partD ls), ("labels", labD ls)] :: R)
  simp only [cf_Observer_odds_set, m_Observer_odds_set]
  simp only [at_new, lk_labels, lk_parts, e, put2, set_new, obsI, e_mSeq, e_mIfS, e_mT, e_mBin, e_mUn, e_mNm, e_mNv, e_mF, e_mC, e_mRet, e_mSet, e_mSetIx, e_mApp, e_mExpr, e_mCB, e_mHcons, e_mHnil, e_mAcons, e_mAnil, e_mTup, e_mLst, e_mNx, e_mRetN, e_mIsN, e_mIsi, e_mTru, e_mAnd, e_mOr, e_mNot, e_mV, e_mAndV, e_mOrV, e_mNotV, e_mChain, e_mPar, e_mAsg, e_mFor, e_mItems, e_mRng1, e_mRng2, e_mEnum, e_mRaise, e_mCall, e_mAtt, e_mSetAtt, e_mMeth, e_mAnil0, e_mTry, e_mWh, e_mLc, e_mYes, e_mStar1, e_mPub, e_mAppO, e_mMt, e_mAstar, e_mSl, e_mPart, e_mNoPart, e_mBrk, e_mIf, e_mIx, e_mgName, e_mgTup, e_mgNil, e_mgCons, mDef, mDefV, mDefC, mCallAt, Mi.R.ne,
  Mi.bnd_ok, Mi.bnd_er, Mi.bnd_no, o_ok, o_er, o_no, ne_ok, ne_er, ne_no, Hd.at, rsv, opt, fin, ent, atAll, ownAt, gLt_ii, gLe_ii, gGt_ii, gGe_ii, gAdd, Mi.gSub, gLen, gNeg, gIx, atI_0, atI_1, gEq_int, gNe_int, Sl.d, kdOf, ansT, kI, kB, kT, kL, kS, insAt, tabA, tabS, tabM, List.getD_cons_zero, List.getD_cons_succ, truD, Option.bind_some, Option.bind_none, Option.map_some, Option.map_none,
  List.map_cons, List.map_nil, List.length_cons, List.length_nil, List.replicate_succ, List.replicate_zero, List.cons_append, List.nil_append, List.append_nil, List.getElem?_cons_zero, List.getElem?_cons_succ, List.set_cons_zero, List.set_cons_succ, Nat.reduceAdd, Nat.reduceSub, Nat.reduceLT, Nat.reduceEqDiff, Nat.reduceLeDiff, Nat.zero_add, natLit, le_LIM, lt_LIM, List.take_zero, List.drop_zero, List.take_succ_cons, List.drop_succ_cons, Nat.zero_le, true_and, and_true, and_self, Nat.reduceLeDiff, Int.reduceEq, Int.reduceLT, Int.reduceLE, Int.reduceAdd, Int.reduceSub, Int.reduceMul, Int.reduceNeg, Int.reduceToNat, eq_self_iff_true, reduceIte, if_true, if_false, ite_true, ite_false, Bool.false_eq_true, Bool.not_true, Bool.not_false, Bool.and_true, Bool.true_and, Bool.and_false, Bool.false_and, Bool.or_true, Bool.true_or, decide_true, decide_false, decide_eq_true_eq]
theorem ev_obs_init {ls : List Nat} {vs : List Fr} (h : ObsOk ls vs) (S : List Ins) :
    cf_Observer_init [.obj S.length, labD ls, frsD vs] (S ++ [.ins 0 []]) = .ok (.va .non) ⟨[], S ++ obsI ls vs :: (partsP ls).map cellD⟩ := by
  have e := ev_parts ls h.l1 h.l2 h.lb h.lab (S ++ [.ins 0 []])
  rw [List.append_assoc, List.singleton_append] at e
  have e2 := ev_odds_set h S ((partsP ls).map cellD)
  simp only [cf_Observer_init, m_Observer_init]
  simp only [labD] at *
  simp only [partD] at e2
  simp only [e, at_new, put0, put1, set_new, e2, e_mSeq, e_mIfS, e_mT, e_mBin, e_mUn, e_mNm, e_mNv, e_mF, e_mC, e_mRet, e_mSet, e_mSetIx, e_mApp, e_mExpr, e_mCB, e_mHcons, e_mHnil, e_mAcons, e_mAnil, e_mTup, e_mLst, e_mNx, e_mRetN, e_mIsN, e_mIsi, e_mTru, e_mAnd, e_mOr, e_mNot, e_mV, e_mAndV, e_mOrV, e_mNotV, e_mChain, e_mPar, e_mAsg, e_mFor, e_mItems, e_mRng1, e_mRng2, e_mEnum, e_mRaise, e_mCall, e_mAtt, e_mSetAtt, e_mMeth, e_mAnil0, e_mTry, e_mWh, e_mLc, e_mYes, e_mStar1, e_mPub, e_mAppO, e_mMt, e_mAstar, e_mSl, e_mPart, e_mNoPart, e_mBrk, e_mIf, e_mIx, e_mgName, e_mgTup, e_mgNil, e_mgCons, mDef, mDefV, mDefC, mCallAt, Mi.R.ne,
  Mi.bnd_ok, Mi.bnd_er, Mi.bnd_no, o_ok, o_er, o_no, ne_ok, ne_er, ne_no, Hd.at, rsv, opt, fin, ent, atAll, ownAt, gLt_ii, gLe_ii, gGt_ii, gGe_ii, gAdd, Mi.gSub, gLen, gNeg, gIx, atI_0, atI_1, gEq_int, gNe_int, Sl.d, kdOf, ansT, kI, kB, kT, kL, kS, insAt, tabA, tabS, tabM, List.getD_cons_zero, List.getD_cons_succ, truD, Option.bind_some, Option.bind_none, Option.map_some, Option.map_none,
  List.map_cons, List.map_nil, List.length_cons, List.length_nil, List.replicate_succ, List.replicate_zero, List.cons_append, List.nil_append, List.append_nil, List.getElem?_cons_zero, List.getElem?_cons_succ, List.set_cons_zero, List.set_cons_succ, Nat.reduceAdd, Nat.reduceSub, Nat.reduceLT, Nat.reduceEqDiff, Nat.reduceLeDiff, Nat.zero_add, natLit, le_LIM, lt_LIM, List.take_zero, List.drop_zero, List.take_succ_cons, List.drop_succ_cons, Nat.zero_le, true_and, and_true, and_self, Nat.reduceLeDiff, Int.reduceEq, Int.reduceLT, Int.reduceLE, Int.reduceAdd, Int.reduceSub, Int.reduceMul, Int.reduceNeg, Int.reduceToNat, eq_self_iff_true, reduceIte, if_true, if_false, ite_true, ite_false, Bool.false_eq_true, Bool.not_true, Bool.not_false, Bool.and_true, Bool.true_and, Bool.and_false, Bool.false_and, Bool.or_true, Bool.true_or, decide_true, decide_false, decide_eq_true_eq]
theorem ev_obs_make {ls : List Nat} {vs : List Fr} (h : ObsOk ls vs) (S : List Ins) :
    cfMake 0 cf_Observer_init [labD ls, frsD vs] S = .ok (.va (.obj S.length)) ⟨[], S ++ obsI ls vs :: (partsP ls).map cellD⟩ := by
  unfold cfMake
  rw [ev_obs_init h S]
end Lw

set_option exponentiation.threshold 100000
namespace Lw
open PySem Mi
def mulF (x y : Fr) : Fr := (Wr.frT (x.1 * y.1) (x.2 * y.2), Wr.frB (x.1 * y.1) (x.2 * y.2))
theorem mulF_le {p M : Nat} {x y : Fr} (hx : x.le p) (hy : y.le M) : (mulF x y).le (p + M) := by
  obtain ⟨x1, x2, x3⟩ := hx
  obtain ⟨y1, y2, y3⟩ := hy
  have nb : x.2 * y.2 ≠ 0 := Int.mul_ne_zero (by omega) (by omega)
  have m1 : (x.1 * y.1).natAbs ≤ 2 ^ (p + M) := by rw [Int.natAbs_mul, Nat.pow_add]; exact Nat.mul_le_mul x1 y1
  have m3 : (x.2 * y.2).natAbs ≤ 2 ^ (p + M) := by rw [Int.natAbs_mul, Nat.pow_add]; exact Nat.mul_le_mul x2 y2
  exact ⟨Nat.le_trans (Wr.frT_le nb) m1, Nat.le_trans (Wr.frB_le nb) m3, frB_pos nb⟩
theorem forL_prod (S : List Ins) (M : Nat) (T : Sl) : ∀ (ys : List Fr) (x : Fr) (p : Nat) (s2 : Sl), (∀ y ∈ ys, y.le M) → x.le p → p + M * ys.length < 3000 → M < 3000 →
    ∃ s2', forL fg_product1 fb_product1 (ys.map Fr.d) ⟨[T, .va x.d, s2], S⟩ = .nx ⟨[T, .va (ys.foldl mulF x).d, s2'], S⟩
  | [], x, p, s2, _, _, _, _ => ⟨s2, rfl⟩
  | y :: ys, x, p, s2, hy, hx, hp, hM => by
    have h1 := hy y List.mem_cons_self
    have e0 : M * (y :: ys).length = M * ys.length + M := by rw [List.length_cons, Nat.mul_succ]
    rw [e0] at hp
    have hp' : p < 3000 := by omega
    obtain ⟨s2', e⟩ := forL_prod S M T ys (mulF x y) (p + M) (.va y.d) (fun z m => hy z (List.mem_cons_of_mem _ m)) (mulF_le hx h1) (by omega) hM
    refine ⟨s2', ?_⟩
    rw [List.foldl_cons, ← e, List.map_cons, forL]
    obtain ⟨x1, x2⟩ := x
    obtain ⟨y1, y2⟩ := y
    obtain ⟨a1, a2, a3⟩ := hx
    obtain ⟨b1, b2, b3⟩ := h1
    have nb : x2 * y2 ≠ 0 := Int.mul_ne_zero (Int.ne_of_gt a3) (Int.ne_of_gt b3)
    have m3 : (x2 * y2).natAbs < 2 ^ 7000 := by
      rw [Int.natAbs_mul]
      refine lt7000 (p := p + M) ?_ (by omega)
      rw [Nat.pow_add]; exact Nat.mul_le_mul a2 b2
    simp only [fg_product1, fb_product1, Fr.d, gMul_int (lt7000 a1 (by omega)) (lt7000 b1 (by omega)), gMul_int (lt7000 a2 (by omega)) (lt7000 b2 (by omega)), ev_fraction _ _ m3, nb, mulF, e_mSeq, e_mIfS, e_mT, e_mBin, e_mUn, e_mNm, e_mNv, e_mF, e_mC, e_mRet, e_mSet, e_mSetIx, e_mApp, e_mExpr, e_mCB, e_mHcons, e_mHnil, e_mAcons, e_mAnil, e_mTup, e_mLst, e_mNx, e_mRetN, e_mIsN, e_mIsi, e_mTru, e_mAnd, e_mOr, e_mNot, e_mV, e_mAndV, e_mOrV, e_mNotV, e_mChain, e_mPar, e_mAsg, e_mFor, e_mItems, e_mRng1, e_mRng2, e_mEnum, e_mRaise, e_mCall, e_mAtt, e_mSetAtt, e_mMeth, e_mAnil0, e_mTry, e_mWh, e_mLc, e_mYes, e_mStar1, e_mPub, e_mAppO, e_mMt, e_mAstar, e_mSl, e_mPart, e_mNoPart, e_mBrk, e_mIf, e_mIx, e_mgName, e_mgTup, e_mgNil, e_mgCons, mDef, mDefV, mDefC, mCallAt, Mi.R.ne,
  Mi.bnd_ok, Mi.bnd_er, Mi.bnd_no, o_ok, o_er, o_no, ne_ok, ne_er, ne_no, Hd.at, rsv, opt, fin, ent, atAll, ownAt, gLt_ii, gLe_ii, gGt_ii, gGe_ii, gAdd, Mi.gSub, gLen, gNeg, gIx, atI_0, atI_1, gEq_int, gNe_int, Sl.d, kdOf, ansT, kI, kB, kT, kL, kS, insAt, tabA, tabS, tabM, List.getD_cons_zero, List.getD_cons_succ, truD, Option.bind_some, Option.bind_none, Option.map_some, Option.map_none,
  List.map_cons, List.map_nil, List.length_cons, List.length_nil, List.replicate_succ, List.replicate_zero, List.cons_append, List.nil_append, List.append_nil, List.getElem?_cons_zero, List.getElem?_cons_succ, List.set_cons_zero, List.set_cons_succ, Nat.reduceAdd, Nat.reduceSub, Nat.reduceLT, Nat.reduceEqDiff, Nat.reduceLeDiff, Nat.zero_add, natLit, le_LIM, lt_LIM, List.take_zero, List.drop_zero, List.take_succ_cons, List.drop_succ_cons, Nat.zero_le, true_and, and_true, and_self, Nat.reduceLeDiff, Int.reduceEq, Int.reduceLT, Int.reduceLE, Int.reduceAdd, Int.reduceSub, Int.reduceMul, Int.reduceNeg, Int.reduceToNat, eq_self_iff_true, reduceIte, if_true, if_false, ite_true, ite_false, Bool.false_eq_true, Bool.not_true, Bool.not_false, Bool.and_true, Bool.true_and, Bool.and_false, Bool.false_and, Bool.or_true, Bool.true_or, decide_true, decide_false, decide_eq_true_eq]
def prodF (ys : List Fr) : Fr := ys.foldl mulF (1, 1)
theorem ev_product (ys : List Fr) (M : Nat) (hM : M * ys.length < 2999) (hM2 : M < 3000) (hy : ∀ y ∈ ys, y.le M) (hf : ∀ y ∈ ys, isFr y.d = true) (hl : ys.length < LIM) (S : List Ins) : cf_product (ys.map Fr.d) S = .ok (.va (prodF ys).d) ⟨[], S⟩ := by
  have hc := ev_check (ys.map Fr.d) (fun d m => by
    obtain ⟨y, hm, rfl⟩ := List.mem_map.mp m
    exact ⟨y.1, y.2, rfl, hf y hm⟩) S
  obtain ⟨s2', e⟩ := forL_prod S M (.va (.tup (ys.map Fr.d))) ys (1, 1) 0 .un hy ⟨by decide, by decide, by decide⟩ (by omega) hM2
  simp only [cf_product, m_product]
  simp only [List.length_map, hl, hc, e_mSeq, e_mIfS, e_mT, e_mBin, e_mUn, e_mNm, e_mNv, e_mF, e_mC, e_mRet, e_mSet, e_mSetIx, e_mApp, e_mExpr, e_mCB, e_mHcons, e_mHnil, e_mAcons, e_mAnil, e_mTup, e_mLst, e_mNx, e_mRetN, e_mIsN, e_mIsi, e_mTru, e_mAnd, e_mOr, e_mNot, e_mV, e_mAndV, e_mOrV, e_mNotV, e_mChain, e_mPar, e_mAsg, e_mFor, e_mItems, e_mRng1, e_mRng2, e_mEnum, e_mRaise, e_mCall, e_mAtt, e_mSetAtt, e_mMeth, e_mAnil0, e_mTry, e_mWh, e_mLc, e_mYes, e_mStar1, e_mPub, e_mAppO, e_mMt, e_mAstar, e_mSl, e_mPart, e_mNoPart, e_mBrk, e_mIf, e_mIx, e_mgName, e_mgTup, e_mgNil, e_mgCons, mDef, mDefV, mDefC, mCallAt, Mi.R.ne,
  Mi.bnd_ok, Mi.bnd_er, Mi.bnd_no, o_ok, o_er, o_no, ne_ok, ne_er, ne_no, Hd.at, rsv, opt, fin, ent, atAll, ownAt, gLt_ii, gLe_ii, gGt_ii, gGe_ii, gAdd, Mi.gSub, gLen, gNeg, gIx, atI_0, atI_1, gEq_int, gNe_int, Sl.d, kdOf, ansT, kI, kB, kT, kL, kS, insAt, tabA, tabS, tabM, List.getD_cons_zero, List.getD_cons_succ, truD, Option.bind_some, Option.bind_none, Option.map_some, Option.map_none,
  List.map_cons, List.map_nil, List.length_cons, List.length_nil, List.replicate_succ, List.replicate_zero, List.cons_append, List.nil_append, List.append_nil, List.getElem?_cons_zero, List.getElem?_cons_succ, List.set_cons_zero, List.set_cons_succ, Nat.reduceAdd, Nat.reduceSub, Nat.reduceLT, Nat.reduceEqDiff, Nat.reduceLeDiff, Nat.zero_add, natLit, le_LIM, lt_LIM, List.take_zero, List.drop_zero, List.take_succ_cons, List.drop_succ_cons, Nat.zero_le, true_and, and_true, and_self, Nat.reduceLeDiff, Int.reduceEq, Int.reduceLT, Int.reduceLE, Int.reduceAdd, Int.reduceSub, Int.reduceMul, Int.reduceNeg, Int.reduceToNat, eq_self_iff_true, reduceIte, if_true, if_false, ite_true, ite_false, Bool.false_eq_true, Bool.not_true, Bool.not_false, Bool.and_true, Bool.true_and, Bool.and_false, Bool.false_and, Bool.or_true, Bool.true_or, decide_true, decide_false, decide_eq_true_eq]
  simp only [Fr.d] at e
  simp only [e, Fr.d, prodF, e_mSeq, e_mIfS, e_mT, e_mBin, e_mUn, e_mNm, e_mNv, e_mF, e_mC, e_mRet, e_mSet, e_mSetIx, e_mApp, e_mExpr, e_mCB, e_mHcons, e_mHnil, e_mAcons, e_mAnil, e_mTup, e_mLst, e_mNx, e_mRetN, e_mIsN, e_mIsi, e_mTru, e_mAnd, e_mOr, e_mNot, e_mV, e_mAndV, e_mOrV, e_mNotV, e_mChain, e_mPar, e_mAsg, e_mFor, e_mItems, e_mRng1, e_mRng2, e_mEnum, e_mRaise, e_mCall, e_mAtt, e_mSetAtt, e_mMeth, e_mAnil0, e_mTry, e_mWh, e_mLc, e_mYes, e_mStar1, e_mPub, e_mAppO, e_mMt, e_mAstar, e_mSl, e_mPart, e_mNoPart, e_mBrk, e_mIf, e_mIx, e_mgName, e_mgTup, e_mgNil, e_mgCons, mDef, mDefV, mDefC, mCallAt, Mi.R.ne,
  Mi.bnd_ok, Mi.bnd_er, Mi.bnd_no, o_ok, o_er, o_no, ne_ok, ne_er, ne_no, Hd.at, rsv, opt, fin, ent, atAll, ownAt, gLt_ii, gLe_ii, gGt_ii, gGe_ii, gAdd, Mi.gSub, gLen, gNeg, gIx, atI_0, atI_1, gEq_int, gNe_int, Sl.d, kdOf, ansT, kI, kB, kT, kL, kS, insAt, tabA, tabS, tabM, List.getD_cons_zero, List.getD_cons_succ, truD, Option.bind_some, Option.bind_none, Option.map_some, Option.map_none,
  List.map_cons, List.map_nil, List.length_cons, List.length_nil, List.replicate_succ, List.replicate_zero, List.cons_append, List.nil_append, List.append_nil, List.getElem?_cons_zero, List.getElem?_cons_succ, List.set_cons_zero, List.set_cons_succ, Nat.reduceAdd, Nat.reduceSub, Nat.reduceLT, Nat.reduceEqDiff, Nat.reduceLeDiff, Nat.zero_add, natLit, le_LIM, lt_LIM, List.take_zero, List.drop_zero, List.take_succ_cons, List.drop_succ_cons, Nat.zero_le, true_and, and_true, and_self, Nat.reduceLeDiff, Int.reduceEq, Int.reduceLT, Int.reduceLE, Int.reduceAdd, Int.reduceSub, Int.reduceMul, Int.reduceNeg, Int.reduceToNat, eq_self_iff_true, reduceIte, if_true, if_false, ite_true, ite_false, Bool.false_eq_true, Bool.not_true, Bool.not_false, Bool.and_true, Bool.true_and, Bool.and_false, Bool.false_and, Bool.or_true, Bool.true_or, decide_true, decide_false, decide_eq_true_eq]
theorem prodF_fr {t b : Int} (hb : 0 < b) : isFr (frD (Wr.frT t b) (Wr.frB t b)) = true := by
  have h0 : b ≠ 0 := by omega
  have hp := frB_pos (t := t) h0
  have hg := Wr.gcd_posR (t := t) h0
  simp only [isFr, Bool.and_eq_true, decide_eq_true_eq]
  refine ⟨by omega, ?_⟩
  rw [← (fr_pos hb).1, ← (fr_pos hb).2]
  exact Int.gcd_ediv_gcd_ediv_gcd hg
theorem mulF_fr {x y : Fr} (hx : 0 < x.2) (hy : 0 < y.2) : isFr (mulF x y).d = true := prodF_fr (Int.mul_pos hx hy)
theorem addF_fr {x y : Fr} (hx : 0 < x.2) (hy : 0 < y.2) : isFr (addF x y).d = true := prodF_fr (Int.mul_pos hx hy)
end Lw

set_option exponentiation.threshold 100000
namespace Lw
open PySem Mi
theorem mulF_lo {a b c d : Int} (hb : 0 < b) (hd : 0 < d) : mulF (lo a b) (lo c d) = lo (a * c) (b * d) := by
  obtain ⟨g, g0, e1, e2, p1, _⟩ := lo_ex (t := a) hb
  obtain ⟨k, k0, e3, e4, p2, _⟩ := lo_ex (t := c) hd
  refine lo_eq (Int.mul_pos p1 p2) (Int.mul_pos hb hd) ?_
  generalize (lo a b).1 = a' at *
  generalize (lo a b).2 = b' at *
  generalize (lo c d).1 = c' at *
  generalize (lo c d).2 = d' at *
  subst e1 e2 e3 e4
  ac_rfl
theorem prodF2 {a b c d : Int} (hb : 0 < b) (hd : 0 < d) : prodF [lo a b, lo c d] = lo (a * c) (b * d) := by
  show mulF (mulF (1, 1) (lo a b)) (lo c d) = _
  rw [← lo_11, mulF_lo (by decide) hb, mulF_lo (by omega) hd, Int.one_mul, Int.one_mul]

end Lw

namespace Lw
open PySem Mi
def prods (vs fs : List Fr) (ps : List Nat) : List Fr := ps.map fun p => prodF [vs.getD p (0, 1), fs.getD p (0, 1)]
theorem Fr.le.pos {p : Nat} {x : Fr} (h : x.le p) : 0 < x.2 := h.2.2
theorem prodF2_le {p M : Nat} {x y : Fr} (hx : x.le p) (hy : y.le M) : (prodF [x, y]).le (p + M) := by
  have h1 : Fr.le 0 ((1, 1) : Fr) := ⟨by decide, by decide, by decide⟩
  have z := mulF_le (mulF_le h1 hx) hy
  rw [Nat.zero_add] at z
  exact z
theorem prodF2_fr {p M : Nat} {x y : Fr} (hx : x.le p) (hy : y.le M) : isFr (prodF [x, y]).d = true := by
  have h1 : Fr.le 0 ((1, 1) : Fr) := ⟨by decide, by decide, by decide⟩
  exact mulF_fr (mulF_le h1 hx).pos hy.pos
theorem ev_top (vs fs : List Fr) (ps : List Nat) (hp : ∀ p ∈ ps, p < vs.length ∧ p < fs.length) (hl : ps.length ≤ 12) (hv : ∀ y ∈ vs, y.le 40) (hw : ∀ y ∈ fs, y.le 40) (hf : ∀ y ∈ vs, isFr y.d = true) (hg : ∀ y ∈ fs, isFr y.d = true) (S : List Ins) :
    cf_total_of_products [.tup (vs.map Fr.d), .tup (fs.map Fr.d), .tup (ps.map natD)] S = .ok (.va (totF (prods vs fs ps)).d) ⟨[], S⟩ := by
  have hl' : ps.length ≤ LIM := Nat.le_trans hl (by decide)
  have ht := ev_total (prods vs fs ps) 80 (by rw [prods, List.length_map]; omega) (by decide) (fun y m => by
      obtain ⟨p, hm, rfl⟩ := List.mem_map.mp m
      exact prodF2_le (hv _ (getD_mem (hp p hm).1)) (hw _ (getD_mem (hp p hm).2)))
    (fun y m => by
      obtain ⟨p, hm, rfl⟩ := List.mem_map.mp m
      exact prodF2_fr (hv _ (getD_mem (hp p hm).1)) (hw _ (getD_mem (hp p hm).2)))
    (by rw [prods, List.length_map]; exact Nat.lt_of_le_of_lt hl (by decide)) S
  have lc := lc_mapB (own := [4]) (mg := cg_total_of_products1) (me := ce_total_of_products1) (st0 := ⟨[.va (.tup (vs.map Fr.d)), .va (.tup (fs.map Fr.d)), .va (.tup (ps.map natD)), .un, .un], S⟩)
    natD (fun p => (prodF [vs.getD p (0, 1), fs.getD p (0, 1)]).d) (fun p => [.va (.tup (vs.map Fr.d)), .va (.tup (fs.map Fr.d)), .va (.tup (ps.map natD)), .un, .va (natD p)]) rfl ps (fun p hm => by
      obtain ⟨h1, h2⟩ := hp p hm
      have e := ev_product [vs.getD p (0, 1), fs.getD p (0, 1)] 40 (show 40 * 2 < 2999 by decide) (by decide) (fun y m => by
          rcases List.mem_cons.mp m with m | m
          · rw [m]; exact hv _ (getD_mem h1)
          · rw [List.mem_singleton.mp m]; exact hw _ (getD_mem h2))
        (fun y m => by
          rcases List.mem_cons.mp m with m | m
          · rw [m]; exact hf _ (getD_mem h1)
          · rw [List.mem_singleton.mp m]; exact hg _ (getD_mem h2)) (show 2 < LIM by decide) S
      refine ⟨rfl, rfl, .va (prodF [vs.getD p (0, 1), fs.getD p (0, 1)]).d, ?_, rfl⟩
      simp only [List.map_cons, List.map_nil] at e
      simp only [ce_total_of_products1, natD, ix_frs h1, ix_frs h2, e, e_mSeq, e_mIfS, e_mT, e_mBin, e_mUn, e_mNm, e_mNv, e_mF, e_mC, e_mRet, e_mSet, e_mSetIx, e_mApp, e_mExpr, e_mCB, e_mHcons, e_mHnil, e_mAcons, e_mAnil, e_mTup, e_mLst, e_mNx, e_mRetN, e_mIsN, e_mIsi, e_mTru, e_mAnd, e_mOr, e_mNot, e_mV, e_mAndV, e_mOrV, e_mNotV, e_mChain, e_mPar, e_mAsg, e_mFor, e_mItems, e_mRng1, e_mRng2, e_mEnum, e_mRaise, e_mCall, e_mAtt, e_mSetAtt, e_mMeth, e_mAnil0, e_mTry, e_mWh, e_mLc, e_mYes, e_mStar1, e_mPub, e_mAppO, e_mMt, e_mAstar, e_mSl, e_mPart, e_mNoPart, e_mBrk, e_mIf, e_mIx, e_mgName, e_mgTup, e_mgNil, e_mgCons, mDef, mDefV, mDefC, mCallAt, Mi.R.ne,
  Mi.bnd_ok, Mi.bnd_er, Mi.bnd_no, o_ok, o_er, o_no, ne_ok, ne_er, ne_no, Hd.at, rsv, opt, fin, ent, atAll, ownAt, gLt_ii, gLe_ii, gGt_ii, gGe_ii, gAdd, Mi.gSub, gLen, gNeg, gIx, atI_0, atI_1, gEq_int, gNe_int, Sl.d, kdOf, ansT, kI, kB, kT, kL, kS, insAt, tabA, tabS, tabM, List.getD_cons_zero, List.getD_cons_succ, truD, Option.bind_some, Option.bind_none, Option.map_some, Option.map_none,
  List.map_cons, List.map_nil, List.length_cons, List.length_nil, List.replicate_succ, List.replicate_zero, List.cons_append, List.nil_append, List.append_nil, List.getElem?_cons_zero, List.getElem?_cons_succ, List.set_cons_zero, List.set_cons_succ, Nat.reduceAdd, Nat.reduceSub, Nat.reduceLT, Nat.reduceEqDiff, Nat.reduceLeDiff, Nat.zero_add, natLit, le_LIM, lt_LIM, List.take_zero, List.drop_zero, List.take_succ_cons, List.drop_succ_cons, Nat.zero_le, true_and, and_true, and_self, Nat.reduceLeDiff, Int.reduceEq, Int.reduceLT, Int.reduceLE, Int.reduceAdd, Int.reduceSub, Int.reduceMul, Int.reduceNeg, Int.reduceToNat, eq_self_iff_true, reduceIte, if_true, if_false, ite_true, ite_false, Bool.false_eq_true, Bool.not_true, Bool.not_false, Bool.and_true, Bool.true_and, Bool.and_false, Bool.false_and, Bool.or_true, Bool.true_or, decide_true, decide_false, decide_eq_true_eq])
  have e1 : (ps.map fun p => (prodF [vs.getD p (0, 1), fs.getD p (0, 1)]).d) = (prods vs fs ps).map Fr.d := by
    rw [prods, List.map_map]; rfl
  rw [e1] at lc
  simp only [cf_total_of_products, m_total_of_products]
  simp only [wipeS, rst, vaOf, List.length_map, hl', seqOf, lc, ht, e_mSeq, e_mIfS, e_mT, e_mBin, e_mUn, e_mNm, e_mNv, e_mF, e_mC, e_mRet, e_mSet, e_mSetIx, e_mApp, e_mExpr, e_mCB, e_mHcons, e_mHnil, e_mAcons, e_mAnil, e_mTup, e_mLst, e_mNx, e_mRetN, e_mIsN, e_mIsi, e_mTru, e_mAnd, e_mOr, e_mNot, e_mV, e_mAndV, e_mOrV, e_mNotV, e_mChain, e_mPar, e_mAsg, e_mFor, e_mItems, e_mRng1, e_mRng2, e_mEnum, e_mRaise, e_mCall, e_mAtt, e_mSetAtt, e_mMeth, e_mAnil0, e_mTry, e_mWh, e_mLc, e_mYes, e_mStar1, e_mPub, e_mAppO, e_mMt, e_mAstar, e_mSl, e_mPart, e_mNoPart, e_mBrk, e_mIf, e_mIx, e_mgName, e_mgTup, e_mgNil, e_mgCons, mDef, mDefV, mDefC, mCallAt, Mi.R.ne,
  Mi.bnd_ok, Mi.bnd_er, Mi.bnd_no, o_ok, o_er, o_no, ne_ok, ne_er, ne_no, Hd.at, rsv, opt, fin, ent, atAll, ownAt, gLt_ii, gLe_ii, gGt_ii, gGe_ii, gAdd, Mi.gSub, gLen, gNeg, gIx, atI_0, atI_1, gEq_int, gNe_int, Sl.d, kdOf, ansT, kI, kB, kT, kL, kS, insAt, tabA, tabS, tabM, List.getD_cons_zero, List.getD_cons_succ, truD, Option.bind_some, Option.bind_none, Option.map_some, Option.map_none,
  List.map_cons, List.map_nil, List.length_cons, List.length_nil, List.replicate_succ, List.replicate_zero, List.cons_append, List.nil_append, List.append_nil, List.getElem?_cons_zero, List.getElem?_cons_succ, List.set_cons_zero, List.set_cons_succ, Nat.reduceAdd, Nat.reduceSub, Nat.reduceLT, Nat.reduceEqDiff, Nat.reduceLeDiff, Nat.zero_add, natLit, le_LIM, lt_LIM, List.take_zero, List.drop_zero, List.take_succ_cons, List.drop_succ_cons, Nat.zero_le, true_and, and_true, and_self, Nat.reduceLeDiff, Int.reduceEq, Int.reduceLT, Int.reduceLE, Int.reduceAdd, Int.reduceSub, Int.reduceMul, Int.reduceNeg, Int.reduceToNat, eq_self_iff_true, reduceIte, if_true, if_false, ite_true, ite_false, Bool.false_eq_true, Bool.not_true, Bool.not_false, Bool.and_true, Bool.true_and, Bool.and_false, Bool.false_and, Bool.or_true, Bool.true_or, decide_true, decide_false, decide_eq_true_eq]
end Lw

namespace Lw
open PySem Mi
theorem ev_row (fs : List Fr) (hl : fs.length ≤ 12) (hf : ∀ y ∈ fs, isFr y.d = true) (S : List Ins) : cf_is_row [frsD fs, .int fs.length] S = .ok (.va (.bl true)) ⟨[], S⟩ := by
  have lc := lc_mapB (own := [2]) (mg := cg_is_row1) (me := ce_is_row1) (st0 := ⟨[.va (.tup (fs.map Fr.d)), .va (.int fs.length), .un], S⟩)
    Fr.d (fun _ => .bl true) (fun y => [.va (.tup (fs.map Fr.d)), .va (.int fs.length), .va y.d]) rfl fs (fun y hm => by
      refine ⟨rfl, rfl, .va (.bl true), ?_, rfl⟩
      have e := ev_isfr y.1 y.2 S
      rw [show isFr (frD y.1 y.2) = true from hf y hm] at e
      simp only [ce_is_row1, Fr.d, e, e_mSeq, e_mIfS, e_mT, e_mBin, e_mUn, e_mNm, e_mNv, e_mF, e_mC, e_mRet, e_mSet, e_mSetIx, e_mApp, e_mExpr, e_mCB, e_mHcons, e_mHnil, e_mAcons, e_mAnil, e_mTup, e_mLst, e_mNx, e_mRetN, e_mIsN, e_mIsi, e_mTru, e_mAnd, e_mOr, e_mNot, e_mV, e_mAndV, e_mOrV, e_mNotV, e_mChain, e_mPar, e_mAsg, e_mFor, e_mItems, e_mRng1, e_mRng2, e_mEnum, e_mRaise, e_mCall, e_mAtt, e_mSetAtt, e_mMeth, e_mAnil0, e_mTry, e_mWh, e_mLc, e_mYes, e_mStar1, e_mPub, e_mAppO, e_mMt, e_mAstar, e_mSl, e_mPart, e_mNoPart, e_mBrk, e_mIf, e_mIx, e_mgName, e_mgTup, e_mgNil, e_mgCons, mDef, mDefV, mDefC, mCallAt, Mi.R.ne,
  Mi.bnd_ok, Mi.bnd_er, Mi.bnd_no, o_ok, o_er, o_no, ne_ok, ne_er, ne_no, Hd.at, rsv, opt, fin, ent, atAll, ownAt, gLt_ii, gLe_ii, gGt_ii, gGe_ii, gAdd, Mi.gSub, gLen, gNeg, gIx, atI_0, atI_1, gEq_int, gNe_int, Sl.d, kdOf, ansT, kI, kB, kT, kL, kS, insAt, tabA, tabS, tabM, List.getD_cons_zero, List.getD_cons_succ, truD, Option.bind_some, Option.bind_none, Option.map_some, Option.map_none,
  List.map_cons, List.map_nil, List.length_cons, List.length_nil, List.replicate_succ, List.replicate_zero, List.cons_append, List.nil_append, List.append_nil, List.getElem?_cons_zero, List.getElem?_cons_succ, List.set_cons_zero, List.set_cons_succ, Nat.reduceAdd, Nat.reduceSub, Nat.reduceLT, Nat.reduceEqDiff, Nat.reduceLeDiff, Nat.zero_add, natLit, le_LIM, lt_LIM, List.take_zero, List.drop_zero, List.take_succ_cons, List.drop_succ_cons, Nat.zero_le, true_and, and_true, and_self, Nat.reduceLeDiff, Int.reduceEq, Int.reduceLT, Int.reduceLE, Int.reduceAdd, Int.reduceSub, Int.reduceMul, Int.reduceNeg, Int.reduceToNat, eq_self_iff_true, reduceIte, if_true, if_false, ite_true, ite_false, Bool.false_eq_true, Bool.not_true, Bool.not_false, Bool.and_true, Bool.true_and, Bool.and_false, Bool.false_and, Bool.or_true, Bool.true_or, decide_true, decide_false, decide_eq_true_eq])
  have b1 := blsD_map (fun _ : Fr => true) fs
  have l1 : fs.length ≤ LIM := Nat.le_trans hl (by decide)
  have a1 : (fs.map fun _ => true).all id = true := by simp
  simp only [cf_is_row, m_is_row, frsD]
  simp only [List.length_map, wipeS, rst, vaOf, l1, lc, b1, gAll, a1, e_mSeq, e_mIfS, e_mT, e_mBin, e_mUn, e_mNm, e_mNv, e_mF, e_mC, e_mRet, e_mSet, e_mSetIx, e_mApp, e_mExpr, e_mCB, e_mHcons, e_mHnil, e_mAcons, e_mAnil, e_mTup, e_mLst, e_mNx, e_mRetN, e_mIsN, e_mIsi, e_mTru, e_mAnd, e_mOr, e_mNot, e_mV, e_mAndV, e_mOrV, e_mNotV, e_mChain, e_mPar, e_mAsg, e_mFor, e_mItems, e_mRng1, e_mRng2, e_mEnum, e_mRaise, e_mCall, e_mAtt, e_mSetAtt, e_mMeth, e_mAnil0, e_mTry, e_mWh, e_mLc, e_mYes, e_mStar1, e_mPub, e_mAppO, e_mMt, e_mAstar, e_mSl, e_mPart, e_mNoPart, e_mBrk, e_mIf, e_mIx, e_mgName, e_mgTup, e_mgNil, e_mgCons, mDef, mDefV, mDefC, mCallAt, Mi.R.ne,
  Mi.bnd_ok, Mi.bnd_er, Mi.bnd_no, o_ok, o_er, o_no, ne_ok, ne_er, ne_no, Hd.at, rsv, opt, fin, ent, atAll, ownAt, gLt_ii, gLe_ii, gGt_ii, gGe_ii, gAdd, Mi.gSub, gLen, gNeg, gIx, atI_0, atI_1, gEq_int, gNe_int, Sl.d, kdOf, ansT, kI, kB, kT, kL, kS, insAt, tabA, tabS, tabM, List.getD_cons_zero, List.getD_cons_succ, truD, Option.bind_some, Option.bind_none, Option.map_some, Option.map_none,
  List.map_cons, List.map_nil, List.length_cons, List.length_nil, List.replicate_succ, List.replicate_zero, List.cons_append, List.nil_append, List.append_nil, List.getElem?_cons_zero, List.getElem?_cons_succ, List.set_cons_zero, List.set_cons_succ, Nat.reduceAdd, Nat.reduceSub, Nat.reduceLT, Nat.reduceEqDiff, Nat.reduceLeDiff, Nat.zero_add, natLit, le_LIM, lt_LIM, List.take_zero, List.drop_zero, List.take_succ_cons, List.drop_succ_cons, Nat.zero_le, true_and, and_true, and_self, Nat.reduceLeDiff, Int.reduceEq, Int.reduceLT, Int.reduceLE, Int.reduceAdd, Int.reduceSub, Int.reduceMul, Int.reduceNeg, Int.reduceToNat, eq_self_iff_true, reduceIte, if_true, if_false, ite_true, ite_false, Bool.false_eq_true, Bool.not_true, Bool.not_false, Bool.and_true, Bool.true_and, Bool.and_false, Bool.false_and, Bool.or_true, Bool.true_or, decide_true, decide_false, decide_eq_true_eq]
section
variable {a b c : D}
theorem lk3_labels : List.lookup ("labels" : Str) [(("parts" : Str), a), (("labels" : Str), b), (("held_odds" : Str), c)] = some b := by
  have h : (("labels" : Str) == ("parts" : Str)) = false := by decide
  have h2 : (("labels" : Str) == ("labels" : Str)) = true := by decide
  simp only [List.lookup, h, h2]
theorem lk3_parts : List.lookup ("parts" : Str) [(("parts" : Str), a), (("labels" : Str), b), (("held_odds" : Str), c)] = some a := by
  have h2 : (("parts" : Str) == ("parts" : Str)) = true := by decide
  simp only [List.lookup, h2]
theorem lk3_odds : List.lookup ("held_odds" : Str) [(("parts" : Str), a), (("labels" : Str), b), (("held_odds" : Str), c)] = some c := by
  have h : (("held_odds" : Str) == ("parts" : Str)) = false := by decide
  have h3 : (("held_odds" : Str) == ("labels" : Str)) = false := by decide
  have h2 : (("held_odds" : Str) == ("held_odds" : Str)) = true := by decide
  simp only [List.lookup, h, h2, h3]
theorem lk3_meth : List.lookup ("expects" : Str) [(("parts" : Str), a), (("labels" : Str), b), (("held_odds" : Str), c)] = none := by
  have h : (("expects" : Str) == ("parts" : Str)) = false := by decide
  have h3 : (("expects" : Str) == ("labels" : Str)) = false := by decide
  have h2 : (("expects" : Str) == ("held_odds" : Str)) = false := by decide
  simp only [List.lookup, h, h2, h3]
end
theorem ev_odds_get {ls : List Nat} {vs : List Fr} {S : List Ins} {k : Nat} (hk : S[k]? = some (obsI ls vs)) : cf_Observer_odds_get [.obj k] S = .ok (.va (frsD vs)) ⟨[], S⟩ := by
  unfold obsI at hk
  simp only [cf_Observer_odds_get, m_Observer_odds_get]
  simp only [hk, lk3_odds, e_mSeq, e_mIfS, e_mT, e_mBin, e_mUn, e_mNm, e_mNv, e_mF, e_mC, e_mRet, e_mSet, e_mSetIx, e_mApp, e_mExpr, e_mCB, e_mHcons, e_mHnil, e_mAcons, e_mAnil, e_mTup, e_mLst, e_mNx, e_mRetN, e_mIsN, e_mIsi, e_mTru, e_mAnd, e_mOr, e_mNot, e_mV, e_mAndV, e_mOrV, e_mNotV, e_mChain, e_mPar, e_mAsg, e_mFor, e_mItems, e_mRng1, e_mRng2, e_mEnum, e_mRaise, e_mCall, e_mAtt, e_mSetAtt, e_mMeth, e_mAnil0, e_mTry, e_mWh, e_mLc, e_mYes, e_mStar1, e_mPub, e_mAppO, e_mMt, e_mAstar, e_mSl, e_mPart, e_mNoPart, e_mBrk, e_mIf, e_mIx, e_mgName, e_mgTup, e_mgNil, e_mgCons, mDef, mDefV, mDefC, mCallAt, Mi.R.ne,
  Mi.bnd_ok, Mi.bnd_er, Mi.bnd_no, o_ok, o_er, o_no, ne_ok, ne_er, ne_no, Hd.at, rsv, opt, fin, ent, atAll, ownAt, gLt_ii, gLe_ii, gGt_ii, gGe_ii, gAdd, Mi.gSub, gLen, gNeg, gIx, atI_0, atI_1, gEq_int, gNe_int, Sl.d, kdOf, ansT, kI, kB, kT, kL, kS, insAt, tabA, tabS, tabM, List.getD_cons_zero, List.getD_cons_succ, truD, Option.bind_some, Option.bind_none, Option.map_some, Option.map_none,
  List.map_cons, List.map_nil, List.length_cons, List.length_nil, List.replicate_succ, List.replicate_zero, List.cons_append, List.nil_append, List.append_nil, List.getElem?_cons_zero, List.getElem?_cons_succ, List.set_cons_zero, List.set_cons_succ, Nat.reduceAdd, Nat.reduceSub, Nat.reduceLT, Nat.reduceEqDiff, Nat.reduceLeDiff, Nat.zero_add, natLit, le_LIM, lt_LIM, List.take_zero, List.drop_zero, List.take_succ_cons, List.drop_succ_cons, Nat.zero_le, true_and, and_true, and_self, Nat.reduceLeDiff, Int.reduceEq, Int.reduceLT, Int.reduceLE, Int.reduceAdd, Int.reduceSub, Int.reduceMul, Int.reduceNeg, Int.reduceToNat, eq_self_iff_true, reduceIte, if_true, if_false, ite_true, ite_false, Bool.false_eq_true, Bool.not_true, Bool.not_false, Bool.and_true, Bool.true_and, Bool.and_false, Bool.false_and, Bool.or_true, Bool.true_or, decide_true, decide_false, decide_eq_true_eq]
theorem ev_expects {ls : List Nat} {vs fs : List Fr} (h : ObsOk ls vs) (hl : fs.length = ls.length) (hw : ∀ y ∈ fs, y.le 40) (hg : ∀ y ∈ fs, isFr y.d = true) {S : List Ins} {k : Nat} (hk : S[k]? = some (obsI ls vs)) :
    cf_Observer_expects [.obj k, frsD fs] S = .ok (.va (.tup ((partsP ls).map fun ps => (totF (prods vs fs ps)).d))) ⟨[], S⟩ := by
  have er := ev_row fs (by rw [hl]; exact h.l2) hg S
  have eo := ev_odds_get hk
  have hk' := hk
  unfold obsI at hk'
  have lc := lc_mapB (own := [2]) (mg := cg_Observer_expects1) (me := ce_Observer_expects1) (st0 := ⟨[.va (.obj k), .va (frsD fs), .un], S⟩)
    tupD (fun ps => (totF (prods vs fs ps)).d) (fun ps => [.va (.obj k), .va (frsD fs), .va (tupD ps)]) rfl (partsP ls) (fun ps hm => by
      obtain ⟨i1, i2⟩ := h.inr ps hm
      have e := ev_top vs fs ps (fun p m => ⟨by rw [h.len]; exact i1 p m, by rw [hl]; exact i1 p m⟩) i2 h.small hw h.fr hg S
      refine ⟨rfl, rfl, .va (totF (prods vs fs ps)).d, ?_, rfl⟩
      simp only [frsD] at eo
      simp only [ce_Observer_expects1, hk', eo, frsD, tupD, e, e_mSeq, e_mIfS, e_mT, e_mBin, e_mUn, e_mNm, e_mNv, e_mF, e_mC, e_mRet, e_mSet, e_mSetIx, e_mApp, e_mExpr, e_mCB, e_mHcons, e_mHnil, e_mAcons, e_mAnil, e_mTup, e_mLst, e_mNx, e_mRetN, e_mIsN, e_mIsi, e_mTru, e_mAnd, e_mOr, e_mNot, e_mV, e_mAndV, e_mOrV, e_mNotV, e_mChain, e_mPar, e_mAsg, e_mFor, e_mItems, e_mRng1, e_mRng2, e_mEnum, e_mRaise, e_mCall, e_mAtt, e_mSetAtt, e_mMeth, e_mAnil0, e_mTry, e_mWh, e_mLc, e_mYes, e_mStar1, e_mPub, e_mAppO, e_mMt, e_mAstar, e_mSl, e_mPart, e_mNoPart, e_mBrk, e_mIf, e_mIx, e_mgName, e_mgTup, e_mgNil, e_mgCons, mDef, mDefV, mDefC, mCallAt, Mi.R.ne,
  Mi.bnd_ok, Mi.bnd_er, Mi.bnd_no, o_ok, o_er, o_no, ne_ok, ne_er, ne_no, Hd.at, rsv, opt, fin, ent, atAll, ownAt, gLt_ii, gLe_ii, gGt_ii, gGe_ii, gAdd, Mi.gSub, gLen, gNeg, gIx, atI_0, atI_1, gEq_int, gNe_int, Sl.d, kdOf, ansT, kI, kB, kT, kL, kS, insAt, tabA, tabS, tabM, List.getD_cons_zero, List.getD_cons_succ, truD, Option.bind_some, Option.bind_none, Option.map_some, Option.map_none,
  List.map_cons, List.map_nil, List.length_cons, List.length_nil, List.replicate_succ, List.replicate_zero, List.cons_append, List.nil_append, List.append_nil, List.getElem?_cons_zero, List.getElem?_cons_succ, List.set_cons_zero, List.set_cons_succ, Nat.reduceAdd, Nat.reduceSub, Nat.reduceLT, Nat.reduceEqDiff, Nat.reduceLeDiff, Nat.zero_add, natLit, le_LIM, lt_LIM, List.take_zero, List.drop_zero, List.take_succ_cons, List.drop_succ_cons, Nat.zero_le, true_and, and_true, and_self, Nat.reduceLeDiff, Int.reduceEq, Int.reduceLT, Int.reduceLE, Int.reduceAdd, Int.reduceSub, Int.reduceMul, Int.reduceNeg, Int.reduceToNat, eq_self_iff_true, reduceIte, if_true, if_false, ite_true, ite_false, Bool.false_eq_true, Bool.not_true, Bool.not_false, Bool.and_true, Bool.true_and, Bool.and_false, Bool.false_and, Bool.or_true, Bool.true_or, decide_true, decide_false, decide_eq_true_eq])
  have l2 : (partsP ls).length ≤ LIM := Nat.le_trans (Nat.le_of_lt h.many) (by decide)
  simp only [cf_Observer_expects, m_Observer_expects]
  rw [hl] at er
  simp only [hk', lk3_labels, lk3_parts, labD, List.length_map, er, partD, wipeS, rst, vaOf, l2, lc, gTuple, e_mSeq, e_mIfS, e_mT, e_mBin, e_mUn, e_mNm, e_mNv, e_mF, e_mC, e_mRet, e_mSet, e_mSetIx, e_mApp, e_mExpr, e_mCB, e_mHcons, e_mHnil, e_mAcons, e_mAnil, e_mTup, e_mLst, e_mNx, e_mRetN, e_mIsN, e_mIsi, e_mTru, e_mAnd, e_mOr, e_mNot, e_mV, e_mAndV, e_mOrV, e_mNotV, e_mChain, e_mPar, e_mAsg, e_mFor, e_mItems, e_mRng1, e_mRng2, e_mEnum, e_mRaise, e_mCall, e_mAtt, e_mSetAtt, e_mMeth, e_mAnil0, e_mTry, e_mWh, e_mLc, e_mYes, e_mStar1, e_mPub, e_mAppO, e_mMt, e_mAstar, e_mSl, e_mPart, e_mNoPart, e_mBrk, e_mIf, e_mIx, e_mgName, e_mgTup, e_mgNil, e_mgCons, mDef, mDefV, mDefC, mCallAt, Mi.R.ne,
  Mi.bnd_ok, Mi.bnd_er, Mi.bnd_no, o_ok, o_er, o_no, ne_ok, ne_er, ne_no, Hd.at, rsv, opt, fin, ent, atAll, ownAt, gLt_ii, gLe_ii, gGt_ii, gGe_ii, gAdd, Mi.gSub, gLen, gNeg, gIx, atI_0, atI_1, gEq_int, gNe_int, Sl.d, kdOf, ansT, kI, kB, kT, kL, kS, insAt, tabA, tabS, tabM, List.getD_cons_zero, List.getD_cons_succ, truD, Option.bind_some, Option.bind_none, Option.map_some, Option.map_none,
  List.map_cons, List.map_nil, List.length_cons, List.length_nil, List.replicate_succ, List.replicate_zero, List.cons_append, List.nil_append, List.append_nil, List.getElem?_cons_zero, List.getElem?_cons_succ, List.set_cons_zero, List.set_cons_succ, Nat.reduceAdd, Nat.reduceSub, Nat.reduceLT, Nat.reduceEqDiff, Nat.reduceLeDiff, Nat.zero_add, natLit, le_LIM, lt_LIM, List.take_zero, List.drop_zero, List.take_succ_cons, List.drop_succ_cons, Nat.zero_le, true_and, and_true, and_self, Nat.reduceLeDiff, Int.reduceEq, Int.reduceLT, Int.reduceLE, Int.reduceAdd, Int.reduceSub, Int.reduceMul, Int.reduceNeg, Int.reduceToNat, eq_self_iff_true, reduceIte, if_true, if_false, ite_true, ite_false, Bool.false_eq_true, Bool.not_true, Bool.not_false, Bool.and_true, Bool.true_and, Bool.and_false, Bool.false_and, Bool.or_true, Bool.true_or, decide_true, decide_false, decide_eq_true_eq]
end Lw

set_option exponentiation.threshold 100000
namespace Lw
open PySem Mi
inductive Dr : List Int → List Int → Prop
  | nil : Dr [] []
  | cons {s d : Int} {ss ds : List Int} : 0 ≤ d → d < s → Dr ss ds → Dr (s :: ss) (d :: ds)
theorem gMul_s {i j : Int} (hj : j.natAbs < 2 ^ 60) : gMul (.int i) (.int j) = some (.va (.int (i * j))) := by
  have e : mulOk i j = true := by unfold mulOk; rw [decide_eq_true hj]; simp
  simp only [gMul]
  rw [if_pos e]
theorem gMod_ok {i j : Int} (h : 0 < j) : gMod (.int i) (.int j) = some (.va (.int (i % j))) := by
  simp only [gMod]; rw [if_pos h]
theorem gPow18 : gPow (.int 10) (.int 18) = some (.va (.int (10 ^ 18))) := by
  simp only [gPow]
  rw [if_pos (by decide)]
  rfl
theorem rngD_succ (i : Int) (m : Nat) : rngD i (m + 1) = .int i :: rngD (i + 1) m := by
  unfold rngD
  rw [List.range_succ_eq_map, List.map_cons, List.map_map]
  congr 1
  · simp
  · apply List.map_congr_left
    intro j _
    show D.int (i + ((j + 1 : Nat) : Int)) = D.int (i + 1 + (j : Int))
    congr 1; omega
theorem forL_draw1 (a b f g : Sl) : ∀ (ss : List Int) (found : List D) (left : Int) (x : Sl), (∀ s ∈ ss, 0 < s ∧ s < 2 ^ 30) → found.length + ss.length < 1000 →
    ∃ ds left' x', Dr ss ds ∧ ∀ S, forL fg__law_draws1 fb__law_draws1 (ss.map D.int) ⟨[a, b, .ow found, .va (.int left), x, f, g], S⟩ = .nx ⟨[a, b, .ow (found ++ ds.map D.int), .va (.int left'), x', f, g], S⟩
  | [], found, left, x, _, _ => ⟨[], left, x, .nil, fun S => by simp [forL]⟩
  | s :: ss, found, left, x, hs, hl => by
    obtain ⟨h1, h2⟩ := hs s List.mem_cons_self
    obtain ⟨ds, left', x', dr, e⟩ := forL_draw1 a b f g ss (found ++ [.int (left % s)]) (left / s) (.va (.int s)) (fun z m => hs z (List.mem_cons_of_mem _ m)) (by rw [List.length_append]; simp at hl ⊢; omega)
    refine ⟨left % s :: ds, left', x', .cons (Int.emod_nonneg _ (by omega)) (Int.emod_lt_of_pos _ h1) dr, fun S => ?_⟩
    have e := e S
    have hf : found.length < LIM := Nat.lt_of_lt_of_le (show found.length < 1000 by simp at hl; omega) (by decide)
    have hb : s.natAbs < 2 ^ 8000 := Nat.lt_of_lt_of_le (show s.natAbs < 2 ^ 30 by omega) (Nat.pow_le_pow_right (by decide) (by decide))
    rw [List.append_assoc] at e
    rw [List.map_cons, List.map_cons, forL]
    simp only [fg__law_draws1, fb__law_draws1, gMod_ok h1, hf, gDiv_ok h1 hb, e_mSeq, e_mIfS, e_mT, e_mBin, e_mUn, e_mNm, e_mNv, e_mF, e_mC, e_mRet, e_mSet, e_mSetIx, e_mApp, e_mExpr, e_mCB, e_mHcons, e_mHnil, e_mAcons, e_mAnil, e_mTup, e_mLst, e_mNx, e_mRetN, e_mIsN, e_mIsi, e_mTru, e_mAnd, e_mOr, e_mNot, e_mV, e_mAndV, e_mOrV, e_mNotV, e_mChain, e_mPar, e_mAsg, e_mFor, e_mItems, e_mRng1, e_mRng2, e_mEnum, e_mRaise, e_mCall, e_mAtt, e_mSetAtt, e_mMeth, e_mAnil0, e_mTry, e_mWh, e_mLc, e_mYes, e_mStar1, e_mPub, e_mAppO, e_mMt, e_mAstar, e_mSl, e_mPart, e_mNoPart, e_mBrk, e_mIf, e_mIx, e_mgName, e_mgTup, e_mgNil, e_mgCons, mDef, mDefV, mDefC, mCallAt, Mi.R.ne,
  Mi.bnd_ok, Mi.bnd_er, Mi.bnd_no, o_ok, o_er, o_no, ne_ok, ne_er, ne_no, Hd.at, rsv, opt, fin, ent, atAll, ownAt, gLt_ii, gLe_ii, gGt_ii, gGe_ii, gAdd, Mi.gSub, gLen, gNeg, gIx, atI_0, atI_1, gEq_int, gNe_int, Sl.d, kdOf, ansT, kI, kB, kT, kL, kS, insAt, tabA, tabS, tabM, List.getD_cons_zero, List.getD_cons_succ, truD, Option.bind_some, Option.bind_none, Option.map_some, Option.map_none,
  List.map_cons, List.map_nil, List.length_cons, List.length_nil, List.replicate_succ, List.replicate_zero, List.cons_append, List.nil_append, List.append_nil, List.getElem?_cons_zero, List.getElem?_cons_succ, List.set_cons_zero, List.set_cons_succ, Nat.reduceAdd, Nat.reduceSub, Nat.reduceLT, Nat.reduceEqDiff, Nat.reduceLeDiff, Nat.zero_add, natLit, le_LIM, lt_LIM, List.take_zero, List.drop_zero, List.take_succ_cons, List.drop_succ_cons, Nat.zero_le, true_and, and_true, and_self, Nat.reduceLeDiff, Int.reduceEq, Int.reduceLT, Int.reduceLE, Int.reduceAdd, Int.reduceSub, Int.reduceMul, Int.reduceNeg, Int.reduceToNat, eq_self_iff_true, reduceIte, if_true, if_false, ite_true, ite_false, Bool.false_eq_true, Bool.not_true, Bool.not_false, Bool.and_true, Bool.true_and, Bool.and_false, Bool.false_and, Bool.or_true, Bool.true_or, decide_true, decide_false, decide_eq_true_eq]
    exact e
theorem forL_draw2 (c : Int) (ts : List Int) (d3 d4 : Sl) : ∀ (ss : List Int) (i : Nat) (found : List D) (x y : Sl), (∀ s ∈ ss, 0 < s ∧ s < 2 ^ 30) → found.length + ss.length < 1000 → ts.drop i = ss →
    ∃ ds x' y', Dr ss ds ∧ ∀ S, forL fg__law_draws2 fb__law_draws2 (rngD i ss.length) ⟨[.va (.int c), .va (.lst (ts.map D.int)), .ow found, d3, d4, x, y], S⟩ = .nx ⟨[.va (.int c), .va (.lst (ts.map D.int)), .ow (found ++ ds.map D.int), d3, d4, x', y'], S⟩
  | [], i, found, x, y, _, _, _ => ⟨[], x, y, .nil, fun S => by simp [forL, rngD]⟩
  | s :: ss, i, found, x, y, hs, hl, hd => by
    obtain ⟨h1, h2⟩ := hs s List.mem_cons_self
    have hi : ts[i]? = some s := by
      have := congrArg List.head? hd
      rwa [List.head?_drop] at this
    have hd' : ts.drop (i + 1) = ss := by
      have := congrArg List.tail hd
      rwa [List.tail_drop] at this
    have ix : L2.atI (ts.map D.int) (i : Int) = some (.int s) := by rw [Mi.atI_nat, List.getElem?_map, hi]; rfl
    have hf : found.length < LIM := Nat.lt_of_lt_of_le (show found.length < 1000 by simp at hl; omega) (by decide)
    have m1 : (48271 : Int).natAbs < 2 ^ 60 := by decide
    have m2 : (69621 : Int).natAbs < 2 ^ 60 := by decide
    have m3 : (16807 : Int).natAbs < 2 ^ 60 := by decide
    have q1 : (0 : Int) < 2147483647 := by decide
    have q2 : (0 : Int) < 998244353 := by decide
    obtain ⟨ds, x', y', dr, e⟩ := forL_draw2 c ts d3 d4 ss (i + 1) (found ++ [.int ((((c * 48271 + (i : Int) * 69621 + 11) % 2147483647) * 16807 + (i : Int)) % 998244353 % s)]) (.va (.int i)) (.va (.int ((((c * 48271 + (i : Int) * 69621 + 11) % 2147483647) * 16807 + (i : Int)) % 998244353)))
      (fun z m => hs z (List.mem_cons_of_mem _ m)) (by rw [List.length_append]; simp at hl ⊢; omega) hd'
    refine ⟨((((c * 48271 + (i : Int) * 69621 + 11) % 2147483647) * 16807 + (i : Int)) % 998244353 % s) :: ds, x', y', .cons (Int.emod_nonneg _ (by omega)) (Int.emod_lt_of_pos _ h1) dr, fun S => ?_⟩
    have e := e S
    rw [List.append_assoc] at e
    rw [List.length_cons, rngD_succ, forL]
    simp only [fg__law_draws2, fb__law_draws2, gMod_ok h1, gMod_ok q1, gMod_ok q2, gMul_s m1, gMul_s m2, gMul_s m3, hf, ix, e_mSeq, e_mIfS, e_mT, e_mBin, e_mUn, e_mNm, e_mNv, e_mF, e_mC, e_mRet, e_mSet, e_mSetIx, e_mApp, e_mExpr, e_mCB, e_mHcons, e_mHnil, e_mAcons, e_mAnil, e_mTup, e_mLst, e_mNx, e_mRetN, e_mIsN, e_mIsi, e_mTru, e_mAnd, e_mOr, e_mNot, e_mV, e_mAndV, e_mOrV, e_mNotV, e_mChain, e_mPar, e_mAsg, e_mFor, e_mItems, e_mRng1, e_mRng2, e_mEnum, e_mRaise, e_mCall, e_mAtt, e_mSetAtt, e_mMeth, e_mAnil0, e_mTry, e_mWh, e_mLc, e_mYes, e_mStar1, e_mPub, e_mAppO, e_mMt, e_mAstar, e_mSl, e_mPart, e_mNoPart, e_mBrk, e_mIf, e_mIx, e_mgName, e_mgTup, e_mgNil, e_mgCons, mDef, mDefV, mDefC, mCallAt, Mi.R.ne,
  Mi.bnd_ok, Mi.bnd_er, Mi.bnd_no, o_ok, o_er, o_no, ne_ok, ne_er, ne_no, Hd.at, rsv, opt, fin, ent, atAll, ownAt, gLt_ii, gLe_ii, gGt_ii, gGe_ii, gAdd, Mi.gSub, gLen, gNeg, gIx, atI_0, atI_1, gEq_int, gNe_int, Sl.d, kdOf, ansT, kI, kB, kT, kL, kS, insAt, tabA, tabS, tabM, List.getD_cons_zero, List.getD_cons_succ, truD, Option.bind_some, Option.bind_none, Option.map_some, Option.map_none,
  List.map_cons, List.map_nil, List.length_cons, List.length_nil, List.replicate_succ, List.replicate_zero, List.cons_append, List.nil_append, List.append_nil, List.getElem?_cons_zero, List.getElem?_cons_succ, List.set_cons_zero, List.set_cons_succ, Nat.reduceAdd, Nat.reduceSub, Nat.reduceLT, Nat.reduceEqDiff, Nat.reduceLeDiff, Nat.zero_add, natLit, le_LIM, lt_LIM, List.take_zero, List.drop_zero, List.take_succ_cons, List.drop_succ_cons, Nat.zero_le, true_and, and_true, and_self, Nat.reduceLeDiff, Int.reduceEq, Int.reduceLT, Int.reduceLE, Int.reduceAdd, Int.reduceSub, Int.reduceMul, Int.reduceNeg, Int.reduceToNat, eq_self_iff_true, reduceIte, if_true, if_false, ite_true, ite_false, Bool.false_eq_true, Bool.not_true, Bool.not_false, Bool.and_true, Bool.true_and, Bool.and_false, Bool.false_and, Bool.or_true, Bool.true_or, decide_true, decide_false, decide_eq_true_eq]
    exact e
theorem ev_draws (c : Int) (ss : List Int) (hs : ∀ s ∈ ss, 0 < s ∧ s < 2 ^ 30) (hl : ss.length < 1000) : ∃ ds, Dr ss ds ∧ ∀ S, cf__law_draws [.int c, .lst (ss.map D.int)] S = .ok (.va (.lst (ds.map D.int))) ⟨[], S⟩ := by
  by_cases h : (10 : Int) ^ 18 ≤ c
  · obtain ⟨ds, left', x', dr, e⟩ := forL_draw1 (.va (.int c)) (.va (.lst (ss.map D.int))) .un .un ss [] (c - 10 ^ 18) .un hs (by simpa using hl)
    refine ⟨ds, dr, fun S => ?_⟩
    simp only [cf__law_draws, m__law_draws]
    simp only [gPow18, h, e, e_mSeq, e_mIfS, e_mT, e_mBin, e_mUn, e_mNm, e_mNv, e_mF, e_mC, e_mRet, e_mSet, e_mSetIx, e_mApp, e_mExpr, e_mCB, e_mHcons, e_mHnil, e_mAcons, e_mAnil, e_mTup, e_mLst, e_mNx, e_mRetN, e_mIsN, e_mIsi, e_mTru, e_mAnd, e_mOr, e_mNot, e_mV, e_mAndV, e_mOrV, e_mNotV, e_mChain, e_mPar, e_mAsg, e_mFor, e_mItems, e_mRng1, e_mRng2, e_mEnum, e_mRaise, e_mCall, e_mAtt, e_mSetAtt, e_mMeth, e_mAnil0, e_mTry, e_mWh, e_mLc, e_mYes, e_mStar1, e_mPub, e_mAppO, e_mMt, e_mAstar, e_mSl, e_mPart, e_mNoPart, e_mBrk, e_mIf, e_mIx, e_mgName, e_mgTup, e_mgNil, e_mgCons, mDef, mDefV, mDefC, mCallAt, Mi.R.ne,
  Mi.bnd_ok, Mi.bnd_er, Mi.bnd_no, o_ok, o_er, o_no, ne_ok, ne_er, ne_no, Hd.at, rsv, opt, fin, ent, atAll, ownAt, gLt_ii, gLe_ii, gGt_ii, gGe_ii, gAdd, Mi.gSub, gLen, gNeg, gIx, atI_0, atI_1, gEq_int, gNe_int, Sl.d, kdOf, ansT, kI, kB, kT, kL, kS, insAt, tabA, tabS, tabM, List.getD_cons_zero, List.getD_cons_succ, truD, Option.bind_some, Option.bind_none, Option.map_some, Option.map_none,
  List.map_cons, List.map_nil, List.length_cons, List.length_nil, List.replicate_succ, List.replicate_zero, List.cons_append, List.nil_append, List.append_nil, List.getElem?_cons_zero, List.getElem?_cons_succ, List.set_cons_zero, List.set_cons_succ, Nat.reduceAdd, Nat.reduceSub, Nat.reduceLT, Nat.reduceEqDiff, Nat.reduceLeDiff, Nat.zero_add, natLit, le_LIM, lt_LIM, List.take_zero, List.drop_zero, List.take_succ_cons, List.drop_succ_cons, Nat.zero_le, true_and, and_true, and_self, Nat.reduceLeDiff, Int.reduceEq, Int.reduceLT, Int.reduceLE, Int.reduceAdd, Int.reduceSub, Int.reduceMul, Int.reduceNeg, Int.reduceToNat, eq_self_iff_true, reduceIte, if_true, if_false, ite_true, ite_false, Bool.false_eq_true, Bool.not_true, Bool.not_false, Bool.and_true, Bool.true_and, Bool.and_false, Bool.false_and, Bool.or_true, Bool.true_or, decide_true, decide_false, decide_eq_true_eq]
  · obtain ⟨ds, x', y', dr, e⟩ := forL_draw2 c ss .un .un ss 0 [] .un .un hs (by simpa using hl) rfl
    rw [show (((0 : Nat) : Int)) = 0 from rfl] at e
    have hr : rngOk (ss.length : Int) = true := rngOk_nat (by omega)
    refine ⟨ds, dr, fun S => ?_⟩
    simp only [cf__law_draws, m__law_draws]
    simp only [gPow18, h, List.length_map, hr, Int.toNat_natCast, e, e_mSeq, e_mIfS, e_mT, e_mBin, e_mUn, e_mNm, e_mNv, e_mF, e_mC, e_mRet, e_mSet, e_mSetIx, e_mApp, e_mExpr, e_mCB, e_mHcons, e_mHnil, e_mAcons, e_mAnil, e_mTup, e_mLst, e_mNx, e_mRetN, e_mIsN, e_mIsi, e_mTru, e_mAnd, e_mOr, e_mNot, e_mV, e_mAndV, e_mOrV, e_mNotV, e_mChain, e_mPar, e_mAsg, e_mFor, e_mItems, e_mRng1, e_mRng2, e_mEnum, e_mRaise, e_mCall, e_mAtt, e_mSetAtt, e_mMeth, e_mAnil0, e_mTry, e_mWh, e_mLc, e_mYes, e_mStar1, e_mPub, e_mAppO, e_mMt, e_mAstar, e_mSl, e_mPart, e_mNoPart, e_mBrk, e_mIf, e_mIx, e_mgName, e_mgTup, e_mgNil, e_mgCons, mDef, mDefV, mDefC, mCallAt, Mi.R.ne,
  Mi.bnd_ok, Mi.bnd_er, Mi.bnd_no, o_ok, o_er, o_no, ne_ok, ne_er, ne_no, Hd.at, rsv, opt, fin, ent, atAll, ownAt, gLt_ii, gLe_ii, gGt_ii, gGe_ii, gAdd, Mi.gSub, gLen, gNeg, gIx, atI_0, atI_1, gEq_int, gNe_int, Sl.d, kdOf, ansT, kI, kB, kT, kL, kS, insAt, tabA, tabS, tabM, List.getD_cons_zero, List.getD_cons_succ, truD, Option.bind_some, Option.bind_none, Option.map_some, Option.map_none,
  List.map_cons, List.map_nil, List.length_cons, List.length_nil, List.replicate_succ, List.replicate_zero, List.cons_append, List.nil_append, List.append_nil, List.getElem?_cons_zero, List.getElem?_cons_succ, List.set_cons_zero, List.set_cons_succ, Nat.reduceAdd, Nat.reduceSub, Nat.reduceLT, Nat.reduceEqDiff, Nat.reduceLeDiff, Nat.zero_add, natLit, le_LIM, lt_LIM, List.take_zero, List.drop_zero, List.take_succ_cons, List.drop_succ_cons, Nat.zero_le, true_and, and_true, and_self, Nat.reduceLeDiff, Int.reduceEq, Int.reduceLT, Int.reduceLE, Int.reduceAdd, Int.reduceSub, Int.reduceMul, Int.reduceNeg, Int.reduceToNat, eq_self_iff_true, reduceIte, if_true, if_false, ite_true, ite_false, Bool.false_eq_true, Bool.not_true, Bool.not_false, Bool.and_true, Bool.true_and, Bool.and_false, Bool.false_and, Bool.or_true, Bool.true_or, decide_true, decide_false, decide_eq_true_eq]
end Lw

set_option exponentiation.threshold 100000
namespace Lw
open PySem Mi
theorem lf_loop (S : List Ins) (p q : Sl) : ∀ (n : Nat) (a b : Int) (z : Sl), 0 ≤ b → 0 ≤ a → b.natAbs < n → ∃ g : Int, ∃ z', whL wt__law_fraction1 wb__law_fraction1 n ⟨[p, q, .va (.int a), .va (.int b), z], S⟩ = .nx ⟨[p, q, .va (.int g), .va (.int 0), z'], S⟩ ∧
    (0 < b → g = (Int.gcd a b : Nat)) ∧ (b = 0 → g = a)
  | 0, a, b, z, h0, ha, h => absurd h (Nat.not_lt_zero _)
  | n + 1, a, b, z, h0, ha, h => by
    simp only [whL, wt__law_fraction1, wb__law_fraction1] at *
    by_cases w : b = 0
    · subst w
      simp only [e_mSeq, e_mIfS, e_mT, e_mBin, e_mUn, e_mNm, e_mNv, e_mF, e_mC, e_mRet, e_mSet, e_mSetIx, e_mApp, e_mExpr, e_mCB, e_mHcons, e_mHnil, e_mAcons, e_mAnil, e_mTup, e_mLst, e_mNx, e_mRetN, e_mIsN, e_mIsi, e_mTru, e_mAnd, e_mOr, e_mNot, e_mV, e_mAndV, e_mOrV, e_mNotV, e_mChain, e_mPar, e_mAsg, e_mFor, e_mItems, e_mRng1, e_mRng2, e_mEnum, e_mRaise, e_mCall, e_mAtt, e_mSetAtt, e_mMeth, e_mAnil0, e_mTry, e_mWh, e_mLc, e_mYes, e_mStar1, e_mPub, e_mAppO, e_mMt, e_mAstar, e_mSl, e_mPart, e_mNoPart, e_mBrk, e_mIf, e_mIx, e_mgName, e_mgTup, e_mgNil, e_mgCons, mDef, mDefV, mDefC, mCallAt, Mi.R.ne,
  Mi.bnd_ok, Mi.bnd_er, Mi.bnd_no, o_ok, o_er, o_no, ne_ok, ne_er, ne_no, Hd.at, rsv, opt, fin, ent, atAll, ownAt, gLt_ii, gLe_ii, gGt_ii, gGe_ii, gAdd, Mi.gSub, gLen, gNeg, gIx, atI_0, atI_1, gEq_int, gNe_int, Sl.d, kdOf, ansT, kI, kB, kT, kL, kS, insAt, tabA, tabS, tabM, List.getD_cons_zero, List.getD_cons_succ, truD, Option.bind_some, Option.bind_none, Option.map_some, Option.map_none,
  List.map_cons, List.map_nil, List.length_cons, List.length_nil, List.replicate_succ, List.replicate_zero, List.cons_append, List.nil_append, List.append_nil, List.getElem?_cons_zero, List.getElem?_cons_succ, List.set_cons_zero, List.set_cons_succ, Nat.reduceAdd, Nat.reduceSub, Nat.reduceLT, Nat.reduceEqDiff, Nat.reduceLeDiff, Nat.zero_add, natLit, le_LIM, lt_LIM, List.take_zero, List.drop_zero, List.take_succ_cons, List.drop_succ_cons, Nat.zero_le, true_and, and_true, and_self, Nat.reduceLeDiff, Int.reduceEq, Int.reduceLT, Int.reduceLE, Int.reduceAdd, Int.reduceSub, Int.reduceMul, Int.reduceNeg, Int.reduceToNat, eq_self_iff_true, reduceIte, if_true, if_false, ite_true, ite_false, Bool.false_eq_true, Bool.not_true, Bool.not_false, Bool.and_true, Bool.true_and, Bool.and_false, Bool.false_and, Bool.or_true, Bool.true_or, decide_true, decide_false, decide_eq_true_eq]
      exact ⟨a, z, rfl, fun z => absurd z (by decide), fun _ => rfl⟩
    · have hb : 0 < b := by omega
      have hm : 0 ≤ a % b := Int.emod_nonneg _ w
      have hl : a % b < b := Int.emod_lt_of_pos _ hb
      obtain ⟨g, z', e, h1, h2⟩ := lf_loop S p q n b (a % b) (.va (.int (a % b))) hm h0 (by omega)
      simp only [gMod_ok hb, hb, e_mSeq, e_mIfS, e_mT, e_mBin, e_mUn, e_mNm, e_mNv, e_mF, e_mC, e_mRet, e_mSet, e_mSetIx, e_mApp, e_mExpr, e_mCB, e_mHcons, e_mHnil, e_mAcons, e_mAnil, e_mTup, e_mLst, e_mNx, e_mRetN, e_mIsN, e_mIsi, e_mTru, e_mAnd, e_mOr, e_mNot, e_mV, e_mAndV, e_mOrV, e_mNotV, e_mChain, e_mPar, e_mAsg, e_mFor, e_mItems, e_mRng1, e_mRng2, e_mEnum, e_mRaise, e_mCall, e_mAtt, e_mSetAtt, e_mMeth, e_mAnil0, e_mTry, e_mWh, e_mLc, e_mYes, e_mStar1, e_mPub, e_mAppO, e_mMt, e_mAstar, e_mSl, e_mPart, e_mNoPart, e_mBrk, e_mIf, e_mIx, e_mgName, e_mgTup, e_mgNil, e_mgCons, mDef, mDefV, mDefC, mCallAt, Mi.R.ne,
  Mi.bnd_ok, Mi.bnd_er, Mi.bnd_no, o_ok, o_er, o_no, ne_ok, ne_er, ne_no, Hd.at, rsv, opt, fin, ent, atAll, ownAt, gLt_ii, gLe_ii, gGt_ii, gGe_ii, gAdd, Mi.gSub, gLen, gNeg, gIx, atI_0, atI_1, gEq_int, gNe_int, Sl.d, kdOf, ansT, kI, kB, kT, kL, kS, insAt, tabA, tabS, tabM, List.getD_cons_zero, List.getD_cons_succ, truD, Option.bind_some, Option.bind_none, Option.map_some, Option.map_none,
  List.map_cons, List.map_nil, List.length_cons, List.length_nil, List.replicate_succ, List.replicate_zero, List.cons_append, List.nil_append, List.append_nil, List.getElem?_cons_zero, List.getElem?_cons_succ, List.set_cons_zero, List.set_cons_succ, Nat.reduceAdd, Nat.reduceSub, Nat.reduceLT, Nat.reduceEqDiff, Nat.reduceLeDiff, Nat.zero_add, natLit, le_LIM, lt_LIM, List.take_zero, List.drop_zero, List.take_succ_cons, List.drop_succ_cons, Nat.zero_le, true_and, and_true, and_self, Nat.reduceLeDiff, Int.reduceEq, Int.reduceLT, Int.reduceLE, Int.reduceAdd, Int.reduceSub, Int.reduceMul, Int.reduceNeg, Int.reduceToNat, eq_self_iff_true, reduceIte, if_true, if_false, ite_true, ite_false, Bool.false_eq_true, Bool.not_true, Bool.not_false, Bool.and_true, Bool.true_and, Bool.and_false, Bool.false_and, Bool.or_true, Bool.true_or, decide_true, decide_false, decide_eq_true_eq]
      refine ⟨g, z', e, fun _ => ?_, fun z => absurd z w⟩
      by_cases z : a % b = 0
      · rw [h2 z]
        have := Int.gcd_eq_right (by omega) (Int.dvd_of_emod_eq_zero z)
        rw [this]
      · rw [h1 (by omega)]
        have := Wr.gcd_fmod a b
        rw [Int.fmod_eq_emod_of_nonneg a h0] at this
        rw [← this]
theorem ev_lfrac (t b : Int) (hb : 0 < b) (hs : b.natAbs < 2 ^ 7000) (S : List Ins) : cf__law_fraction [.int t, .int b] S = .ok (.va (frD (Wr.frT t b) (Wr.frB t b))) ⟨[], S⟩ := by
  have hab : gAbs [.int t] = some (.va (.int (t.natAbs : Nat))) := by
    simp only [gAbs]
    congr 3
    split <;> omega
  obtain ⟨g, z', e, h1, _⟩ := lf_loop S (.va (.int t)) (.va (.int b)) (fuel ⟨[.va (.int t), .va (.int b), .va (.int (t.natAbs : Nat)), .va (.int b), .un], S⟩) (t.natAbs : Nat) b .un (by omega) (by omega) (by simp only [fuel, List.foldl_cons, List.foldl_nil]; omega)
  have hg := h1 hb
  rw [show Int.gcd ((t.natAbs : Nat) : Int) b = Int.gcd t b from by unfold Int.gcd; rw [Int.natAbs_natCast]] at hg
  subst hg
  have hsm := gcd_small (a := t) hb hs
  simp only [cf__law_fraction, m__law_fraction]
  simp only [hab, e, gDiv_ok hsm.1 hsm.2, (fr_pos hb).1, (fr_pos hb).2, e_mSeq, e_mIfS, e_mT, e_mBin, e_mUn, e_mNm, e_mNv, e_mF, e_mC, e_mRet, e_mSet, e_mSetIx, e_mApp, e_mExpr, e_mCB, e_mHcons, e_mHnil, e_mAcons, e_mAnil, e_mTup, e_mLst, e_mNx, e_mRetN, e_mIsN, e_mIsi, e_mTru, e_mAnd, e_mOr, e_mNot, e_mV, e_mAndV, e_mOrV, e_mNotV, e_mChain, e_mPar, e_mAsg, e_mFor, e_mItems, e_mRng1, e_mRng2, e_mEnum, e_mRaise, e_mCall, e_mAtt, e_mSetAtt, e_mMeth, e_mAnil0, e_mTry, e_mWh, e_mLc, e_mYes, e_mStar1, e_mPub, e_mAppO, e_mMt, e_mAstar, e_mSl, e_mPart, e_mNoPart, e_mBrk, e_mIf, e_mIx, e_mgName, e_mgTup, e_mgNil, e_mgCons, mDef, mDefV, mDefC, mCallAt, Mi.R.ne,
  Mi.bnd_ok, Mi.bnd_er, Mi.bnd_no, o_ok, o_er, o_no, ne_ok, ne_er, ne_no, Hd.at, rsv, opt, fin, ent, atAll, ownAt, gLt_ii, gLe_ii, gGt_ii, gGe_ii, gAdd, Mi.gSub, gLen, gNeg, gIx, atI_0, atI_1, gEq_int, gNe_int, Sl.d, kdOf, ansT, kI, kB, kT, kL, kS, insAt, tabA, tabS, tabM, List.getD_cons_zero, List.getD_cons_succ, truD, Option.bind_some, Option.bind_none, Option.map_some, Option.map_none,
  List.map_cons, List.map_nil, List.length_cons, List.length_nil, List.replicate_succ, List.replicate_zero, List.cons_append, List.nil_append, List.append_nil, List.getElem?_cons_zero, List.getElem?_cons_succ, List.set_cons_zero, List.set_cons_succ, Nat.reduceAdd, Nat.reduceSub, Nat.reduceLT, Nat.reduceEqDiff, Nat.reduceLeDiff, Nat.zero_add, natLit, le_LIM, lt_LIM, List.take_zero, List.drop_zero, List.take_succ_cons, List.drop_succ_cons, Nat.zero_le, true_and, and_true, and_self, Nat.reduceLeDiff, Int.reduceEq, Int.reduceLT, Int.reduceLE, Int.reduceAdd, Int.reduceSub, Int.reduceMul, Int.reduceNeg, Int.reduceToNat, eq_self_iff_true, reduceIte, if_true, if_false, ite_true, ite_false, Bool.false_eq_true, Bool.not_true, Bool.not_false, Bool.and_true, Bool.true_and, Bool.and_false, Bool.false_and, Bool.or_true, Bool.true_or, decide_true, decide_false, decide_eq_true_eq]
end Lw

namespace Lw
open PySem Mi
theorem eqv_ii (a b : Int) : PyData.eqv (toPy (.int a)) (toPy (.int b)) = decide (a = b) := by
  simp only [toPy, PyData.eqv]
  rfl
theorem ok_ints (n : Nat) : ∀ l : List Int, (l.map D.int).all (okF (n + 1)) = true
  | [] => rfl
  | x :: l => by rw [List.map_cons, List.all_cons, ok_ints n l]; rfl
theorem memD_ints (x : Int) : ∀ l : List Int, memD (.int x) (l.map D.int) = decide (x ∈ l)
  | [] => rfl
  | y :: l => by
    have ih := memD_ints x l
    unfold memD at ih ⊢
    rw [List.map_cons, List.any_cons, ih, eqv_ii]
    rw [Bool.eq_iff_iff]
    simp only [Bool.or_eq_true, decide_eq_true_eq, List.mem_cons]
    constructor
    · rintro (h | h)
      · exact .inl h.symm
      · exact .inr h
    · rintro (h | h)
      · exact .inl h.symm
      · exact .inr h
theorem gNotIn_ints (x : Int) (l : List Int) : gNotIn (.int x) (.lst (l.map D.int)) = some (.va (.bl (!decide (x ∈ l)))) := by
  simp only [gNotIn, memI]
  rw [ok_ints 37, memD_ints]
  rfl
theorem idxD_ints (x : Int) : ∀ (l : List Int) (i : Nat), x ∈ l → idxD (.int x) i (l.map D.int) = some (i + Wr.plc x l)
  | [], _, h => by cases h
  | y :: l, i, h => by
    rw [List.map_cons, idxD, eqv_ii, Wr.plc]
    by_cases e : y = x
    · simp [e]
    · have hm : x ∈ l := by
        rcases List.mem_cons.mp h with h | h
        · exact absurd h.symm e
        · exact h
      simp only [decide_eq_false e, Bool.false_eq_true, if_false, if_neg e]
      rw [idxD_ints x l (i + 1) hm]
      congr 1; omega
theorem gIndex_ints (x : Int) (l : List Int) (h : x ∈ l) : gIndex (.lst (l.map D.int)) [.int x] = some (.va (.int (Wr.plc x l : Nat))) := by
  simp only [gIndex]
  rw [ok_ints 39, idxD_ints x l 0 h]
  simp [okF]
theorem forL_labs (S : List Ins) (a : Sl) : ∀ (ks : List Int) (seen : List Int) (labs : List D) (x : Sl), seen.length + ks.length < 1000 → labs.length + ks.length < 1000 →
    ∃ x', forL fg__law_labels1 fb__law_labels1 (ks.map D.int) ⟨[a, .ow (seen.map D.int), .ow labs, x], S⟩ = .nx ⟨[a, .ow ((ks.foldl Wr.sn seen).map D.int), .ow (labs ++ (Wr.canL seen ks).map D.int), x'], S⟩
  | [], seen, labs, x, _, _ => ⟨x, by simp [forL, Wr.canL]⟩
  | k :: ks, seen, labs, x, h1, h2 => by
    have hs : (Wr.sn seen k).length ≤ seen.length + 1 := Wr.sn_len seen k
    obtain ⟨x', e⟩ := forL_labs S a ks (Wr.sn seen k) (labs ++ [.int (Wr.plc k (Wr.sn seen k) : Nat)]) (.va (.int k)) (by simp at h1; omega) (by simp at h2 ⊢; omega)
    refine ⟨x', ?_⟩
    have l1 : (seen.map D.int).length < LIM := by rw [List.length_map]; exact Nat.lt_of_lt_of_le (show seen.length < 1000 by simp at h1; omega) (by decide)
    have l2 : labs.length < LIM := Nat.lt_of_lt_of_le (show labs.length < 1000 by simp at h2; omega) (by decide)
    have hi := gIndex_ints k (Wr.sn seen k) (Wr.sn_mem seen k)
    rw [List.append_assoc] at e
    rw [List.foldl_cons, Wr.canL, List.map_cons, List.map_cons, forL]
    by_cases m : k ∈ seen
    · have es : Wr.sn seen k = seen := if_pos m
      rw [es] at hi e ⊢
      simp only [fg__law_labels1, fb__law_labels1, gNotIn_ints, m, tyN, hi, l2, e_mSeq, e_mIfS, e_mT, e_mBin, e_mUn, e_mNm, e_mNv, e_mF, e_mC, e_mRet, e_mSet, e_mSetIx, e_mApp, e_mExpr, e_mCB, e_mHcons, e_mHnil, e_mAcons, e_mAnil, e_mTup, e_mLst, e_mNx, e_mRetN, e_mIsN, e_mIsi, e_mTru, e_mAnd, e_mOr, e_mNot, e_mV, e_mAndV, e_mOrV, e_mNotV, e_mChain, e_mPar, e_mAsg, e_mFor, e_mItems, e_mRng1, e_mRng2, e_mEnum, e_mRaise, e_mCall, e_mAtt, e_mSetAtt, e_mMeth, e_mAnil0, e_mTry, e_mWh, e_mLc, e_mYes, e_mStar1, e_mPub, e_mAppO, e_mMt, e_mAstar, e_mSl, e_mPart, e_mNoPart, e_mBrk, e_mIf, e_mIx, e_mgName, e_mgTup, e_mgNil, e_mgCons, mDef, mDefV, mDefC, mCallAt, Mi.R.ne,
  Mi.bnd_ok, Mi.bnd_er, Mi.bnd_no, o_ok, o_er, o_no, ne_ok, ne_er, ne_no, Hd.at, rsv, opt, fin, ent, atAll, ownAt, gLt_ii, gLe_ii, gGt_ii, gGe_ii, gAdd, Mi.gSub, gLen, gNeg, gIx, atI_0, atI_1, gEq_int, gNe_int, Sl.d, kdOf, ansT, kI, kB, kT, kL, kS, insAt, tabA, tabS, tabM, List.getD_cons_zero, List.getD_cons_succ, truD, Option.bind_some, Option.bind_none, Option.map_some, Option.map_none,
  List.map_cons, List.map_nil, List.length_cons, List.length_nil, List.replicate_succ, List.replicate_zero, List.cons_append, List.nil_append, List.append_nil, List.getElem?_cons_zero, List.getElem?_cons_succ, List.set_cons_zero, List.set_cons_succ, Nat.reduceAdd, Nat.reduceSub, Nat.reduceLT, Nat.reduceEqDiff, Nat.reduceLeDiff, Nat.zero_add, natLit, le_LIM, lt_LIM, List.take_zero, List.drop_zero, List.take_succ_cons, List.drop_succ_cons, Nat.zero_le, true_and, and_true, and_self, Nat.reduceLeDiff, Int.reduceEq, Int.reduceLT, Int.reduceLE, Int.reduceAdd, Int.reduceSub, Int.reduceMul, Int.reduceNeg, Int.reduceToNat, eq_self_iff_true, reduceIte, if_true, if_false, ite_true, ite_false, Bool.false_eq_true, Bool.not_true, Bool.not_false, Bool.and_true, Bool.true_and, Bool.and_false, Bool.false_and, Bool.or_true, Bool.true_or, decide_true, decide_false, decide_eq_true_eq]
      exact e
    · have es : Wr.sn seen k = seen ++ [k] := if_neg m
      rw [es] at hi e ⊢
      rw [List.map_append, List.map_singleton] at hi e
      simp only [fg__law_labels1, fb__law_labels1, gNotIn_ints, m, tyN, hi, l1, l2, e_mSeq, e_mIfS, e_mT, e_mBin, e_mUn, e_mNm, e_mNv, e_mF, e_mC, e_mRet, e_mSet, e_mSetIx, e_mApp, e_mExpr, e_mCB, e_mHcons, e_mHnil, e_mAcons, e_mAnil, e_mTup, e_mLst, e_mNx, e_mRetN, e_mIsN, e_mIsi, e_mTru, e_mAnd, e_mOr, e_mNot, e_mV, e_mAndV, e_mOrV, e_mNotV, e_mChain, e_mPar, e_mAsg, e_mFor, e_mItems, e_mRng1, e_mRng2, e_mEnum, e_mRaise, e_mCall, e_mAtt, e_mSetAtt, e_mMeth, e_mAnil0, e_mTry, e_mWh, e_mLc, e_mYes, e_mStar1, e_mPub, e_mAppO, e_mMt, e_mAstar, e_mSl, e_mPart, e_mNoPart, e_mBrk, e_mIf, e_mIx, e_mgName, e_mgTup, e_mgNil, e_mgCons, mDef, mDefV, mDefC, mCallAt, Mi.R.ne,
  Mi.bnd_ok, Mi.bnd_er, Mi.bnd_no, o_ok, o_er, o_no, ne_ok, ne_er, ne_no, Hd.at, rsv, opt, fin, ent, atAll, ownAt, gLt_ii, gLe_ii, gGt_ii, gGe_ii, gAdd, Mi.gSub, gLen, gNeg, gIx, atI_0, atI_1, gEq_int, gNe_int, Sl.d, kdOf, ansT, kI, kB, kT, kL, kS, insAt, tabA, tabS, tabM, List.getD_cons_zero, List.getD_cons_succ, truD, Option.bind_some, Option.bind_none, Option.map_some, Option.map_none,
  List.map_cons, List.map_nil, List.length_cons, List.length_nil, List.replicate_succ, List.replicate_zero, List.cons_append, List.nil_append, List.append_nil, List.getElem?_cons_zero, List.getElem?_cons_succ, List.set_cons_zero, List.set_cons_succ, Nat.reduceAdd, Nat.reduceSub, Nat.reduceLT, Nat.reduceEqDiff, Nat.reduceLeDiff, Nat.zero_add, natLit, le_LIM, lt_LIM, List.take_zero, List.drop_zero, List.take_succ_cons, List.drop_succ_cons, Nat.zero_le, true_and, and_true, and_self, Nat.reduceLeDiff, Int.reduceEq, Int.reduceLT, Int.reduceLE, Int.reduceAdd, Int.reduceSub, Int.reduceMul, Int.reduceNeg, Int.reduceToNat, eq_self_iff_true, reduceIte, if_true, if_false, ite_true, ite_false, Bool.false_eq_true, Bool.not_true, Bool.not_false, Bool.and_true, Bool.true_and, Bool.and_false, Bool.false_and, Bool.or_true, Bool.true_or, decide_true, decide_false, decide_eq_true_eq]
      exact e
theorem ev_llabels (ks : List Int) (hl : ks.length < 1000) (S : List Ins) : cf__law_labels [.lst (ks.map D.int)] S = .ok (.va (.tup ((Wr.canL [] ks).map D.int))) ⟨[], S⟩ := by
  obtain ⟨x', e⟩ := forL_labs S (.va (.lst (ks.map D.int))) ks [] [] .un (by simpa using hl) (by simpa using hl)
  simp only [List.map_nil] at e
  simp only [cf__law_labels, m__law_labels]
  simp only [e, gTuple, e_mSeq, e_mIfS, e_mT, e_mBin, e_mUn, e_mNm, e_mNv, e_mF, e_mC, e_mRet, e_mSet, e_mSetIx, e_mApp, e_mExpr, e_mCB, e_mHcons, e_mHnil, e_mAcons, e_mAnil, e_mTup, e_mLst, e_mNx, e_mRetN, e_mIsN, e_mIsi, e_mTru, e_mAnd, e_mOr, e_mNot, e_mV, e_mAndV, e_mOrV, e_mNotV, e_mChain, e_mPar, e_mAsg, e_mFor, e_mItems, e_mRng1, e_mRng2, e_mEnum, e_mRaise, e_mCall, e_mAtt, e_mSetAtt, e_mMeth, e_mAnil0, e_mTry, e_mWh, e_mLc, e_mYes, e_mStar1, e_mPub, e_mAppO, e_mMt, e_mAstar, e_mSl, e_mPart, e_mNoPart, e_mBrk, e_mIf, e_mIx, e_mgName, e_mgTup, e_mgNil, e_mgCons, mDef, mDefV, mDefC, mCallAt, Mi.R.ne,
  Mi.bnd_ok, Mi.bnd_er, Mi.bnd_no, o_ok, o_er, o_no, ne_ok, ne_er, ne_no, Hd.at, rsv, opt, fin, ent, atAll, ownAt, gLt_ii, gLe_ii, gGt_ii, gGe_ii, gAdd, Mi.gSub, gLen, gNeg, gIx, atI_0, atI_1, gEq_int, gNe_int, Sl.d, kdOf, ansT, kI, kB, kT, kL, kS, insAt, tabA, tabS, tabM, List.getD_cons_zero, List.getD_cons_succ, truD, Option.bind_some, Option.bind_none, Option.map_some, Option.map_none,
  List.map_cons, List.map_nil, List.length_cons, List.length_nil, List.replicate_succ, List.replicate_zero, List.cons_append, List.nil_append, List.append_nil, List.getElem?_cons_zero, List.getElem?_cons_succ, List.set_cons_zero, List.set_cons_succ, Nat.reduceAdd, Nat.reduceSub, Nat.reduceLT, Nat.reduceEqDiff, Nat.reduceLeDiff, Nat.zero_add, natLit, le_LIM, lt_LIM, List.take_zero, List.drop_zero, List.take_succ_cons, List.drop_succ_cons, Nat.zero_le, true_and, and_true, and_self, Nat.reduceLeDiff, Int.reduceEq, Int.reduceLT, Int.reduceLE, Int.reduceAdd, Int.reduceSub, Int.reduceMul, Int.reduceNeg, Int.reduceToNat, eq_self_iff_true, reduceIte, if_true, if_false, ite_true, ite_false, Bool.false_eq_true, Bool.not_true, Bool.not_false, Bool.and_true, Bool.true_and, Bool.and_false, Bool.false_and, Bool.or_true, Bool.true_or, decide_true, decide_false, decide_eq_true_eq]
theorem canL_lab (ks : List Int) : Wr.labI 0 (Wr.canL [] ks) = true := Wr.labI_canL ks []
end Lw

namespace Lw
open PySem Mi
theorem gMul_rep (d : D) (n : Nat) (h : n ≤ 1000) : gMul (.lst [d]) (.int (n : Int)) = some (.ow (List.replicate n d)) := by
  simp only [gMul]
  rw [if_pos ⟨by unfold LIM; omega, by omega, by simp [LIM]; omega⟩]
  simp
theorem Dr.len {ss ds : List Int} (h : Dr ss ds) : ds.length = ss.length := by
  induction h with
  | nil => rfl
  | cons _ _ _ ih => rw [List.length_cons, List.length_cons, ih]
theorem Dr.at {ss ds : List Int} (h : Dr ss ds) : ∀ {i : Nat} {s : Int}, ss[i]? = some s → ∃ d, ds[i]? = some d ∧ 0 ≤ d ∧ d < s := by
  induction h with
  | nil => intro i s e; simp at e
  | cons h0 h1 _ ih =>
    intro i s e
    cases i with
    | zero => rw [List.getElem?_cons_zero] at e; cases e; exact ⟨_, rfl, h0, h1⟩
    | succ i => rw [List.getElem?_cons_succ] at e; obtain ⟨d, e1, e2⟩ := ih e; exact ⟨d, e1, e2⟩
def szs (n : Nat) : List Int := 5 :: (List.replicate n 6 ++ List.replicate n 9)
theorem szs_D (n : Nat) : (szs n).map D.int = (D.int 5 :: List.replicate n (D.int 6)) ++ List.replicate n (D.int 9) := by
  simp [szs]
theorem szs_ok (n : Nat) : ∀ s ∈ szs n, 0 < s ∧ s < 2 ^ 30 := by
  intro s m
  unfold szs at m
  rcases List.mem_cons.mp m with m | m
  · omega
  · rcases List.mem_append.mp m with m | m
    · rw [List.eq_of_mem_replicate m]; decide
    · rw [List.eq_of_mem_replicate m]; decide
/-- the row that is drawn -/
def rowL (ds : List Int) (n : Nat) : List Int := (List.range n).map fun i => ds.getD (1 + i) 0 % (1 + ds.getD 0 0)
def rowW (ds : List Int) (n : Nat) : List Int := (List.range n).map fun i => 1 + ds.getD (1 + n + i) 0
theorem ev_lrow (c : Int) (n : Nat) (hn : n ≤ 12) : ∃ ds, Dr (szs n) ds ∧ ∀ S, cf__law_row [.int c, .int n] S = .ok (.va (.tup [.tup ((Wr.canL [] (rowL ds n)).map D.int), .tup ((rowW ds n).map D.int)])) ⟨[], S⟩ := by
  obtain ⟨ds, dr, e⟩ := ev_draws c (szs n) (szs_ok n) (by simp [szs]; omega)
  refine ⟨ds, dr, fun S => ?_⟩
  have e := e S
  have hl : ds.length = n + n + 1 := by rw [dr.len]; simp [szs]
  have ix : ∀ j : Nat, j < n + n + 1 → L2.atI (ds.map D.int) (j : Int) = some (.int (ds.getD j 0)) := fun j h => by
    rw [Mi.atI_nat, List.getElem?_map, List.getD_eq_getElem?_getD, List.getElem?_eq_getElem (by omega)]; rfl
  have ix1 : ∀ i : Nat, i < n → L2.atI (ds.map D.int) (1 + (0 + (i : Int))) = some (.int (ds.getD (1 + i) 0)) := fun i h => by
    rw [← ix (1 + i) (by omega)]; congr 1; omega
  have ix2 : ∀ i : Nat, i < n → L2.atI (ds.map D.int) (1 + (n : Int) + (0 + (i : Int))) = some (.int (ds.getD (1 + n + i) 0)) := fun i h => by
    rw [← ix (1 + n + i) (by omega)]; congr 1; omega
  have ix0 : L2.atI (ds.map D.int) 0 = some (.int (ds.getD 0 0)) := ix 0 (by omega)
  have d0 : (0 : Int) < 1 + ds.getD 0 0 := by
    obtain ⟨d, e1, e2, _⟩ := dr.at (i := 0) (s := 5) rfl
    rw [List.getD_eq_getElem?_getD, e1]; simp; omega
  have g1 := gMul_rep (.int 6) n (by omega)
  have g2 := gMul_rep (.int 9) n (by omega)
  rw [szs_D, List.cons_append] at e
  have a1 : 1 + (List.replicate n (D.int 6)).length ≤ LIM := by rw [List.length_replicate]; unfold LIM; omega
  have a2 : (List.replicate n (D.int 6)).length + 1 + (List.replicate n (D.int 9)).length ≤ LIM := by rw [List.length_replicate, List.length_replicate]; unfold LIM; omega
  have hr : rngOk (n : Int) = true := rngOk_nat (by omega)
  have ln : (rngD 0 n).length ≤ LIM := by unfold rngD LIM; simp; omega
  have lc1 := lc_mapB (own := [4]) (mg := cg__law_row1) (me := ce__law_row1) (st0 := ⟨[.va (.int c), .va (.int n), .va (.lst (ds.map D.int)), .un, .un], S⟩)
    (fun i : Nat => D.int (0 + (i : Int))) (fun i => .int (ds.getD (1 + i) 0 % (1 + ds.getD 0 0))) (fun i => [.va (.int c), .va (.int n), .va (.lst (ds.map D.int)), .un, .va (.int (0 + (i : Int)))]) rfl (List.range n) (fun i m => by
      have hi : i < n := List.mem_range.mp m
      refine ⟨rfl, rfl, .va (.int (ds.getD (1 + i) 0 % (1 + ds.getD 0 0))), ?_, rfl⟩
      simp only [ce__law_row1, ix1 i hi, ix0, gMod_ok d0, e_mSeq, e_mIfS, e_mT, e_mBin, e_mUn, e_mNm, e_mNv, e_mF, e_mC, e_mRet, e_mSet, e_mSetIx, e_mApp, e_mExpr, e_mCB, e_mHcons, e_mHnil, e_mAcons, e_mAnil, e_mTup, e_mLst, e_mNx, e_mRetN, e_mIsN, e_mIsi, e_mTru, e_mAnd, e_mOr, e_mNot, e_mV, e_mAndV, e_mOrV, e_mNotV, e_mChain, e_mPar, e_mAsg, e_mFor, e_mItems, e_mRng1, e_mRng2, e_mEnum, e_mRaise, e_mCall, e_mAtt, e_mSetAtt, e_mMeth, e_mAnil0, e_mTry, e_mWh, e_mLc, e_mYes, e_mStar1, e_mPub, e_mAppO, e_mMt, e_mAstar, e_mSl, e_mPart, e_mNoPart, e_mBrk, e_mIf, e_mIx, e_mgName, e_mgTup, e_mgNil, e_mgCons, mDef, mDefV, mDefC, mCallAt, Mi.R.ne,
  Mi.bnd_ok, Mi.bnd_er, Mi.bnd_no, o_ok, o_er, o_no, ne_ok, ne_er, ne_no, Hd.at, rsv, opt, fin, ent, atAll, ownAt, gLt_ii, gLe_ii, gGt_ii, gGe_ii, gAdd, Mi.gSub, gLen, gNeg, gIx, atI_0, atI_1, gEq_int, gNe_int, Sl.d, kdOf, ansT, kI, kB, kT, kL, kS, insAt, tabA, tabS, tabM, List.getD_cons_zero, List.getD_cons_succ, truD, Option.bind_some, Option.bind_none, Option.map_some, Option.map_none,
  List.map_cons, List.map_nil, List.length_cons, List.length_nil, List.replicate_succ, List.replicate_zero, List.cons_append, List.nil_append, List.append_nil, List.getElem?_cons_zero, List.getElem?_cons_succ, List.set_cons_zero, List.set_cons_succ, Nat.reduceAdd, Nat.reduceSub, Nat.reduceLT, Nat.reduceEqDiff, Nat.reduceLeDiff, Nat.zero_add, natLit, le_LIM, lt_LIM, List.take_zero, List.drop_zero, List.take_succ_cons, List.drop_succ_cons, Nat.zero_le, true_and, and_true, and_self, Nat.reduceLeDiff, Int.reduceEq, Int.reduceLT, Int.reduceLE, Int.reduceAdd, Int.reduceSub, Int.reduceMul, Int.reduceNeg, Int.reduceToNat, eq_self_iff_true, reduceIte, if_true, if_false, ite_true, ite_false, Bool.false_eq_true, Bool.not_true, Bool.not_false, Bool.and_true, Bool.true_and, Bool.and_false, Bool.false_and, Bool.or_true, Bool.true_or, decide_true, decide_false, decide_eq_true_eq])
  have lc2 := fun X : Sl => lc_mapB (own := [4]) (mg := cg__law_row2) (me := ce__law_row2) (st0 := ⟨[.va (.int c), .va (.int n), .va (.lst (ds.map D.int)), X, .un], S⟩)
    (fun i : Nat => D.int (0 + (i : Int))) (fun i => .int (1 + ds.getD (1 + n + i) 0)) (fun i => [.va (.int c), .va (.int n), .va (.lst (ds.map D.int)), X, .va (.int (0 + (i : Int)))]) rfl (List.range n) (fun i m => by
      have hi : i < n := List.mem_range.mp m
      refine ⟨rfl, rfl, .va (.int (1 + ds.getD (1 + n + i) 0)), ?_, rfl⟩
      simp only [ce__law_row2, ix2 i hi, e_mSeq, e_mIfS, e_mT, e_mBin, e_mUn, e_mNm, e_mNv, e_mF, e_mC, e_mRet, e_mSet, e_mSetIx, e_mApp, e_mExpr, e_mCB, e_mHcons, e_mHnil, e_mAcons, e_mAnil, e_mTup, e_mLst, e_mNx, e_mRetN, e_mIsN, e_mIsi, e_mTru, e_mAnd, e_mOr, e_mNot, e_mV, e_mAndV, e_mOrV, e_mNotV, e_mChain, e_mPar, e_mAsg, e_mFor, e_mItems, e_mRng1, e_mRng2, e_mEnum, e_mRaise, e_mCall, e_mAtt, e_mSetAtt, e_mMeth, e_mAnil0, e_mTry, e_mWh, e_mLc, e_mYes, e_mStar1, e_mPub, e_mAppO, e_mMt, e_mAstar, e_mSl, e_mPart, e_mNoPart, e_mBrk, e_mIf, e_mIx, e_mgName, e_mgTup, e_mgNil, e_mgCons, mDef, mDefV, mDefC, mCallAt, Mi.R.ne,
  Mi.bnd_ok, Mi.bnd_er, Mi.bnd_no, o_ok, o_er, o_no, ne_ok, ne_er, ne_no, Hd.at, rsv, opt, fin, ent, atAll, ownAt, gLt_ii, gLe_ii, gGt_ii, gGe_ii, gAdd, Mi.gSub, gLen, gNeg, gIx, atI_0, atI_1, gEq_int, gNe_int, Sl.d, kdOf, ansT, kI, kB, kT, kL, kS, insAt, tabA, tabS, tabM, List.getD_cons_zero, List.getD_cons_succ, truD, Option.bind_some, Option.bind_none, Option.map_some, Option.map_none,
  List.map_cons, List.map_nil, List.length_cons, List.length_nil, List.replicate_succ, List.replicate_zero, List.cons_append, List.nil_append, List.append_nil, List.getElem?_cons_zero, List.getElem?_cons_succ, List.set_cons_zero, List.set_cons_succ, Nat.reduceAdd, Nat.reduceSub, Nat.reduceLT, Nat.reduceEqDiff, Nat.reduceLeDiff, Nat.zero_add, natLit, le_LIM, lt_LIM, List.take_zero, List.drop_zero, List.take_succ_cons, List.drop_succ_cons, Nat.zero_le, true_and, and_true, and_self, Nat.reduceLeDiff, Int.reduceEq, Int.reduceLT, Int.reduceLE, Int.reduceAdd, Int.reduceSub, Int.reduceMul, Int.reduceNeg, Int.reduceToNat, eq_self_iff_true, reduceIte, if_true, if_false, ite_true, ite_false, Bool.false_eq_true, Bool.not_true, Bool.not_false, Bool.and_true, Bool.true_and, Bool.and_false, Bool.false_and, Bool.or_true, Bool.true_or, decide_true, decide_false, decide_eq_true_eq])
  have el := ev_llabels (rowL ds n) (by simp [rowL]; omega) S
  have r1 : (List.range n).map (fun i => D.int (ds.getD (1 + i) 0 % (1 + ds.getD 0 0))) = (rowL ds n).map D.int := by rw [rowL, List.map_map]; rfl
  have r2 : (List.range n).map (fun i => D.int (1 + ds.getD (1 + n + i) 0)) = (rowW ds n).map D.int := by rw [rowW, List.map_map]; rfl
  have rr : rngD 0 n = (List.range n).map fun i : Nat => D.int (0 + (i : Int)) := rfl
  rw [r1, ← rr] at lc1
  simp only [r2, ← rr] at lc2
  simp only [cf__law_row, m__law_row]
  simp only [g1, g2, a1, a2, e, hr, Int.toNat_natCast, ln, wipeS, rst, vaOf, lc1, lc2, el, gTuple, e_mSeq, e_mIfS, e_mT, e_mBin, e_mUn, e_mNm, e_mNv, e_mF, e_mC, e_mRet, e_mSet, e_mSetIx, e_mApp, e_mExpr, e_mCB, e_mHcons, e_mHnil, e_mAcons, e_mAnil, e_mTup, e_mLst, e_mNx, e_mRetN, e_mIsN, e_mIsi, e_mTru, e_mAnd, e_mOr, e_mNot, e_mV, e_mAndV, e_mOrV, e_mNotV, e_mChain, e_mPar, e_mAsg, e_mFor, e_mItems, e_mRng1, e_mRng2, e_mEnum, e_mRaise, e_mCall, e_mAtt, e_mSetAtt, e_mMeth, e_mAnil0, e_mTry, e_mWh, e_mLc, e_mYes, e_mStar1, e_mPub, e_mAppO, e_mMt, e_mAstar, e_mSl, e_mPart, e_mNoPart, e_mBrk, e_mIf, e_mIx, e_mgName, e_mgTup, e_mgNil, e_mgCons, mDef, mDefV, mDefC, mCallAt, Mi.R.ne,
  Mi.bnd_ok, Mi.bnd_er, Mi.bnd_no, o_ok, o_er, o_no, ne_ok, ne_er, ne_no, Hd.at, rsv, opt, fin, ent, atAll, ownAt, gLt_ii, gLe_ii, gGt_ii, gGe_ii, gAdd, Mi.gSub, gLen, gNeg, gIx, atI_0, atI_1, gEq_int, gNe_int, Sl.d, kdOf, ansT, kI, kB, kT, kL, kS, insAt, tabA, tabS, tabM, List.getD_cons_zero, List.getD_cons_succ, truD, Option.bind_some, Option.bind_none, Option.map_some, Option.map_none,
  List.map_cons, List.map_nil, List.length_cons, List.length_nil, List.replicate_succ, List.replicate_zero, List.cons_append, List.nil_append, List.append_nil, List.getElem?_cons_zero, List.getElem?_cons_succ, List.set_cons_zero, List.set_cons_succ, Nat.reduceAdd, Nat.reduceSub, Nat.reduceLT, Nat.reduceEqDiff, Nat.reduceLeDiff, Nat.zero_add, natLit, le_LIM, lt_LIM, List.take_zero, List.drop_zero, List.take_succ_cons, List.drop_succ_cons, Nat.zero_le, true_and, and_true, and_self, Nat.reduceLeDiff, Int.reduceEq, Int.reduceLT, Int.reduceLE, Int.reduceAdd, Int.reduceSub, Int.reduceMul, Int.reduceNeg, Int.reduceToNat, eq_self_iff_true, reduceIte, if_true, if_false, ite_true, ite_false, Bool.false_eq_true, Bool.not_true, Bool.not_false, Bool.and_true, Bool.true_and, Bool.and_false, Bool.false_and, Bool.or_true, Bool.true_or, decide_true, decide_false, decide_eq_true_eq]
end Lw

set_option exponentiation.threshold 100000
namespace Lw
open PySem Mi
theorem labI_bd : ∀ (ns : List Int) (k : Int), Wr.labI k ns = true → ∀ x ∈ ns, 0 ≤ x ∧ x < k + ns.length
  | [], _, _, _, m => by cases m
  | y :: ns, k, h, x, m => by
    rw [Wr.labI, Bool.and_eq_true, Bool.and_eq_true, decide_eq_true_eq, decide_eq_true_eq] at h
    obtain ⟨⟨h1, h2⟩, h3⟩ := h
    rw [List.length_cons]
    rcases List.mem_cons.mp m with rfl | m
    · omega
    · have z := labI_bd ns _ h3 x m
      omega
theorem canL_len {α : Type} [DecidableEq α] : ∀ (ks seen : List α), (Wr.canL seen ks).length = ks.length
  | [], _ => rfl
  | k :: ks, seen => by rw [Wr.canL, List.length_cons, List.length_cons, canL_len ks]
theorem nat_of (ns : List Int) (h : ∀ x ∈ ns, 0 ≤ x) : natI (ns.map Int.toNat) = ns ∧ (ns.map Int.toNat).map natD = ns.map D.int := by
  have e : ∀ x ∈ ns, ((x.toNat : Nat) : Int) = x := fun x m => Int.toNat_of_nonneg (h x m)
  constructor
  · unfold natI
    rw [List.map_map]
    conv => rhs; rw [← List.map_id ns]
    exact List.map_congr_left fun x m => e x m
  · rw [List.map_map]
    exact List.map_congr_left fun x m => by show D.int ((x.toNat : Nat) : Int) = _; rw [e x m]
def rowD (ls : List Nat) (ws : List Int) : D := .tup [labD ls, wsD ws]
/-- labels that are made of keys -/
theorem row_of {n : Nat} (h1 : 1 ≤ n) (h2 : n ≤ 12) {ks ws : List Int} (hk : ks.length = n) (hw : ws.length = n) (hb : ∀ w ∈ ws, 1 ≤ w ∧ w ≤ 1000) : RowOk n ((Wr.canL [] ks).map Int.toNat) ws ∧ ((Wr.canL [] ks).map Int.toNat).map natD = (Wr.canL [] ks).map D.int := by
  have lb := labI_bd (Wr.canL [] ks) 0 (canL_lab ks)
  have z := nat_of (Wr.canL [] ks) fun x m => (lb x m).1
  refine ⟨⟨h1, h2, by rw [List.length_map, canL_len, hk], hw, fun l m => ?_, by rw [z.1]; exact canL_lab ks, hb⟩, z.2⟩
  obtain ⟨x, m', rfl⟩ := List.mem_map.mp m
  have := lb x m'
  rw [canL_len, hk] at this
  omega
theorem ev_row_ok (c : Int) {n : Nat} (h1 : 1 ≤ n) (h2 : n ≤ 12) : ∃ ls ws, RowOk n ls ws ∧ (∀ w ∈ ws, w ≤ 9) ∧ ∀ S, cf__law_row [.int c, .int n] S = .ok (.va (rowD ls ws)) ⟨[], S⟩ := by
  obtain ⟨ds, dr, e⟩ := ev_lrow c n h2
  have hb : ∀ w ∈ rowW ds n, 1 ≤ w ∧ w ≤ 9 := fun w m => by
    obtain ⟨i, hi, rfl⟩ := List.mem_map.mp m
    have hi := List.mem_range.mp hi
    have es : (szs n)[1 + n + i]? = some 9 := by
      unfold szs
      rw [show 1 + n + i = (n + i) + 1 by omega, List.getElem?_cons_succ, List.getElem?_append_right (by simp), List.length_replicate, Nat.add_sub_cancel_left, List.getElem?_replicate, if_pos hi]
    obtain ⟨d, q1, q2, q3⟩ := dr.at es
    rw [List.getD_eq_getElem?_getD, q1]
    show 1 ≤ 1 + d ∧ 1 + d ≤ 9
    omega
  obtain ⟨r, z⟩ := row_of h1 h2 (ks := rowL ds n) (ws := rowW ds n) (by simp [rowL]) (by simp [rowW]) fun w m => ⟨(hb w m).1, Int.le_trans (hb w m).2 (by decide)⟩
  refine ⟨_, _, r, fun w m => (hb w m).2, fun S => ?_⟩
  rw [e S, rowD, labD, wsD, z]
theorem rowD_in {ls : List Nat} {ws : List Int} : rowD ls ws = .tup [.tup (ls.map natD), .tup (ws.map D.int)] := rfl
end Lw

namespace Lw
open PySem Mi
theorem ix_nat {ls : List Nat} {p : Nat} (h : p < ls.length) : L2.atI (ls.map natD) (0 + (p : Int)) = some (natD (ls.getD p 0)) := by
  rw [Int.zero_add, Mi.atI_nat, List.getElem?_map, List.getD_eq_getElem?_getD, List.getElem?_eq_getElem h]
  rfl
theorem gEq_nat (a b : Nat) : gEq (natD a) (natD b) = some (.va (.bl (decide (a = b)))) := by
  rw [natD, natD, gEq_int]
  congr 3
  rw [decide_eq_decide]; omega
theorem rngD_nat (n : Nat) : rngD 0 n = (List.range n).map fun i : Nat => D.int (0 + (i : Int)) := rfl
theorem rngD_len (i : Int) (n : Nat) : (rngD i n).length = n := by simp [rngD]
theorem rngD_add (i : Int) (n : Nat) : rngD i n = (List.range n).map fun j : Nat => D.int (i + (j : Int)) := rfl
theorem nat0 (p : Nat) : D.int (0 + (p : Int)) = natD p := by rw [Int.zero_add]; rfl
theorem lc_lparts (S : List Ins) (ls : List Nat) (x : Sl) (l : Nat) : lcLoop [3] cg__law_parts1 ct__law_parts1 ce__law_parts1 (rngD 0 ls.length) ⟨[.va (labD ls), x, .va (natD l), .un], S⟩ =
    .ok ((idxs 0 ls l).map natD) ⟨[.va (labD ls), x, .va (natD l), .un], S⟩ := by
  rw [rngD_nat, idxs0]
  refine lc_filterB (fun i : Nat => D.int (0 + (i : Int))) (fun j => decide (ls.getD j 0 = l)) natD (fun i => [.va (labD ls), x, .va (natD l), .va (.int (0 + (i : Int)))]) rfl (List.range ls.length) fun i m => ?_
  have hi : i < ls.length := List.mem_range.mp m
  refine ⟨rfl, rfl, ?_, fun _ => ⟨.va (natD i), ?_, rfl⟩⟩
  · simp only [ct__law_parts1, labD, ix_nat hi, e_mSeq, e_mIfS, e_mT, e_mBin, e_mUn, e_mNm, e_mNv, e_mF, e_mC, e_mRet, e_mSet, e_mSetIx, e_mApp, e_mExpr, e_mCB, e_mHcons, e_mHnil, e_mAcons, e_mAnil, e_mTup, e_mLst, e_mNx, e_mRetN, e_mIsN, e_mIsi, e_mTru, e_mAnd, e_mOr, e_mNot, e_mV, e_mAndV, e_mOrV, e_mNotV, e_mChain, e_mPar, e_mAsg, e_mFor, e_mItems, e_mRng1, e_mRng2, e_mEnum, e_mRaise, e_mCall, e_mAtt, e_mSetAtt, e_mMeth, e_mAnil0, e_mTry, e_mWh, e_mLc, e_mYes, e_mStar1, e_mPub, e_mAppO, e_mMt, e_mAstar, e_mSl, e_mPart, e_mNoPart, e_mBrk, e_mIf, e_mIx, e_mgName, e_mgTup, e_mgNil, e_mgCons, mDef, mDefV, mDefC, mCallAt, Mi.R.ne,
  Mi.bnd_ok, Mi.bnd_er, Mi.bnd_no, o_ok, o_er, o_no, ne_ok, ne_er, ne_no, Hd.at, rsv, opt, fin, ent, atAll, ownAt, gLt_ii, gLe_ii, gGt_ii, gGe_ii, gAdd, Mi.gSub, gLen, gNeg, gIx, atI_0, atI_1, gEq_int, gNe_int, Sl.d, kdOf, ansT, kI, kB, kT, kL, kS, insAt, tabA, tabS, tabM, List.getD_cons_zero, List.getD_cons_succ, truD, Option.bind_some, Option.bind_none, Option.map_some, Option.map_none,
  List.map_cons, List.map_nil, List.length_cons, List.length_nil, List.replicate_succ, List.replicate_zero, List.cons_append, List.nil_append, List.append_nil, List.getElem?_cons_zero, List.getElem?_cons_succ, List.set_cons_zero, List.set_cons_succ, Nat.reduceAdd, Nat.reduceSub, Nat.reduceLT, Nat.reduceEqDiff, Nat.reduceLeDiff, Nat.zero_add, natLit, le_LIM, lt_LIM, List.take_zero, List.drop_zero, List.take_succ_cons, List.drop_succ_cons, Nat.zero_le, true_and, and_true, and_self, Nat.reduceLeDiff, Int.reduceEq, Int.reduceLT, Int.reduceLE, Int.reduceAdd, Int.reduceSub, Int.reduceMul, Int.reduceNeg, Int.reduceToNat, eq_self_iff_true, reduceIte, if_true, if_false, ite_true, ite_false, Bool.false_eq_true, Bool.not_true, Bool.not_false, Bool.and_true, Bool.true_and, Bool.and_false, Bool.false_and, Bool.or_true, Bool.true_or, decide_true, decide_false, decide_eq_true_eq]
    simp only [natD, rsv, gEq_int]
    simp only [e_mSeq, e_mIfS, e_mT, e_mBin, e_mUn, e_mNm, e_mNv, e_mF, e_mC, e_mRet, e_mSet, e_mSetIx, e_mApp, e_mExpr, e_mCB, e_mHcons, e_mHnil, e_mAcons, e_mAnil, e_mTup, e_mLst, e_mNx, e_mRetN, e_mIsN, e_mIsi, e_mTru, e_mAnd, e_mOr, e_mNot, e_mV, e_mAndV, e_mOrV, e_mNotV, e_mChain, e_mPar, e_mAsg, e_mFor, e_mItems, e_mRng1, e_mRng2, e_mEnum, e_mRaise, e_mCall, e_mAtt, e_mSetAtt, e_mMeth, e_mAnil0, e_mTry, e_mWh, e_mLc, e_mYes, e_mStar1, e_mPub, e_mAppO, e_mMt, e_mAstar, e_mSl, e_mPart, e_mNoPart, e_mBrk, e_mIf, e_mIx, e_mgName, e_mgTup, e_mgNil, e_mgCons, mDef, mDefV, mDefC, mCallAt, Mi.R.ne,
  Mi.bnd_ok, Mi.bnd_er, Mi.bnd_no, o_ok, o_er, o_no, ne_ok, ne_er, ne_no, Hd.at, rsv, opt, fin, ent, atAll, ownAt, gLt_ii, gLe_ii, gGt_ii, gGe_ii, gAdd, Mi.gSub, gLen, gNeg, gIx, atI_0, atI_1, gEq_int, gNe_int, Sl.d, kdOf, ansT, kI, kB, kT, kL, kS, insAt, tabA, tabS, tabM, List.getD_cons_zero, List.getD_cons_succ, truD, Option.bind_some, Option.bind_none, Option.map_some, Option.map_none,
  List.map_cons, List.map_nil, List.length_cons, List.length_nil, List.replicate_succ, List.replicate_zero, List.cons_append, List.nil_append, List.append_nil, List.getElem?_cons_zero, List.getElem?_cons_succ, List.set_cons_zero, List.set_cons_succ, Nat.reduceAdd, Nat.reduceSub, Nat.reduceLT, Nat.reduceEqDiff, Nat.reduceLeDiff, Nat.zero_add, natLit, le_LIM, lt_LIM, List.take_zero, List.drop_zero, List.take_succ_cons, List.drop_succ_cons, Nat.zero_le, true_and, and_true, and_self, Nat.reduceLeDiff, Int.reduceEq, Int.reduceLT, Int.reduceLE, Int.reduceAdd, Int.reduceSub, Int.reduceMul, Int.reduceNeg, Int.reduceToNat, eq_self_iff_true, reduceIte, if_true, if_false, ite_true, ite_false, Bool.false_eq_true, Bool.not_true, Bool.not_false, Bool.and_true, Bool.true_and, Bool.and_false, Bool.false_and, Bool.or_true, Bool.true_or, decide_true, decide_false, decide_eq_true_eq]
    congr 1
    rw [decide_eq_decide]; omega
  · simp only [ce__law_parts1, e_mSeq, e_mIfS, e_mT, e_mBin, e_mUn, e_mNm, e_mNv, e_mF, e_mC, e_mRet, e_mSet, e_mSetIx, e_mApp, e_mExpr, e_mCB, e_mHcons, e_mHnil, e_mAcons, e_mAnil, e_mTup, e_mLst, e_mNx, e_mRetN, e_mIsN, e_mIsi, e_mTru, e_mAnd, e_mOr, e_mNot, e_mV, e_mAndV, e_mOrV, e_mNotV, e_mChain, e_mPar, e_mAsg, e_mFor, e_mItems, e_mRng1, e_mRng2, e_mEnum, e_mRaise, e_mCall, e_mAtt, e_mSetAtt, e_mMeth, e_mAnil0, e_mTry, e_mWh, e_mLc, e_mYes, e_mStar1, e_mPub, e_mAppO, e_mMt, e_mAstar, e_mSl, e_mPart, e_mNoPart, e_mBrk, e_mIf, e_mIx, e_mgName, e_mgTup, e_mgNil, e_mgCons, mDef, mDefV, mDefC, mCallAt, Mi.R.ne,
  Mi.bnd_ok, Mi.bnd_er, Mi.bnd_no, o_ok, o_er, o_no, ne_ok, ne_er, ne_no, Hd.at, rsv, opt, fin, ent, atAll, ownAt, gLt_ii, gLe_ii, gGt_ii, gGe_ii, gAdd, Mi.gSub, gLen, gNeg, gIx, atI_0, atI_1, gEq_int, gNe_int, Sl.d, kdOf, ansT, kI, kB, kT, kL, kS, insAt, tabA, tabS, tabM, List.getD_cons_zero, List.getD_cons_succ, truD, Option.bind_some, Option.bind_none, Option.map_some, Option.map_none,
  List.map_cons, List.map_nil, List.length_cons, List.length_nil, List.replicate_succ, List.replicate_zero, List.cons_append, List.nil_append, List.append_nil, List.getElem?_cons_zero, List.getElem?_cons_succ, List.set_cons_zero, List.set_cons_succ, Nat.reduceAdd, Nat.reduceSub, Nat.reduceLT, Nat.reduceEqDiff, Nat.reduceLeDiff, Nat.zero_add, natLit, le_LIM, lt_LIM, List.take_zero, List.drop_zero, List.take_succ_cons, List.drop_succ_cons, Nat.zero_le, true_and, and_true, and_self, Nat.reduceLeDiff, Int.reduceEq, Int.reduceLT, Int.reduceLE, Int.reduceAdd, Int.reduceSub, Int.reduceMul, Int.reduceNeg, Int.reduceToNat, eq_self_iff_true, reduceIte, if_true, if_false, ite_true, ite_false, Bool.false_eq_true, Bool.not_true, Bool.not_false, Bool.and_true, Bool.true_and, Bool.and_false, Bool.false_and, Bool.or_true, Bool.true_or, decide_true, decide_false, decide_eq_true_eq]
    rw [nat0]
theorem forL_lparts (S : List Ins) (ls : List Nat) (h2 : ls.length ≤ 12) (y : Sl) : ∀ (m i : Nat) (acc : List D) (x : Sl), acc.length + m < 1000 →
    ∃ x', forL fg__law_parts1 fb__law_parts1 (rngD (i : Int) m) ⟨[.va (labD ls), .ow acc, x, .un], S⟩ = .nx ⟨[.va (labD ls), .ow (acc ++ (List.range m).map fun j => tupD (idxs 0 ls (i + j))), x', .un], S⟩
  | 0, i, acc, x, _ => ⟨x, by simp [rngD, forL]⟩
  | m + 1, i, acc, x, h => by
    obtain ⟨x', e⟩ := forL_lparts S ls h2 y m (i + 1) (acc ++ [tupD (idxs 0 ls i)]) (.va (natD i)) (by simp; omega)
    refine ⟨x', ?_⟩
    have hr : rngOk (ls.length : Int) = true := rngOk_nat (by omega)
    have l1 : acc.length < LIM := Nat.lt_of_lt_of_le (show acc.length < 1000 by omega) (by decide)
    have l2 : ls.length ≤ LIM := Nat.le_trans h2 (by decide)
    have lc := lc_lparts S ls (.ow acc) i
    have ee : (List.range (m + 1)).map (fun j => tupD (idxs 0 ls (i + j))) = tupD (idxs 0 ls i) :: (List.range m).map fun j => tupD (idxs 0 ls (i + 1 + j)) := by
      rw [List.range_succ_eq_map, List.map_cons, List.map_map]
      congr 1
      apply List.map_congr_left
      intro j _
      show tupD (idxs 0 ls (i + (j + 1))) = _
      congr 2; omega
    rw [ee, rngD_succ, forL]
    have ei : ((i : Int) + 1) = ((i + 1 : Nat) : Int) := by omega
    rw [ei]
    rw [List.append_assoc] at e
    simp only [labD, natD] at lc e ⊢
    simp only [fg__law_parts1, fb__law_parts1, List.length_map, hr, Int.toNat_natCast, rngD_len, l2, wipeS, rst, vaOf, lc, gTuple, l1, e_mSeq, e_mIfS, e_mT, e_mBin, e_mUn, e_mNm, e_mNv, e_mF, e_mC, e_mRet, e_mSet, e_mSetIx, e_mApp, e_mExpr, e_mCB, e_mHcons, e_mHnil, e_mAcons, e_mAnil, e_mTup, e_mLst, e_mNx, e_mRetN, e_mIsN, e_mIsi, e_mTru, e_mAnd, e_mOr, e_mNot, e_mV, e_mAndV, e_mOrV, e_mNotV, e_mChain, e_mPar, e_mAsg, e_mFor, e_mItems, e_mRng1, e_mRng2, e_mEnum, e_mRaise, e_mCall, e_mAtt, e_mSetAtt, e_mMeth, e_mAnil0, e_mTry, e_mWh, e_mLc, e_mYes, e_mStar1, e_mPub, e_mAppO, e_mMt, e_mAstar, e_mSl, e_mPart, e_mNoPart, e_mBrk, e_mIf, e_mIx, e_mgName, e_mgTup, e_mgNil, e_mgCons, mDef, mDefV, mDefC, mCallAt, Mi.R.ne,
  Mi.bnd_ok, Mi.bnd_er, Mi.bnd_no, o_ok, o_er, o_no, ne_ok, ne_er, ne_no, Hd.at, rsv, opt, fin, ent, atAll, ownAt, gLt_ii, gLe_ii, gGt_ii, gGe_ii, gAdd, Mi.gSub, gLen, gNeg, gIx, atI_0, atI_1, gEq_int, gNe_int, Sl.d, kdOf, ansT, kI, kB, kT, kL, kS, insAt, tabA, tabS, tabM, List.getD_cons_zero, List.getD_cons_succ, truD, Option.bind_some, Option.bind_none, Option.map_some, Option.map_none,
  List.map_cons, List.map_nil, List.length_cons, List.length_nil, List.replicate_succ, List.replicate_zero, List.cons_append, List.nil_append, List.append_nil, List.getElem?_cons_zero, List.getElem?_cons_succ, List.set_cons_zero, List.set_cons_succ, Nat.reduceAdd, Nat.reduceSub, Nat.reduceLT, Nat.reduceEqDiff, Nat.reduceLeDiff, Nat.zero_add, natLit, le_LIM, lt_LIM, List.take_zero, List.drop_zero, List.take_succ_cons, List.drop_succ_cons, Nat.zero_le, true_and, and_true, and_self, Nat.reduceLeDiff, Int.reduceEq, Int.reduceLT, Int.reduceLE, Int.reduceAdd, Int.reduceSub, Int.reduceMul, Int.reduceNeg, Int.reduceToNat, eq_self_iff_true, reduceIte, if_true, if_false, ite_true, ite_false, Bool.false_eq_true, Bool.not_true, Bool.not_false, Bool.and_true, Bool.true_and, Bool.and_false, Bool.false_and, Bool.or_true, Bool.true_or, decide_true, decide_false, decide_eq_true_eq]
    exact e
theorem ev_lparts (ls : List Nat) (h1 : 1 ≤ ls.length) (h2 : ls.length ≤ 12) (hb : ∀ l ∈ ls, l < 12) (S : List Ins) :
    cf__law_parts [labD ls] S = .ok (.va (partD ls)) ⟨[], S⟩ := by
  have hk : manyP ls < 13 := by
    have := topL_lt ls 0 12 (by decide) hb
    unfold manyP; omega
  have hmx : gMax [.tup (ls.map natD)] = some (.va (.int (topL 0 ls : Nat))) := by
    cases ls with
    | nil => simp at h1
    | cons l ls =>
      show (intsD ((l :: ls).map natD)).bind maxL = _
      rw [ints_nat, Option.bind_some, List.map_cons, maxL, maxI_nat, topL, Nat.zero_max]
  obtain ⟨x', e⟩ := forL_lparts S ls h2 .un (manyP ls) 0 [] .un (by simp; omega)
  have hR : rngOk ((manyP ls : Nat) : Int) = true := rngOk_nat (by omega)
  have ht : ((topL 0 ls : Nat) : Int) + 1 = (manyP ls : Nat) := by unfold manyP; omega
  have e2 : (List.range (manyP ls)).map (fun j => tupD (idxs 0 ls (0 + j))) = (partsP ls).map tupD := by
    rw [partsP_eq, List.map_map]
    apply List.map_congr_left
    intro j _
    show tupD (idxs 0 ls (0 + j)) = _
    rw [Nat.zero_add]; rfl
  rw [e2, List.nil_append] at e
  simp only [cf__law_parts, m__law_parts]
  simp only [labD, partD, Int.natCast_zero] at e ⊢
  simp only [hmx, ht, hR, Int.toNat_natCast, e, gTuple, e_mSeq, e_mIfS, e_mT, e_mBin, e_mUn, e_mNm, e_mNv, e_mF, e_mC, e_mRet, e_mSet, e_mSetIx, e_mApp, e_mExpr, e_mCB, e_mHcons, e_mHnil, e_mAcons, e_mAnil, e_mTup, e_mLst, e_mNx, e_mRetN, e_mIsN, e_mIsi, e_mTru, e_mAnd, e_mOr, e_mNot, e_mV, e_mAndV, e_mOrV, e_mNotV, e_mChain, e_mPar, e_mAsg, e_mFor, e_mItems, e_mRng1, e_mRng2, e_mEnum, e_mRaise, e_mCall, e_mAtt, e_mSetAtt, e_mMeth, e_mAnil0, e_mTry, e_mWh, e_mLc, e_mYes, e_mStar1, e_mPub, e_mAppO, e_mMt, e_mAstar, e_mSl, e_mPart, e_mNoPart, e_mBrk, e_mIf, e_mIx, e_mgName, e_mgTup, e_mgNil, e_mgCons, mDef, mDefV, mDefC, mCallAt, Mi.R.ne,
  Mi.bnd_ok, Mi.bnd_er, Mi.bnd_no, o_ok, o_er, o_no, ne_ok, ne_er, ne_no, Hd.at, rsv, opt, fin, ent, atAll, ownAt, gLt_ii, gLe_ii, gGt_ii, gGe_ii, gAdd, Mi.gSub, gLen, gNeg, gIx, atI_0, atI_1, gEq_int, gNe_int, Sl.d, kdOf, ansT, kI, kB, kT, kL, kS, insAt, tabA, tabS, tabM, List.getD_cons_zero, List.getD_cons_succ, truD, Option.bind_some, Option.bind_none, Option.map_some, Option.map_none,
  List.map_cons, List.map_nil, List.length_cons, List.length_nil, List.replicate_succ, List.replicate_zero, List.cons_append, List.nil_append, List.append_nil, List.getElem?_cons_zero, List.getElem?_cons_succ, List.set_cons_zero, List.set_cons_succ, Nat.reduceAdd, Nat.reduceSub, Nat.reduceLT, Nat.reduceEqDiff, Nat.reduceLeDiff, Nat.zero_add, natLit, le_LIM, lt_LIM, List.take_zero, List.drop_zero, List.take_succ_cons, List.drop_succ_cons, Nat.zero_le, true_and, and_true, and_self, Nat.reduceLeDiff, Int.reduceEq, Int.reduceLT, Int.reduceLE, Int.reduceAdd, Int.reduceSub, Int.reduceMul, Int.reduceNeg, Int.reduceToNat, eq_self_iff_true, reduceIte, if_true, if_false, ite_true, ite_false, Bool.false_eq_true, Bool.not_true, Bool.not_false, Bool.and_true, Bool.true_and, Bool.and_false, Bool.false_and, Bool.or_true, Bool.true_or, decide_true, decide_false, decide_eq_true_eq]
end Lw

set_option exponentiation.threshold 100000
namespace Lw
open PySem Mi
theorem ix_int {ws : List Int} {p : Nat} (h : p < ws.length) : L2.atI (ws.map D.int) (0 + (p : Int)) = some (.int (ws.getD p 0)) := by
  rw [Int.zero_add, Mi.atI_nat, List.getElem?_map, List.getD_eq_getElem?_getD, List.getElem?_eq_getElem h]
  rfl
theorem ints_map (xs : List Int) : intsD (xs.map D.int) = some xs := by
  induction xs with
  | nil => rfl
  | cons x xs ih => rw [List.map_cons, intsD, ih]; rfl
theorem gSum_ints (xs : List Int) : gSum [.lst (xs.map D.int)] = some (.va (.int xs.sum)) := by
  simp only [gSum, ints_map, Option.map_some]
theorem lc_lodds (S : List Ins) (ls : List Nat) (ws : List Int) (hw : ws.length = ls.length) (x : Sl) (p : Nat) (hp : p < ls.length) : lcLoop [5] cg__law_odds1 ct__law_odds1 ce__law_odds1 (rngD 0 ls.length) ⟨[.va (labD ls), .va (wsD ws), x, .va (.int (0 + (p : Int))), y, .un], S⟩ =
    .ok (((partOf ls p).map fun q => ws.getD q 0).map D.int) ⟨[.va (labD ls), .va (wsD ws), x, .va (.int (0 + (p : Int))), y, .un], S⟩ := by
  rw [rngD_nat, partOf, idxs0, List.map_map]
  refine lc_filterB (fun i : Nat => D.int (0 + (i : Int))) (fun j => decide (ls.getD j 0 = ls.getD p 0)) (fun q => .int (ws.getD q 0)) (fun i => [.va (labD ls), .va (wsD ws), x, .va (.int (0 + (p : Int))), y, .va (.int (0 + (i : Int)))]) rfl (List.range ls.length) fun i m => ?_
  have hi : i < ls.length := List.mem_range.mp m
  refine ⟨rfl, rfl, ?_, fun _ => ⟨.va (.int (ws.getD i 0)), ?_, rfl⟩⟩
  · simp only [ct__law_odds1, labD, ix_nat hi, ix_nat hp, e_mSeq, e_mIfS, e_mT, e_mBin, e_mUn, e_mNm, e_mNv, e_mF, e_mC, e_mRet, e_mSet, e_mSetIx, e_mApp, e_mExpr, e_mCB, e_mHcons, e_mHnil, e_mAcons, e_mAnil, e_mTup, e_mLst, e_mNx, e_mRetN, e_mIsN, e_mIsi, e_mTru, e_mAnd, e_mOr, e_mNot, e_mV, e_mAndV, e_mOrV, e_mNotV, e_mChain, e_mPar, e_mAsg, e_mFor, e_mItems, e_mRng1, e_mRng2, e_mEnum, e_mRaise, e_mCall, e_mAtt, e_mSetAtt, e_mMeth, e_mAnil0, e_mTry, e_mWh, e_mLc, e_mYes, e_mStar1, e_mPub, e_mAppO, e_mMt, e_mAstar, e_mSl, e_mPart, e_mNoPart, e_mBrk, e_mIf, e_mIx, e_mgName, e_mgTup, e_mgNil, e_mgCons, mDef, mDefV, mDefC, mCallAt, Mi.R.ne,
  Mi.bnd_ok, Mi.bnd_er, Mi.bnd_no, o_ok, o_er, o_no, ne_ok, ne_er, ne_no, Hd.at, rsv, opt, fin, ent, atAll, ownAt, gLt_ii, gLe_ii, gGt_ii, gGe_ii, gAdd, Mi.gSub, gLen, gNeg, gIx, atI_0, atI_1, gEq_int, gNe_int, Sl.d, kdOf, ansT, kI, kB, kT, kL, kS, insAt, tabA, tabS, tabM, List.getD_cons_zero, List.getD_cons_succ, truD, Option.bind_some, Option.bind_none, Option.map_some, Option.map_none,
  List.map_cons, List.map_nil, List.length_cons, List.length_nil, List.replicate_succ, List.replicate_zero, List.cons_append, List.nil_append, List.append_nil, List.getElem?_cons_zero, List.getElem?_cons_succ, List.set_cons_zero, List.set_cons_succ, Nat.reduceAdd, Nat.reduceSub, Nat.reduceLT, Nat.reduceEqDiff, Nat.reduceLeDiff, Nat.zero_add, natLit, le_LIM, lt_LIM, List.take_zero, List.drop_zero, List.take_succ_cons, List.drop_succ_cons, Nat.zero_le, true_and, and_true, and_self, Nat.reduceLeDiff, Int.reduceEq, Int.reduceLT, Int.reduceLE, Int.reduceAdd, Int.reduceSub, Int.reduceMul, Int.reduceNeg, Int.reduceToNat, eq_self_iff_true, reduceIte, if_true, if_false, ite_true, ite_false, Bool.false_eq_true, Bool.not_true, Bool.not_false, Bool.and_true, Bool.true_and, Bool.and_false, Bool.false_and, Bool.or_true, Bool.true_or, decide_true, decide_false, decide_eq_true_eq]
    simp only [natD, rsv, gEq_int]
    simp only [e_mSeq, e_mIfS, e_mT, e_mBin, e_mUn, e_mNm, e_mNv, e_mF, e_mC, e_mRet, e_mSet, e_mSetIx, e_mApp, e_mExpr, e_mCB, e_mHcons, e_mHnil, e_mAcons, e_mAnil, e_mTup, e_mLst, e_mNx, e_mRetN, e_mIsN, e_mIsi, e_mTru, e_mAnd, e_mOr, e_mNot, e_mV, e_mAndV, e_mOrV, e_mNotV, e_mChain, e_mPar, e_mAsg, e_mFor, e_mItems, e_mRng1, e_mRng2, e_mEnum, e_mRaise, e_mCall, e_mAtt, e_mSetAtt, e_mMeth, e_mAnil0, e_mTry, e_mWh, e_mLc, e_mYes, e_mStar1, e_mPub, e_mAppO, e_mMt, e_mAstar, e_mSl, e_mPart, e_mNoPart, e_mBrk, e_mIf, e_mIx, e_mgName, e_mgTup, e_mgNil, e_mgCons, mDef, mDefV, mDefC, mCallAt, Mi.R.ne,
  Mi.bnd_ok, Mi.bnd_er, Mi.bnd_no, o_ok, o_er, o_no, ne_ok, ne_er, ne_no, Hd.at, rsv, opt, fin, ent, atAll, ownAt, gLt_ii, gLe_ii, gGt_ii, gGe_ii, gAdd, Mi.gSub, gLen, gNeg, gIx, atI_0, atI_1, gEq_int, gNe_int, Sl.d, kdOf, ansT, kI, kB, kT, kL, kS, insAt, tabA, tabS, tabM, List.getD_cons_zero, List.getD_cons_succ, truD, Option.bind_some, Option.bind_none, Option.map_some, Option.map_none,
  List.map_cons, List.map_nil, List.length_cons, List.length_nil, List.replicate_succ, List.replicate_zero, List.cons_append, List.nil_append, List.append_nil, List.getElem?_cons_zero, List.getElem?_cons_succ, List.set_cons_zero, List.set_cons_succ, Nat.reduceAdd, Nat.reduceSub, Nat.reduceLT, Nat.reduceEqDiff, Nat.reduceLeDiff, Nat.zero_add, natLit, le_LIM, lt_LIM, List.take_zero, List.drop_zero, List.take_succ_cons, List.drop_succ_cons, Nat.zero_le, true_and, and_true, and_self, Nat.reduceLeDiff, Int.reduceEq, Int.reduceLT, Int.reduceLE, Int.reduceAdd, Int.reduceSub, Int.reduceMul, Int.reduceNeg, Int.reduceToNat, eq_self_iff_true, reduceIte, if_true, if_false, ite_true, ite_false, Bool.false_eq_true, Bool.not_true, Bool.not_false, Bool.and_true, Bool.true_and, Bool.and_false, Bool.false_and, Bool.or_true, Bool.true_or, decide_true, decide_false, decide_eq_true_eq]
    congr 1
    rw [decide_eq_decide]; omega
  · simp only [ce__law_odds1, wsD, ix_int (show i < ws.length by omega), e_mSeq, e_mIfS, e_mT, e_mBin, e_mUn, e_mNm, e_mNv, e_mF, e_mC, e_mRet, e_mSet, e_mSetIx, e_mApp, e_mExpr, e_mCB, e_mHcons, e_mHnil, e_mAcons, e_mAnil, e_mTup, e_mLst, e_mNx, e_mRetN, e_mIsN, e_mIsi, e_mTru, e_mAnd, e_mOr, e_mNot, e_mV, e_mAndV, e_mOrV, e_mNotV, e_mChain, e_mPar, e_mAsg, e_mFor, e_mItems, e_mRng1, e_mRng2, e_mEnum, e_mRaise, e_mCall, e_mAtt, e_mSetAtt, e_mMeth, e_mAnil0, e_mTry, e_mWh, e_mLc, e_mYes, e_mStar1, e_mPub, e_mAppO, e_mMt, e_mAstar, e_mSl, e_mPart, e_mNoPart, e_mBrk, e_mIf, e_mIx, e_mgName, e_mgTup, e_mgNil, e_mgCons, mDef, mDefV, mDefC, mCallAt, Mi.R.ne,
  Mi.bnd_ok, Mi.bnd_er, Mi.bnd_no, o_ok, o_er, o_no, ne_ok, ne_er, ne_no, Hd.at, rsv, opt, fin, ent, atAll, ownAt, gLt_ii, gLe_ii, gGt_ii, gGe_ii, gAdd, Mi.gSub, gLen, gNeg, gIx, atI_0, atI_1, gEq_int, gNe_int, Sl.d, kdOf, ansT, kI, kB, kT, kL, kS, insAt, tabA, tabS, tabM, List.getD_cons_zero, List.getD_cons_succ, truD, Option.bind_some, Option.bind_none, Option.map_some, Option.map_none,
  List.map_cons, List.map_nil, List.length_cons, List.length_nil, List.replicate_succ, List.replicate_zero, List.cons_append, List.nil_append, List.append_nil, List.getElem?_cons_zero, List.getElem?_cons_succ, List.set_cons_zero, List.set_cons_succ, Nat.reduceAdd, Nat.reduceSub, Nat.reduceLT, Nat.reduceEqDiff, Nat.reduceLeDiff, Nat.zero_add, natLit, le_LIM, lt_LIM, List.take_zero, List.drop_zero, List.take_succ_cons, List.drop_succ_cons, Nat.zero_le, true_and, and_true, and_self, Nat.reduceLeDiff, Int.reduceEq, Int.reduceLT, Int.reduceLE, Int.reduceAdd, Int.reduceSub, Int.reduceMul, Int.reduceNeg, Int.reduceToNat, eq_self_iff_true, reduceIte, if_true, if_false, ite_true, ite_false, Bool.false_eq_true, Bool.not_true, Bool.not_false, Bool.and_true, Bool.true_and, Bool.and_false, Bool.false_and, Bool.or_true, Bool.true_or, decide_true, decide_false, decide_eq_true_eq]
theorem forL_lodds (S : List Ins) {n : Nat} {ls : List Nat} {ws : List Int} (r : RowOk n ls ws) : ∀ (m i : Nat) (acc : List D) (x y : Sl), i + m = n → acc.length + m < 1000 →
    ∃ x' y', forL fg__law_odds1 fb__law_odds1 (rngD (i : Int) m) ⟨[.va (labD ls), .va (wsD ws), .ow acc, x, y, .un], S⟩ =
      .nx ⟨[.va (labD ls), .va (wsD ws), .ow (acc ++ (List.range m).map fun j => (lo (ws.getD (i + j) 0) (wsum ws (partOf ls (i + j)))).d), x', y', .un], S⟩
  | 0, i, acc, x, y, _, _ => ⟨x, y, by simp [rngD, forL]⟩
  | m + 1, i, acc, x, y, hn, h => by
    obtain ⟨x', y', e⟩ := forL_lodds S r m (i + 1) (acc ++ [(lo (ws.getD i 0) (wsum ws (partOf ls i))).d]) (.va (.int i)) (.va (.int (wsum ws (partOf ls i)))) (by omega) (by simp; omega)
    refine ⟨x', y', ?_⟩
    have h2 := r.n2
    have hll := r.ll
    have hr : rngOk (ls.length : Int) = true := rngOk_nat (by omega)
    have l1 : acc.length < LIM := Nat.lt_of_lt_of_le (show acc.length < 1000 by omega) (by decide)
    have l2 : ls.length ≤ LIM := Nat.le_trans (by omega) (show 12 ≤ LIM by decide)
    have lc := lc_lodds (y := y) S ls ws (by rw [r.lw, r.ll]) (.ow acc) i (by omega)
    have gs := gSum_ints ((partOf ls i).map fun q => ws.getD q 0)
    obtain ⟨p1, p2⟩ := partOf_pos r (p := i) (by omega)
    have ef := ev_lfrac (ws.getD i 0) (wsum ws (partOf ls i)) p1 (Nat.lt_of_lt_of_le (show (wsum ws (partOf ls i)).natAbs < 2 ^ 20 by omega) (Nat.pow_le_pow_right (by decide) (by decide))) S
    have ix := ix_int (ws := ws) (p := i) (by rw [r.lw]; omega)
    rw [Int.zero_add] at ix lc
    have ee : (List.range (m + 1)).map (fun j => (lo (ws.getD (i + j) 0) (wsum ws (partOf ls (i + j)))).d) = (lo (ws.getD i 0) (wsum ws (partOf ls i))).d :: (List.range m).map fun j => (lo (ws.getD (i + 1 + j) 0) (wsum ws (partOf ls (i + 1 + j)))).d := by
      rw [List.range_succ_eq_map, List.map_cons, List.map_map]
      congr 1
      apply List.map_congr_left
      intro j _
      show (lo (ws.getD (i + (j + 1)) 0) (wsum ws (partOf ls (i + (j + 1))))).d = _
      rw [show i + (j + 1) = i + 1 + j by omega]
    rw [ee, rngD_succ, forL]
    have ei : ((i : Int) + 1) = ((i + 1 : Nat) : Int) := by omega
    rw [ei]
    rw [List.append_assoc] at e
    rw [show ((partOf ls i).map fun q => ws.getD q 0).sum = wsum ws (partOf ls i) from rfl] at gs
    simp only [labD, wsD, Fr.d, lo] at lc e ef gs ⊢
    simp only [fg__law_odds1, fb__law_odds1, List.length_map, hr, Int.toNat_natCast, rngD_len, l2, wipeS, rst, vaOf, lc, gs, ix, ef, l1, e_mSeq, e_mIfS, e_mT, e_mBin, e_mUn, e_mNm, e_mNv, e_mF, e_mC, e_mRet, e_mSet, e_mSetIx, e_mApp, e_mExpr, e_mCB, e_mHcons, e_mHnil, e_mAcons, e_mAnil, e_mTup, e_mLst, e_mNx, e_mRetN, e_mIsN, e_mIsi, e_mTru, e_mAnd, e_mOr, e_mNot, e_mV, e_mAndV, e_mOrV, e_mNotV, e_mChain, e_mPar, e_mAsg, e_mFor, e_mItems, e_mRng1, e_mRng2, e_mEnum, e_mRaise, e_mCall, e_mAtt, e_mSetAtt, e_mMeth, e_mAnil0, e_mTry, e_mWh, e_mLc, e_mYes, e_mStar1, e_mPub, e_mAppO, e_mMt, e_mAstar, e_mSl, e_mPart, e_mNoPart, e_mBrk, e_mIf, e_mIx, e_mgName, e_mgTup, e_mgNil, e_mgCons, mDef, mDefV, mDefC, mCallAt, Mi.R.ne,
  Mi.bnd_ok, Mi.bnd_er, Mi.bnd_no, o_ok, o_er, o_no, ne_ok, ne_er, ne_no, Hd.at, rsv, opt, fin, ent, atAll, ownAt, gLt_ii, gLe_ii, gGt_ii, gGe_ii, gAdd, Mi.gSub, gLen, gNeg, gIx, atI_0, atI_1, gEq_int, gNe_int, Sl.d, kdOf, ansT, kI, kB, kT, kL, kS, insAt, tabA, tabS, tabM, List.getD_cons_zero, List.getD_cons_succ, truD, Option.bind_some, Option.bind_none, Option.map_some, Option.map_none,
  List.map_cons, List.map_nil, List.length_cons, List.length_nil, List.replicate_succ, List.replicate_zero, List.cons_append, List.nil_append, List.append_nil, List.getElem?_cons_zero, List.getElem?_cons_succ, List.set_cons_zero, List.set_cons_succ, Nat.reduceAdd, Nat.reduceSub, Nat.reduceLT, Nat.reduceEqDiff, Nat.reduceLeDiff, Nat.zero_add, natLit, le_LIM, lt_LIM, List.take_zero, List.drop_zero, List.take_succ_cons, List.drop_succ_cons, Nat.zero_le, true_and, and_true, and_self, Nat.reduceLeDiff, Int.reduceEq, Int.reduceLT, Int.reduceLE, Int.reduceAdd, Int.reduceSub, Int.reduceMul, Int.reduceNeg, Int.reduceToNat, eq_self_iff_true, reduceIte, if_true, if_false, ite_true, ite_false, Bool.false_eq_true, Bool.not_true, Bool.not_false, Bool.and_true, Bool.true_and, Bool.and_false, Bool.false_and, Bool.or_true, Bool.true_or, decide_true, decide_false, decide_eq_true_eq]
    exact e
theorem ev_lodds {n : Nat} {ls : List Nat} {ws : List Int} (r : RowOk n ls ws) (S : List Ins) : cf__law_odds [labD ls, wsD ws] S = .ok (.va (frsD (oddsF ls ws))) ⟨[], S⟩ := by
  have h2 := r.n2
  have hll := r.ll
  obtain ⟨x', y', e⟩ := forL_lodds S r n 0 [] .un .un (by omega) (by simp; omega)
  have hR : rngOk (ls.length : Int) = true := rngOk_nat (by omega)
  have e2 : (List.range n).map (fun j => (lo (ws.getD (0 + j) 0) (wsum ws (partOf ls (0 + j)))).d) = (oddsF ls ws).map Fr.d := by
    rw [oddsF, List.map_map, r.ll]
    apply List.map_congr_left
    intro j _
    show (lo (ws.getD (0 + j) 0) (wsum ws (partOf ls (0 + j)))).d = _
    rw [Nat.zero_add]; rfl
  rw [e2, List.nil_append, ← r.ll] at e
  simp only [cf__law_odds, m__law_odds]
  simp only [labD, wsD, frsD, Int.natCast_zero] at e ⊢
  simp only [List.length_map, hR, Int.toNat_natCast, e, gTuple, e_mSeq, e_mIfS, e_mT, e_mBin, e_mUn, e_mNm, e_mNv, e_mF, e_mC, e_mRet, e_mSet, e_mSetIx, e_mApp, e_mExpr, e_mCB, e_mHcons, e_mHnil, e_mAcons, e_mAnil, e_mTup, e_mLst, e_mNx, e_mRetN, e_mIsN, e_mIsi, e_mTru, e_mAnd, e_mOr, e_mNot, e_mV, e_mAndV, e_mOrV, e_mNotV, e_mChain, e_mPar, e_mAsg, e_mFor, e_mItems, e_mRng1, e_mRng2, e_mEnum, e_mRaise, e_mCall, e_mAtt, e_mSetAtt, e_mMeth, e_mAnil0, e_mTry, e_mWh, e_mLc, e_mYes, e_mStar1, e_mPub, e_mAppO, e_mMt, e_mAstar, e_mSl, e_mPart, e_mNoPart, e_mBrk, e_mIf, e_mIx, e_mgName, e_mgTup, e_mgNil, e_mgCons, mDef, mDefV, mDefC, mCallAt, Mi.R.ne,
  Mi.bnd_ok, Mi.bnd_er, Mi.bnd_no, o_ok, o_er, o_no, ne_ok, ne_er, ne_no, Hd.at, rsv, opt, fin, ent, atAll, ownAt, gLt_ii, gLe_ii, gGt_ii, gGe_ii, gAdd, Mi.gSub, gLen, gNeg, gIx, atI_0, atI_1, gEq_int, gNe_int, Sl.d, kdOf, ansT, kI, kB, kT, kL, kS, insAt, tabA, tabS, tabM, List.getD_cons_zero, List.getD_cons_succ, truD, Option.bind_some, Option.bind_none, Option.map_some, Option.map_none,
  List.map_cons, List.map_nil, List.length_cons, List.length_nil, List.replicate_succ, List.replicate_zero, List.cons_append, List.nil_append, List.append_nil, List.getElem?_cons_zero, List.getElem?_cons_succ, List.set_cons_zero, List.set_cons_succ, Nat.reduceAdd, Nat.reduceSub, Nat.reduceLT, Nat.reduceEqDiff, Nat.reduceLeDiff, Nat.zero_add, natLit, le_LIM, lt_LIM, List.take_zero, List.drop_zero, List.take_succ_cons, List.drop_succ_cons, Nat.zero_le, true_and, and_true, and_self, Nat.reduceLeDiff, Int.reduceEq, Int.reduceLT, Int.reduceLE, Int.reduceAdd, Int.reduceSub, Int.reduceMul, Int.reduceNeg, Int.reduceToNat, eq_self_iff_true, reduceIte, if_true, if_false, ite_true, ite_false, Bool.false_eq_true, Bool.not_true, Bool.not_false, Bool.and_true, Bool.true_and, Bool.and_false, Bool.false_and, Bool.or_true, Bool.true_or, decide_true, decide_false, decide_eq_true_eq]
theorem labK_topS : ∀ (ls : List Nat) (m : Nat), Wr.labK ((m : Int) + 1) (natI ls) = (topL m ls : Nat) + 1
  | [], m => rfl
  | x :: xs, m => by
    show Wr.labK (max ((m : Int) + 1) ((x : Int) + 1)) (natI xs) = _
    rw [topL, ← labK_topS xs (max m x)]
    congr 1; omega
theorem labK_top (ls : List Nat) (h : 0 < ls.length) : Wr.labK 0 (natI ls) = (manyP ls : Nat) := by
  cases ls with
  | nil => simp at h
  | cons x xs =>
    show Wr.labK (max 0 ((x : Int) + 1)) (natI xs) = _
    have z := labK_topS xs x
    rw [show max (0 : Int) ((x : Int) + 1) = (x : Int) + 1 by omega, z, manyP, topL, Nat.zero_max]
    omega
/-- an observer of a row -/
theorem obs_of {n : Nat} {ls : List Nat} {ws : List Int} (r : RowOk n ls ws) : ObsOk ls (oddsF ls ws) where
  l1 := by rw [r.ll]; exact r.n1
  l2 := by rw [r.ll]; exact r.n2
  lb := r.lb
  lab := r.lab
  len := by rw [oddsF_len r, r.ll]
  small := fun y m => by
    obtain ⟨p, hp, rfl⟩ := odds_mem r m
    obtain ⟨p1, p2⟩ := partOf_pos r hp
    obtain ⟨w1, w2⟩ := wat r hp
    exact lo_le p1 (Nat.le_trans (show _ ≤ 2 ^ 20 by omega) (Nat.pow_le_pow_right (by decide) (by decide))) (Nat.le_trans (show _ ≤ 2 ^ 20 by omega) (Nat.pow_le_pow_right (by decide) (by decide)))
  fr := fun y m => by
    obtain ⟨p, hp, rfl⟩ := odds_mem r m
    exact lo_fr (partOf_pos r hp).1
  pos := fun y m => by
    obtain ⟨p, hp, rfl⟩ := odds_mem r m
    exact lo_pos (partOf_pos r hp).1 (by have := (wat r hp).1; omega)
  inr := fun ps m => by
    obtain ⟨l, rfl⟩ := mem_partsP m
    exact ⟨fun p hp => idxs_lt hp, Nat.le_trans (idxs_len ls 0 l) (by rw [r.ll]; exact r.n2)⟩
  one := fun ps m => by
    rw [partsP_eq] at m
    obtain ⟨l, hl, rfl⟩ := List.mem_map.mp m
    have h0 : idxs 0 ls l ≠ [] := by
      have : (l : Int) ∈ natI ls := by
        refine Wr.lab_has (natI ls) 0 l r.lab (by omega) ?_
        have := List.mem_range.mp hl
        rw [labK_top ls (by have := r.n1; have := r.ll; omega)]
        omega
      obtain ⟨x, hx, e⟩ := List.mem_map.mp this
      have e : x = l := by omega
      subst e
      obtain ⟨p, hp, e⟩ := List.mem_iff_getElem.mp hx
      intro z
      have : p ∈ idxs 0 ls x := (mem_idxs ls 0 x p).mpr ⟨Nat.zero_le _, by rw [Nat.sub_zero, List.getElem?_eq_getElem hp, e]⟩
      rw [z] at this
      cases this
    rw [tot_part r (l := l) (fun p m => m) h0]
    exact lo_one (wsum_part_pos r h0).1
  many := by rw [partsP_len]; have := manyP_lt r; omega
theorem parts_ne {n : Nat} {ls : List Nat} {ws : List Int} (r : RowOk n ls ws) : ∀ ps ∈ partsP ls, ps ≠ [] := fun ps m e => by
  have z := (obs_of r).one ps m
  subst e
  exact absurd (show ((0 : Int), (1 : Int)) = (1, 1) from z) (by decide)
end Lw

namespace Lw
open PySem Mi
/-- nothing but numbers, texts, None, bools, tuples of such -/
def plainS : Nat → D → Bool
  | 0, _ => false
  | n + 1, d => match d with
    | .non => true
    | .bl _ => true
    | .int _ => true
    | .str x => PyData.strOk x
    | .tup xs => decide (xs.length ≤ 1000) && xs.all (plainS n)
    | _ => false
theorem gEq_str (x : Str) (h : PyData.strOk x = true) : gEq (.str x) (.str x) = some (.va (.bl true)) := by
  simp only [gEq, okF, h, toPy, Bool.and_self, if_true, PyData.eqv]
  simp
theorem gEq_bl (x : Bool) : gEq (.bl x) (.bl x) = some (.va (.bl true)) := by
  cases x <;> rfl
theorem gNe_bl (x : Bool) : gNe (.bl x) (.bl x) = some (.va (.bl false)) := by
  cases x <;> rfl
theorem bft : (false == true) = false := rfl
theorem btt : (true == true) = true := rfl
theorem bff : (false == false) = true := rfl
theorem btf : (true == false) = false := rfl
theorem ev_same : ∀ (n : Nat) (d : D), plainS n d = true → ∀ S, cf__law_is_same n [d, d] S = .ok (.va (.bl true)) ⟨[], S⟩
  | 0, _, h => by simp [plainS] at h
  | n + 1, d, h => by
    intro S
    cases d with
    | non => simp only [cf__law_is_same]; simp only [isNonD, btt, e_mSeq, e_mIfS, e_mT, e_mBin, e_mUn, e_mNm, e_mNv, e_mF, e_mC, e_mRet, e_mSet, e_mSetIx, e_mApp, e_mExpr, e_mCB, e_mHcons, e_mHnil, e_mAcons, e_mAnil, e_mTup, e_mLst, e_mNx, e_mRetN, e_mIsN, e_mIsi, e_mTru, e_mAnd, e_mOr, e_mNot, e_mV, e_mAndV, e_mOrV, e_mNotV, e_mChain, e_mPar, e_mAsg, e_mFor, e_mItems, e_mRng1, e_mRng2, e_mEnum, e_mRaise, e_mCall, e_mAtt, e_mSetAtt, e_mMeth, e_mAnil0, e_mTry, e_mWh, e_mLc, e_mYes, e_mStar1, e_mPub, e_mAppO, e_mMt, e_mAstar, e_mSl, e_mPart, e_mNoPart, e_mBrk, e_mIf, e_mIx, e_mgName, e_mgTup, e_mgNil, e_mgCons, mDef, mDefV, mDefC, mCallAt, Mi.R.ne,
  Mi.bnd_ok, Mi.bnd_er, Mi.bnd_no, o_ok, o_er, o_no, ne_ok, ne_er, ne_no, Hd.at, rsv, opt, fin, ent, atAll, ownAt, gLt_ii, gLe_ii, gGt_ii, gGe_ii, gAdd, Mi.gSub, gLen, gNeg, gIx, atI_0, atI_1, gEq_int, gNe_int, Sl.d, kdOf, ansT, kI, kB, kT, kL, kS, insAt, tabA, tabS, tabM, List.getD_cons_zero, List.getD_cons_succ, truD, Option.bind_some, Option.bind_none, Option.map_some, Option.map_none,
  List.map_cons, List.map_nil, List.length_cons, List.length_nil, List.replicate_succ, List.replicate_zero, List.cons_append, List.nil_append, List.append_nil, List.getElem?_cons_zero, List.getElem?_cons_succ, List.set_cons_zero, List.set_cons_succ, Nat.reduceAdd, Nat.reduceSub, Nat.reduceLT, Nat.reduceEqDiff, Nat.reduceLeDiff, Nat.zero_add, natLit, le_LIM, lt_LIM, List.take_zero, List.drop_zero, List.take_succ_cons, List.drop_succ_cons, Nat.zero_le, true_and, and_true, and_self, Nat.reduceLeDiff, Int.reduceEq, Int.reduceLT, Int.reduceLE, Int.reduceAdd, Int.reduceSub, Int.reduceMul, Int.reduceNeg, Int.reduceToNat, eq_self_iff_true, reduceIte, if_true, if_false, ite_true, ite_false, Bool.false_eq_true, Bool.not_true, Bool.not_false, Bool.and_true, Bool.true_and, Bool.and_false, Bool.false_and, Bool.or_true, Bool.true_or, decide_true, decide_false, decide_eq_true_eq]
    | bl b => simp only [cf__law_is_same]; simp only [isNonD, bft, gNe_bl, gEq_bl, e_mSeq, e_mIfS, e_mT, e_mBin, e_mUn, e_mNm, e_mNv, e_mF, e_mC, e_mRet, e_mSet, e_mSetIx, e_mApp, e_mExpr, e_mCB, e_mHcons, e_mHnil, e_mAcons, e_mAnil, e_mTup, e_mLst, e_mNx, e_mRetN, e_mIsN, e_mIsi, e_mTru, e_mAnd, e_mOr, e_mNot, e_mV, e_mAndV, e_mOrV, e_mNotV, e_mChain, e_mPar, e_mAsg, e_mFor, e_mItems, e_mRng1, e_mRng2, e_mEnum, e_mRaise, e_mCall, e_mAtt, e_mSetAtt, e_mMeth, e_mAnil0, e_mTry, e_mWh, e_mLc, e_mYes, e_mStar1, e_mPub, e_mAppO, e_mMt, e_mAstar, e_mSl, e_mPart, e_mNoPart, e_mBrk, e_mIf, e_mIx, e_mgName, e_mgTup, e_mgNil, e_mgCons, mDef, mDefV, mDefC, mCallAt, Mi.R.ne,
  Mi.bnd_ok, Mi.bnd_er, Mi.bnd_no, o_ok, o_er, o_no, ne_ok, ne_er, ne_no, Hd.at, rsv, opt, fin, ent, atAll, ownAt, gLt_ii, gLe_ii, gGt_ii, gGe_ii, gAdd, Mi.gSub, gLen, gNeg, gIx, atI_0, atI_1, gEq_int, gNe_int, Sl.d, kdOf, ansT, kI, kB, kT, kL, kS, insAt, tabA, tabS, tabM, List.getD_cons_zero, List.getD_cons_succ, truD, Option.bind_some, Option.bind_none, Option.map_some, Option.map_none,
  List.map_cons, List.map_nil, List.length_cons, List.length_nil, List.replicate_succ, List.replicate_zero, List.cons_append, List.nil_append, List.append_nil, List.getElem?_cons_zero, List.getElem?_cons_succ, List.set_cons_zero, List.set_cons_succ, Nat.reduceAdd, Nat.reduceSub, Nat.reduceLT, Nat.reduceEqDiff, Nat.reduceLeDiff, Nat.zero_add, natLit, le_LIM, lt_LIM, List.take_zero, List.drop_zero, List.take_succ_cons, List.drop_succ_cons, Nat.zero_le, true_and, and_true, and_self, Nat.reduceLeDiff, Int.reduceEq, Int.reduceLT, Int.reduceLE, Int.reduceAdd, Int.reduceSub, Int.reduceMul, Int.reduceNeg, Int.reduceToNat, eq_self_iff_true, reduceIte, if_true, if_false, ite_true, ite_false, Bool.false_eq_true, Bool.not_true, Bool.not_false, Bool.and_true, Bool.true_and, Bool.and_false, Bool.false_and, Bool.or_true, Bool.true_or, decide_true, decide_false, decide_eq_true_eq]
    | int i => simp only [cf__law_is_same]; simp only [isNonD, bft, gNe_bl, e_mSeq, e_mIfS, e_mT, e_mBin, e_mUn, e_mNm, e_mNv, e_mF, e_mC, e_mRet, e_mSet, e_mSetIx, e_mApp, e_mExpr, e_mCB, e_mHcons, e_mHnil, e_mAcons, e_mAnil, e_mTup, e_mLst, e_mNx, e_mRetN, e_mIsN, e_mIsi, e_mTru, e_mAnd, e_mOr, e_mNot, e_mV, e_mAndV, e_mOrV, e_mNotV, e_mChain, e_mPar, e_mAsg, e_mFor, e_mItems, e_mRng1, e_mRng2, e_mEnum, e_mRaise, e_mCall, e_mAtt, e_mSetAtt, e_mMeth, e_mAnil0, e_mTry, e_mWh, e_mLc, e_mYes, e_mStar1, e_mPub, e_mAppO, e_mMt, e_mAstar, e_mSl, e_mPart, e_mNoPart, e_mBrk, e_mIf, e_mIx, e_mgName, e_mgTup, e_mgNil, e_mgCons, mDef, mDefV, mDefC, mCallAt, Mi.R.ne,
  Mi.bnd_ok, Mi.bnd_er, Mi.bnd_no, o_ok, o_er, o_no, ne_ok, ne_er, ne_no, Hd.at, rsv, opt, fin, ent, atAll, ownAt, gLt_ii, gLe_ii, gGt_ii, gGe_ii, gAdd, Mi.gSub, gLen, gNeg, gIx, atI_0, atI_1, gEq_int, gNe_int, Sl.d, kdOf, ansT, kI, kB, kT, kL, kS, insAt, tabA, tabS, tabM, List.getD_cons_zero, List.getD_cons_succ, truD, Option.bind_some, Option.bind_none, Option.map_some, Option.map_none,
  List.map_cons, List.map_nil, List.length_cons, List.length_nil, List.replicate_succ, List.replicate_zero, List.cons_append, List.nil_append, List.append_nil, List.getElem?_cons_zero, List.getElem?_cons_succ, List.set_cons_zero, List.set_cons_succ, Nat.reduceAdd, Nat.reduceSub, Nat.reduceLT, Nat.reduceEqDiff, Nat.reduceLeDiff, Nat.zero_add, natLit, le_LIM, lt_LIM, List.take_zero, List.drop_zero, List.take_succ_cons, List.drop_succ_cons, Nat.zero_le, true_and, and_true, and_self, Nat.reduceLeDiff, Int.reduceEq, Int.reduceLT, Int.reduceLE, Int.reduceAdd, Int.reduceSub, Int.reduceMul, Int.reduceNeg, Int.reduceToNat, eq_self_iff_true, reduceIte, if_true, if_false, ite_true, ite_false, Bool.false_eq_true, Bool.not_true, Bool.not_false, Bool.and_true, Bool.true_and, Bool.and_false, Bool.false_and, Bool.or_true, Bool.true_or, decide_true, decide_false, decide_eq_true_eq]
    | str x => simp only [cf__law_is_same]; simp only [isNonD, bft, gEq_str x (by simpa [plainS] using h), e_mSeq, e_mIfS, e_mT, e_mBin, e_mUn, e_mNm, e_mNv, e_mF, e_mC, e_mRet, e_mSet, e_mSetIx, e_mApp, e_mExpr, e_mCB, e_mHcons, e_mHnil, e_mAcons, e_mAnil, e_mTup, e_mLst, e_mNx, e_mRetN, e_mIsN, e_mIsi, e_mTru, e_mAnd, e_mOr, e_mNot, e_mV, e_mAndV, e_mOrV, e_mNotV, e_mChain, e_mPar, e_mAsg, e_mFor, e_mItems, e_mRng1, e_mRng2, e_mEnum, e_mRaise, e_mCall, e_mAtt, e_mSetAtt, e_mMeth, e_mAnil0, e_mTry, e_mWh, e_mLc, e_mYes, e_mStar1, e_mPub, e_mAppO, e_mMt, e_mAstar, e_mSl, e_mPart, e_mNoPart, e_mBrk, e_mIf, e_mIx, e_mgName, e_mgTup, e_mgNil, e_mgCons, mDef, mDefV, mDefC, mCallAt, Mi.R.ne,
  Mi.bnd_ok, Mi.bnd_er, Mi.bnd_no, o_ok, o_er, o_no, ne_ok, ne_er, ne_no, Hd.at, rsv, opt, fin, ent, atAll, ownAt, gLt_ii, gLe_ii, gGt_ii, gGe_ii, gAdd, Mi.gSub, gLen, gNeg, gIx, atI_0, atI_1, gEq_int, gNe_int, Sl.d, kdOf, ansT, kI, kB, kT, kL, kS, insAt, tabA, tabS, tabM, List.getD_cons_zero, List.getD_cons_succ, truD, Option.bind_some, Option.bind_none, Option.map_some, Option.map_none,
  List.map_cons, List.map_nil, List.length_cons, List.length_nil, List.replicate_succ, List.replicate_zero, List.cons_append, List.nil_append, List.append_nil, List.getElem?_cons_zero, List.getElem?_cons_succ, List.set_cons_zero, List.set_cons_succ, Nat.reduceAdd, Nat.reduceSub, Nat.reduceLT, Nat.reduceEqDiff, Nat.reduceLeDiff, Nat.zero_add, natLit, le_LIM, lt_LIM, List.take_zero, List.drop_zero, List.take_succ_cons, List.drop_succ_cons, Nat.zero_le, true_and, and_true, and_self, Nat.reduceLeDiff, Int.reduceEq, Int.reduceLT, Int.reduceLE, Int.reduceAdd, Int.reduceSub, Int.reduceMul, Int.reduceNeg, Int.reduceToNat, eq_self_iff_true, reduceIte, if_true, if_false, ite_true, ite_false, Bool.false_eq_true, Bool.not_true, Bool.not_false, Bool.and_true, Bool.true_and, Bool.and_false, Bool.false_and, Bool.or_true, Bool.true_or, decide_true, decide_false, decide_eq_true_eq]
    | tup xs =>
      simp only [plainS, Bool.and_eq_true, decide_eq_true_eq, List.all_eq_true] at h
      obtain ⟨h1, h2⟩ := h
      have lc := lc_mapB (own := [2]) (mg := mgName 2) (me := mCall (cf__law_is_same n) (mAcons (mIx (mNm 0) (mNm 2)) (mAcons (mIx (mNm 1) (mNm 2)) mAnil))) (st0 := ⟨[.va (.tup xs), .va (.tup xs), .un], S⟩) (fun i : Nat => D.int (0 + (i : Int))) (fun _ => D.bl true) (fun i => [.va (.tup xs), .va (.tup xs), .va (.int (0 + (i : Int)))]) rfl (List.range xs.length) (fun i m => by
        have hi : i < xs.length := List.mem_range.mp m
        have e : L2.atI xs (0 + (i : Int)) = some xs[i] := by rw [Int.zero_add, Mi.atI_nat, List.getElem?_eq_getElem hi]
        refine ⟨rfl, rfl, .va (.bl true), ?_, rfl⟩
        simp only [e, ev_same n xs[i] (h2 _ (List.getElem_mem hi)) S, e_mSeq, e_mIfS, e_mT, e_mBin, e_mUn, e_mNm, e_mNv, e_mF, e_mC, e_mRet, e_mSet, e_mSetIx, e_mApp, e_mExpr, e_mCB, e_mHcons, e_mHnil, e_mAcons, e_mAnil, e_mTup, e_mLst, e_mNx, e_mRetN, e_mIsN, e_mIsi, e_mTru, e_mAnd, e_mOr, e_mNot, e_mV, e_mAndV, e_mOrV, e_mNotV, e_mChain, e_mPar, e_mAsg, e_mFor, e_mItems, e_mRng1, e_mRng2, e_mEnum, e_mRaise, e_mCall, e_mAtt, e_mSetAtt, e_mMeth, e_mAnil0, e_mTry, e_mWh, e_mLc, e_mYes, e_mStar1, e_mPub, e_mAppO, e_mMt, e_mAstar, e_mSl, e_mPart, e_mNoPart, e_mBrk, e_mIf, e_mIx, e_mgName, e_mgTup, e_mgNil, e_mgCons, mDef, mDefV, mDefC, mCallAt, Mi.R.ne,
  Mi.bnd_ok, Mi.bnd_er, Mi.bnd_no, o_ok, o_er, o_no, ne_ok, ne_er, ne_no, Hd.at, rsv, opt, fin, ent, atAll, ownAt, gLt_ii, gLe_ii, gGt_ii, gGe_ii, gAdd, Mi.gSub, gLen, gNeg, gIx, atI_0, atI_1, gEq_int, gNe_int, Sl.d, kdOf, ansT, kI, kB, kT, kL, kS, insAt, tabA, tabS, tabM, List.getD_cons_zero, List.getD_cons_succ, truD, Option.bind_some, Option.bind_none, Option.map_some, Option.map_none,
  List.map_cons, List.map_nil, List.length_cons, List.length_nil, List.replicate_succ, List.replicate_zero, List.cons_append, List.nil_append, List.append_nil, List.getElem?_cons_zero, List.getElem?_cons_succ, List.set_cons_zero, List.set_cons_succ, Nat.reduceAdd, Nat.reduceSub, Nat.reduceLT, Nat.reduceEqDiff, Nat.reduceLeDiff, Nat.zero_add, natLit, le_LIM, lt_LIM, List.take_zero, List.drop_zero, List.take_succ_cons, List.drop_succ_cons, Nat.zero_le, true_and, and_true, and_self, Nat.reduceLeDiff, Int.reduceEq, Int.reduceLT, Int.reduceLE, Int.reduceAdd, Int.reduceSub, Int.reduceMul, Int.reduceNeg, Int.reduceToNat, eq_self_iff_true, reduceIte, if_true, if_false, ite_true, ite_false, Bool.false_eq_true, Bool.not_true, Bool.not_false, Bool.and_true, Bool.true_and, Bool.and_false, Bool.false_and, Bool.or_true, Bool.true_or, decide_true, decide_false, decide_eq_true_eq])
      have hr : rngOk (xs.length : Int) = true := rngOk_nat (by omega)
      have l2 : (rngD 0 xs.length).length ≤ LIM := by rw [rngD_len]; exact Nat.le_trans h1 (by decide)
      have b1 := blsD_map (fun _ : Nat => true) (List.range xs.length)
      have a1 : ((List.range xs.length).map fun _ => true).all id = true := by simp
      rw [← rngD_nat] at lc
      simp only [cf__law_is_same]
      simp only [hr, Int.toNat_natCast, l2, wipeS, rst, vaOf, lc, gAll, b1, a1, e_mSeq, e_mIfS, e_mT, e_mBin, e_mUn, e_mNm, e_mNv, e_mF, e_mC, e_mRet, e_mSet, e_mSetIx, e_mApp, e_mExpr, e_mCB, e_mHcons, e_mHnil, e_mAcons, e_mAnil, e_mTup, e_mLst, e_mNx, e_mRetN, e_mIsN, e_mIsi, e_mTru, e_mAnd, e_mOr, e_mNot, e_mV, e_mAndV, e_mOrV, e_mNotV, e_mChain, e_mPar, e_mAsg, e_mFor, e_mItems, e_mRng1, e_mRng2, e_mEnum, e_mRaise, e_mCall, e_mAtt, e_mSetAtt, e_mMeth, e_mAnil0, e_mTry, e_mWh, e_mLc, e_mYes, e_mStar1, e_mPub, e_mAppO, e_mMt, e_mAstar, e_mSl, e_mPart, e_mNoPart, e_mBrk, e_mIf, e_mIx, e_mgName, e_mgTup, e_mgNil, e_mgCons, mDef, mDefV, mDefC, mCallAt, Mi.R.ne,
  Mi.bnd_ok, Mi.bnd_er, Mi.bnd_no, o_ok, o_er, o_no, ne_ok, ne_er, ne_no, Hd.at, rsv, opt, fin, ent, atAll, ownAt, gLt_ii, gLe_ii, gGt_ii, gGe_ii, gAdd, Mi.gSub, gLen, gNeg, gIx, atI_0, atI_1, gEq_int, gNe_int, Sl.d, kdOf, ansT, kI, kB, kT, kL, kS, insAt, tabA, tabS, tabM, List.getD_cons_zero, List.getD_cons_succ, truD, Option.bind_some, Option.bind_none, Option.map_some, Option.map_none,
  List.map_cons, List.map_nil, List.length_cons, List.length_nil, List.replicate_succ, List.replicate_zero, List.cons_append, List.nil_append, List.append_nil, List.getElem?_cons_zero, List.getElem?_cons_succ, List.set_cons_zero, List.set_cons_succ, Nat.reduceAdd, Nat.reduceSub, Nat.reduceLT, Nat.reduceEqDiff, Nat.reduceLeDiff, Nat.zero_add, natLit, le_LIM, lt_LIM, List.take_zero, List.drop_zero, List.take_succ_cons, List.drop_succ_cons, Nat.zero_le, true_and, and_true, and_self, Nat.reduceLeDiff, Int.reduceEq, Int.reduceLT, Int.reduceLE, Int.reduceAdd, Int.reduceSub, Int.reduceMul, Int.reduceNeg, Int.reduceToNat, eq_self_iff_true, reduceIte, if_true, if_false, ite_true, ite_false, Bool.false_eq_true, Bool.not_true, Bool.not_false, Bool.and_true, Bool.true_and, Bool.and_false, Bool.false_and, Bool.or_true, Bool.true_or, decide_true, decide_false, decide_eq_true_eq]
    | _ => simp [plainS] at h
theorem plain_fr (x : Fr) (n : Nat) : plainS (n + 2) x.d = true := rfl
theorem plain_tup (n : Nat) (ds : List D) (hl : ds.length ≤ 1000) (h : ∀ d ∈ ds, plainS n d = true) : plainS (n + 1) (.tup ds) = true := by
  simp only [plainS, Bool.and_eq_true, decide_eq_true_eq, List.all_eq_true]
  exact ⟨hl, h⟩
theorem plain_frs (vs : List Fr) (hl : vs.length ≤ 1000) (n : Nat) : plainS (n + 3) (frsD vs) = true := by
  refine plain_tup _ _ (by simpa using hl) fun d m => ?_
  obtain ⟨x, _, rfl⟩ := List.mem_map.mp m
  exact plain_fr x n
theorem plain_lab (ls : List Nat) (hl : ls.length ≤ 1000) (n : Nat) : plainS (n + 2) (labD ls) = true := by
  refine plain_tup _ _ (by simpa using hl) fun d m => ?_
  obtain ⟨x, _, rfl⟩ := List.mem_map.mp m
  rfl
theorem plain_nats (ls : List Nat) (hl : ls.length ≤ 1000) (n : Nat) : plainS (n + 2) (tupD ls) = true := plain_lab ls hl n
theorem plain_part {ls : List Nat} (h2 : ls.length ≤ 12) (hb : ∀ l ∈ ls, l < 12) (n : Nat) : plainS (n + 3) (partD ls) = true := by
  have hk : manyP ls < 13 := by
    have := topL_lt ls 0 12 (by decide) hb
    unfold manyP; omega
  refine plain_tup _ _ (by rw [List.length_map, partsP_len]; omega) fun d m => ?_
  obtain ⟨x, hx, rfl⟩ := List.mem_map.mp m
  obtain ⟨l, rfl⟩ := mem_partsP hx
  exact plain_nats _ (Nat.le_trans (idxs_len ls 0 l) (by omega)) n
end Lw

namespace Lw
open PySem Mi
/-- of a kind that isinstance knows without looking at the things -/
def kP : D → Bool
  | .obj _ => false
  | _ => true
def isW : D → Bool
  | .int _ => true
  | _ => false
theorem ev_whole_any (d : D) (h : kP d = true) (S : List Ins) : cf_is_whole [d] S = .ok (.va (.bl (isW d))) ⟨[], S⟩ := by
  cases d <;> first | (simp [kP] at h; done) | (simp only [cf_is_whole, m_is_whole]; simp only [isW, e_mSeq, e_mIfS, e_mT, e_mBin, e_mUn, e_mNm, e_mNv, e_mF, e_mC, e_mRet, e_mSet, e_mSetIx, e_mApp, e_mExpr, e_mCB, e_mHcons, e_mHnil, e_mAcons, e_mAnil, e_mTup, e_mLst, e_mNx, e_mRetN, e_mIsN, e_mIsi, e_mTru, e_mAnd, e_mOr, e_mNot, e_mV, e_mAndV, e_mOrV, e_mNotV, e_mChain, e_mPar, e_mAsg, e_mFor, e_mItems, e_mRng1, e_mRng2, e_mEnum, e_mRaise, e_mCall, e_mAtt, e_mSetAtt, e_mMeth, e_mAnil0, e_mTry, e_mWh, e_mLc, e_mYes, e_mStar1, e_mPub, e_mAppO, e_mMt, e_mAstar, e_mSl, e_mPart, e_mNoPart, e_mBrk, e_mIf, e_mIx, e_mgName, e_mgTup, e_mgNil, e_mgCons, mDef, mDefV, mDefC, mCallAt, Mi.R.ne,
  Mi.bnd_ok, Mi.bnd_er, Mi.bnd_no, o_ok, o_er, o_no, ne_ok, ne_er, ne_no, Hd.at, rsv, opt, fin, ent, atAll, ownAt, gLt_ii, gLe_ii, gGt_ii, gGe_ii, gAdd, Mi.gSub, gLen, gNeg, gIx, atI_0, atI_1, gEq_int, gNe_int, Sl.d, kdOf, ansT, kI, kB, kT, kL, kS, insAt, tabA, tabS, tabM, List.getD_cons_zero, List.getD_cons_succ, truD, Option.bind_some, Option.bind_none, Option.map_some, Option.map_none,
  List.map_cons, List.map_nil, List.length_cons, List.length_nil, List.replicate_succ, List.replicate_zero, List.cons_append, List.nil_append, List.append_nil, List.getElem?_cons_zero, List.getElem?_cons_succ, List.set_cons_zero, List.set_cons_succ, Nat.reduceAdd, Nat.reduceSub, Nat.reduceLT, Nat.reduceEqDiff, Nat.reduceLeDiff, Nat.zero_add, natLit, le_LIM, lt_LIM, List.take_zero, List.drop_zero, List.take_succ_cons, List.drop_succ_cons, Nat.zero_le, true_and, and_true, and_self, Nat.reduceLeDiff, Int.reduceEq, Int.reduceLT, Int.reduceLE, Int.reduceAdd, Int.reduceSub, Int.reduceMul, Int.reduceNeg, Int.reduceToNat, eq_self_iff_true, reduceIte, if_true, if_false, ite_true, ite_false, Bool.false_eq_true, Bool.not_true, Bool.not_false, Bool.and_true, Bool.true_and, Bool.and_false, Bool.false_and, Bool.or_true, Bool.true_or, decide_true, decide_false, decide_eq_true_eq])
def isTp : D → Bool
  | .tup _ => true
  | _ => false
theorem isFr_no {d : D} (h : isTp d = false) : isFr d = false := by cases d <;> first | rfl | simp [isTp] at h
theorem ev_isfr_any (d : D) (h : kP d = true) (h2 : ∀ ds, d = .tup ds → ∀ a ∈ ds, kP a = true) (S : List Ins) : cf_is_valid_fraction [d] S = .ok (.va (.bl (isFr d))) ⟨[], S⟩ := by
  by_cases t : isTp d = true
  · cases d with
    | tup ds =>
      have h2 := h2 ds rfl
      match ds, h2 with
      | [], _ =>
        simp only [cf_is_valid_fraction, m_is_valid_fraction]
        simp only [isFr, e_mSeq, e_mIfS, e_mT, e_mBin, e_mUn, e_mNm, e_mNv, e_mF, e_mC, e_mRet, e_mSet, e_mSetIx, e_mApp, e_mExpr, e_mCB, e_mHcons, e_mHnil, e_mAcons, e_mAnil, e_mTup, e_mLst, e_mNx, e_mRetN, e_mIsN, e_mIsi, e_mTru, e_mAnd, e_mOr, e_mNot, e_mV, e_mAndV, e_mOrV, e_mNotV, e_mChain, e_mPar, e_mAsg, e_mFor, e_mItems, e_mRng1, e_mRng2, e_mEnum, e_mRaise, e_mCall, e_mAtt, e_mSetAtt, e_mMeth, e_mAnil0, e_mTry, e_mWh, e_mLc, e_mYes, e_mStar1, e_mPub, e_mAppO, e_mMt, e_mAstar, e_mSl, e_mPart, e_mNoPart, e_mBrk, e_mIf, e_mIx, e_mgName, e_mgTup, e_mgNil, e_mgCons, mDef, mDefV, mDefC, mCallAt, Mi.R.ne,
  Mi.bnd_ok, Mi.bnd_er, Mi.bnd_no, o_ok, o_er, o_no, ne_ok, ne_er, ne_no, Hd.at, rsv, opt, fin, ent, atAll, ownAt, gLt_ii, gLe_ii, gGt_ii, gGe_ii, gAdd, Mi.gSub, gLen, gNeg, gIx, atI_0, atI_1, gEq_int, gNe_int, Sl.d, kdOf, ansT, kI, kB, kT, kL, kS, insAt, tabA, tabS, tabM, List.getD_cons_zero, List.getD_cons_succ, truD, Option.bind_some, Option.bind_none, Option.map_some, Option.map_none,
  List.map_cons, List.map_nil, List.length_cons, List.length_nil, List.replicate_succ, List.replicate_zero, List.cons_append, List.nil_append, List.append_nil, List.getElem?_cons_zero, List.getElem?_cons_succ, List.set_cons_zero, List.set_cons_succ, Nat.reduceAdd, Nat.reduceSub, Nat.reduceLT, Nat.reduceEqDiff, Nat.reduceLeDiff, Nat.zero_add, natLit, le_LIM, lt_LIM, List.take_zero, List.drop_zero, List.take_succ_cons, List.drop_succ_cons, Nat.zero_le, true_and, and_true, and_self, Nat.reduceLeDiff, Int.reduceEq, Int.reduceLT, Int.reduceLE, Int.reduceAdd, Int.reduceSub, Int.reduceMul, Int.reduceNeg, Int.reduceToNat, eq_self_iff_true, reduceIte, if_true, if_false, ite_true, ite_false, Bool.false_eq_true, Bool.not_true, Bool.not_false, Bool.and_true, Bool.true_and, Bool.and_false, Bool.false_and, Bool.or_true, Bool.true_or, decide_true, decide_false, decide_eq_true_eq]
      | [a], _ =>
        simp only [cf_is_valid_fraction, m_is_valid_fraction]
        simp only [isFr, e_mSeq, e_mIfS, e_mT, e_mBin, e_mUn, e_mNm, e_mNv, e_mF, e_mC, e_mRet, e_mSet, e_mSetIx, e_mApp, e_mExpr, e_mCB, e_mHcons, e_mHnil, e_mAcons, e_mAnil, e_mTup, e_mLst, e_mNx, e_mRetN, e_mIsN, e_mIsi, e_mTru, e_mAnd, e_mOr, e_mNot, e_mV, e_mAndV, e_mOrV, e_mNotV, e_mChain, e_mPar, e_mAsg, e_mFor, e_mItems, e_mRng1, e_mRng2, e_mEnum, e_mRaise, e_mCall, e_mAtt, e_mSetAtt, e_mMeth, e_mAnil0, e_mTry, e_mWh, e_mLc, e_mYes, e_mStar1, e_mPub, e_mAppO, e_mMt, e_mAstar, e_mSl, e_mPart, e_mNoPart, e_mBrk, e_mIf, e_mIx, e_mgName, e_mgTup, e_mgNil, e_mgCons, mDef, mDefV, mDefC, mCallAt, Mi.R.ne,
  Mi.bnd_ok, Mi.bnd_er, Mi.bnd_no, o_ok, o_er, o_no, ne_ok, ne_er, ne_no, Hd.at, rsv, opt, fin, ent, atAll, ownAt, gLt_ii, gLe_ii, gGt_ii, gGe_ii, gAdd, Mi.gSub, gLen, gNeg, gIx, atI_0, atI_1, gEq_int, gNe_int, Sl.d, kdOf, ansT, kI, kB, kT, kL, kS, insAt, tabA, tabS, tabM, List.getD_cons_zero, List.getD_cons_succ, truD, Option.bind_some, Option.bind_none, Option.map_some, Option.map_none,
  List.map_cons, List.map_nil, List.length_cons, List.length_nil, List.replicate_succ, List.replicate_zero, List.cons_append, List.nil_append, List.append_nil, List.getElem?_cons_zero, List.getElem?_cons_succ, List.set_cons_zero, List.set_cons_succ, Nat.reduceAdd, Nat.reduceSub, Nat.reduceLT, Nat.reduceEqDiff, Nat.reduceLeDiff, Nat.zero_add, natLit, le_LIM, lt_LIM, List.take_zero, List.drop_zero, List.take_succ_cons, List.drop_succ_cons, Nat.zero_le, true_and, and_true, and_self, Nat.reduceLeDiff, Int.reduceEq, Int.reduceLT, Int.reduceLE, Int.reduceAdd, Int.reduceSub, Int.reduceMul, Int.reduceNeg, Int.reduceToNat, eq_self_iff_true, reduceIte, if_true, if_false, ite_true, ite_false, Bool.false_eq_true, Bool.not_true, Bool.not_false, Bool.and_true, Bool.true_and, Bool.and_false, Bool.false_and, Bool.or_true, Bool.true_or, decide_true, decide_false, decide_eq_true_eq]
      | [a, b], h2 =>
        have ha := h2 a List.mem_cons_self
        have hb := h2 b (List.mem_cons_of_mem _ List.mem_cons_self)
        by_cases w : isW a = true
        · cases a with
          | int i =>
            by_cases w2 : isW b = true
            · cases b with
              | int j => exact ev_isfr i j S
              | _ => simp [isW] at w2
            · have w2 : isW b = false := by simpa using w2
              have e : isFr (.tup [.int i, b]) = false := by cases b <;> first | rfl | simp [isW] at w2
              simp only [cf_is_valid_fraction, m_is_valid_fraction, e]
              have e1 := ev_whole_any b hb S
              rw [w2] at e1
              simp only [ev_whole_int, rsv, e_mSeq, e_mIfS, e_mT, e_mBin, e_mUn, e_mNm, e_mNv, e_mF, e_mC, e_mRet, e_mSet, e_mSetIx, e_mApp, e_mExpr, e_mCB, e_mHcons, e_mHnil, e_mAcons, e_mAnil, e_mTup, e_mLst, e_mNx, e_mRetN, e_mIsN, e_mIsi, e_mTru, e_mAnd, e_mOr, e_mNot, e_mV, e_mAndV, e_mOrV, e_mNotV, e_mChain, e_mPar, e_mAsg, e_mFor, e_mItems, e_mRng1, e_mRng2, e_mEnum, e_mRaise, e_mCall, e_mAtt, e_mSetAtt, e_mMeth, e_mAnil0, e_mTry, e_mWh, e_mLc, e_mYes, e_mStar1, e_mPub, e_mAppO, e_mMt, e_mAstar, e_mSl, e_mPart, e_mNoPart, e_mBrk, e_mIf, e_mIx, e_mgName, e_mgTup, e_mgNil, e_mgCons, mDef, mDefV, mDefC, mCallAt, Mi.R.ne,
  Mi.bnd_ok, Mi.bnd_er, Mi.bnd_no, o_ok, o_er, o_no, ne_ok, ne_er, ne_no, Hd.at, rsv, opt, fin, ent, atAll, ownAt, gLt_ii, gLe_ii, gGt_ii, gGe_ii, gAdd, Mi.gSub, gLen, gNeg, gIx, atI_0, atI_1, gEq_int, gNe_int, Sl.d, kdOf, ansT, kI, kB, kT, kL, kS, insAt, tabA, tabS, tabM, List.getD_cons_zero, List.getD_cons_succ, truD, Option.bind_some, Option.bind_none, Option.map_some, Option.map_none,
  List.map_cons, List.map_nil, List.length_cons, List.length_nil, List.replicate_succ, List.replicate_zero, List.cons_append, List.nil_append, List.append_nil, List.getElem?_cons_zero, List.getElem?_cons_succ, List.set_cons_zero, List.set_cons_succ, Nat.reduceAdd, Nat.reduceSub, Nat.reduceLT, Nat.reduceEqDiff, Nat.reduceLeDiff, Nat.zero_add, natLit, le_LIM, lt_LIM, List.take_zero, List.drop_zero, List.take_succ_cons, List.drop_succ_cons, Nat.zero_le, true_and, and_true, and_self, Nat.reduceLeDiff, Int.reduceEq, Int.reduceLT, Int.reduceLE, Int.reduceAdd, Int.reduceSub, Int.reduceMul, Int.reduceNeg, Int.reduceToNat, eq_self_iff_true, reduceIte, if_true, if_false, ite_true, ite_false, Bool.false_eq_true, Bool.not_true, Bool.not_false, Bool.and_true, Bool.true_and, Bool.and_false, Bool.false_and, Bool.or_true, Bool.true_or, decide_true, decide_false, decide_eq_true_eq]
              cases b <;> first | (simp [kP] at hb; done) | simp only [e1, ev_whole_int, e_mSeq, e_mIfS, e_mT, e_mBin, e_mUn, e_mNm, e_mNv, e_mF, e_mC, e_mRet, e_mSet, e_mSetIx, e_mApp, e_mExpr, e_mCB, e_mHcons, e_mHnil, e_mAcons, e_mAnil, e_mTup, e_mLst, e_mNx, e_mRetN, e_mIsN, e_mIsi, e_mTru, e_mAnd, e_mOr, e_mNot, e_mV, e_mAndV, e_mOrV, e_mNotV, e_mChain, e_mPar, e_mAsg, e_mFor, e_mItems, e_mRng1, e_mRng2, e_mEnum, e_mRaise, e_mCall, e_mAtt, e_mSetAtt, e_mMeth, e_mAnil0, e_mTry, e_mWh, e_mLc, e_mYes, e_mStar1, e_mPub, e_mAppO, e_mMt, e_mAstar, e_mSl, e_mPart, e_mNoPart, e_mBrk, e_mIf, e_mIx, e_mgName, e_mgTup, e_mgNil, e_mgCons, mDef, mDefV, mDefC, mCallAt, Mi.R.ne,
  Mi.bnd_ok, Mi.bnd_er, Mi.bnd_no, o_ok, o_er, o_no, ne_ok, ne_er, ne_no, Hd.at, rsv, opt, fin, ent, atAll, ownAt, gLt_ii, gLe_ii, gGt_ii, gGe_ii, gAdd, Mi.gSub, gLen, gNeg, gIx, atI_0, atI_1, gEq_int, gNe_int, Sl.d, kdOf, ansT, kI, kB, kT, kL, kS, insAt, tabA, tabS, tabM, List.getD_cons_zero, List.getD_cons_succ, truD, Option.bind_some, Option.bind_none, Option.map_some, Option.map_none,
  List.map_cons, List.map_nil, List.length_cons, List.length_nil, List.replicate_succ, List.replicate_zero, List.cons_append, List.nil_append, List.append_nil, List.getElem?_cons_zero, List.getElem?_cons_succ, List.set_cons_zero, List.set_cons_succ, Nat.reduceAdd, Nat.reduceSub, Nat.reduceLT, Nat.reduceEqDiff, Nat.reduceLeDiff, Nat.zero_add, natLit, le_LIM, lt_LIM, List.take_zero, List.drop_zero, List.take_succ_cons, List.drop_succ_cons, Nat.zero_le, true_and, and_true, and_self, Nat.reduceLeDiff, Int.reduceEq, Int.reduceLT, Int.reduceLE, Int.reduceAdd, Int.reduceSub, Int.reduceMul, Int.reduceNeg, Int.reduceToNat, eq_self_iff_true, reduceIte, if_true, if_false, ite_true, ite_false, Bool.false_eq_true, Bool.not_true, Bool.not_false, Bool.and_true, Bool.true_and, Bool.and_false, Bool.false_and, Bool.or_true, Bool.true_or, decide_true, decide_false, decide_eq_true_eq]
          | _ => simp [isW] at w
        · have w : isW a = false := by simpa using w
          have e : isFr (.tup [a, b]) = false := by cases a <;> first | rfl | simp [isW] at w
          simp only [cf_is_valid_fraction, m_is_valid_fraction, e]
          have e1 := ev_whole_any a ha S
          rw [w] at e1
          simp only [e_mSeq, e_mIfS, e_mT, e_mBin, e_mUn, e_mNm, e_mNv, e_mF, e_mC, e_mRet, e_mSet, e_mSetIx, e_mApp, e_mExpr, e_mCB, e_mHcons, e_mHnil, e_mAcons, e_mAnil, e_mTup, e_mLst, e_mNx, e_mRetN, e_mIsN, e_mIsi, e_mTru, e_mAnd, e_mOr, e_mNot, e_mV, e_mAndV, e_mOrV, e_mNotV, e_mChain, e_mPar, e_mAsg, e_mFor, e_mItems, e_mRng1, e_mRng2, e_mEnum, e_mRaise, e_mCall, e_mAtt, e_mSetAtt, e_mMeth, e_mAnil0, e_mTry, e_mWh, e_mLc, e_mYes, e_mStar1, e_mPub, e_mAppO, e_mMt, e_mAstar, e_mSl, e_mPart, e_mNoPart, e_mBrk, e_mIf, e_mIx, e_mgName, e_mgTup, e_mgNil, e_mgCons, mDef, mDefV, mDefC, mCallAt, Mi.R.ne,
  Mi.bnd_ok, Mi.bnd_er, Mi.bnd_no, o_ok, o_er, o_no, ne_ok, ne_er, ne_no, Hd.at, rsv, opt, fin, ent, atAll, ownAt, gLt_ii, gLe_ii, gGt_ii, gGe_ii, gAdd, Mi.gSub, gLen, gNeg, gIx, atI_0, atI_1, gEq_int, gNe_int, Sl.d, kdOf, ansT, kI, kB, kT, kL, kS, insAt, tabA, tabS, tabM, List.getD_cons_zero, List.getD_cons_succ, truD, Option.bind_some, Option.bind_none, Option.map_some, Option.map_none,
  List.map_cons, List.map_nil, List.length_cons, List.length_nil, List.replicate_succ, List.replicate_zero, List.cons_append, List.nil_append, List.append_nil, List.getElem?_cons_zero, List.getElem?_cons_succ, List.set_cons_zero, List.set_cons_succ, Nat.reduceAdd, Nat.reduceSub, Nat.reduceLT, Nat.reduceEqDiff, Nat.reduceLeDiff, Nat.zero_add, natLit, le_LIM, lt_LIM, List.take_zero, List.drop_zero, List.take_succ_cons, List.drop_succ_cons, Nat.zero_le, true_and, and_true, and_self, Nat.reduceLeDiff, Int.reduceEq, Int.reduceLT, Int.reduceLE, Int.reduceAdd, Int.reduceSub, Int.reduceMul, Int.reduceNeg, Int.reduceToNat, eq_self_iff_true, reduceIte, if_true, if_false, ite_true, ite_false, Bool.false_eq_true, Bool.not_true, Bool.not_false, Bool.and_true, Bool.true_and, Bool.and_false, Bool.false_and, Bool.or_true, Bool.true_or, decide_true, decide_false, decide_eq_true_eq]
          cases a <;> first | (simp [kP] at ha; done) | (simp [isW] at w; done) | simp only [e1, e_mSeq, e_mIfS, e_mT, e_mBin, e_mUn, e_mNm, e_mNv, e_mF, e_mC, e_mRet, e_mSet, e_mSetIx, e_mApp, e_mExpr, e_mCB, e_mHcons, e_mHnil, e_mAcons, e_mAnil, e_mTup, e_mLst, e_mNx, e_mRetN, e_mIsN, e_mIsi, e_mTru, e_mAnd, e_mOr, e_mNot, e_mV, e_mAndV, e_mOrV, e_mNotV, e_mChain, e_mPar, e_mAsg, e_mFor, e_mItems, e_mRng1, e_mRng2, e_mEnum, e_mRaise, e_mCall, e_mAtt, e_mSetAtt, e_mMeth, e_mAnil0, e_mTry, e_mWh, e_mLc, e_mYes, e_mStar1, e_mPub, e_mAppO, e_mMt, e_mAstar, e_mSl, e_mPart, e_mNoPart, e_mBrk, e_mIf, e_mIx, e_mgName, e_mgTup, e_mgNil, e_mgCons, mDef, mDefV, mDefC, mCallAt, Mi.R.ne,
  Mi.bnd_ok, Mi.bnd_er, Mi.bnd_no, o_ok, o_er, o_no, ne_ok, ne_er, ne_no, Hd.at, rsv, opt, fin, ent, atAll, ownAt, gLt_ii, gLe_ii, gGt_ii, gGe_ii, gAdd, Mi.gSub, gLen, gNeg, gIx, atI_0, atI_1, gEq_int, gNe_int, Sl.d, kdOf, ansT, kI, kB, kT, kL, kS, insAt, tabA, tabS, tabM, List.getD_cons_zero, List.getD_cons_succ, truD, Option.bind_some, Option.bind_none, Option.map_some, Option.map_none,
  List.map_cons, List.map_nil, List.length_cons, List.length_nil, List.replicate_succ, List.replicate_zero, List.cons_append, List.nil_append, List.append_nil, List.getElem?_cons_zero, List.getElem?_cons_succ, List.set_cons_zero, List.set_cons_succ, Nat.reduceAdd, Nat.reduceSub, Nat.reduceLT, Nat.reduceEqDiff, Nat.reduceLeDiff, Nat.zero_add, natLit, le_LIM, lt_LIM, List.take_zero, List.drop_zero, List.take_succ_cons, List.drop_succ_cons, Nat.zero_le, true_and, and_true, and_self, Nat.reduceLeDiff, Int.reduceEq, Int.reduceLT, Int.reduceLE, Int.reduceAdd, Int.reduceSub, Int.reduceMul, Int.reduceNeg, Int.reduceToNat, eq_self_iff_true, reduceIte, if_true, if_false, ite_true, ite_false, Bool.false_eq_true, Bool.not_true, Bool.not_false, Bool.and_true, Bool.true_and, Bool.and_false, Bool.false_and, Bool.or_true, Bool.true_or, decide_true, decide_false, decide_eq_true_eq]
      | a :: b :: c :: l, _ =>
        have e : (decide (((l.length + 1 + 1 + 1 : Nat) : Int) = 2)) = false := decide_eq_false (by omega)
        simp only [cf_is_valid_fraction, m_is_valid_fraction]
        simp only [isFr, e, e_mSeq, e_mIfS, e_mT, e_mBin, e_mUn, e_mNm, e_mNv, e_mF, e_mC, e_mRet, e_mSet, e_mSetIx, e_mApp, e_mExpr, e_mCB, e_mHcons, e_mHnil, e_mAcons, e_mAnil, e_mTup, e_mLst, e_mNx, e_mRetN, e_mIsN, e_mIsi, e_mTru, e_mAnd, e_mOr, e_mNot, e_mV, e_mAndV, e_mOrV, e_mNotV, e_mChain, e_mPar, e_mAsg, e_mFor, e_mItems, e_mRng1, e_mRng2, e_mEnum, e_mRaise, e_mCall, e_mAtt, e_mSetAtt, e_mMeth, e_mAnil0, e_mTry, e_mWh, e_mLc, e_mYes, e_mStar1, e_mPub, e_mAppO, e_mMt, e_mAstar, e_mSl, e_mPart, e_mNoPart, e_mBrk, e_mIf, e_mIx, e_mgName, e_mgTup, e_mgNil, e_mgCons, mDef, mDefV, mDefC, mCallAt, Mi.R.ne,
  Mi.bnd_ok, Mi.bnd_er, Mi.bnd_no, o_ok, o_er, o_no, ne_ok, ne_er, ne_no, Hd.at, rsv, opt, fin, ent, atAll, ownAt, gLt_ii, gLe_ii, gGt_ii, gGe_ii, gAdd, Mi.gSub, gLen, gNeg, gIx, atI_0, atI_1, gEq_int, gNe_int, Sl.d, kdOf, ansT, kI, kB, kT, kL, kS, insAt, tabA, tabS, tabM, List.getD_cons_zero, List.getD_cons_succ, truD, Option.bind_some, Option.bind_none, Option.map_some, Option.map_none,
  List.map_cons, List.map_nil, List.length_cons, List.length_nil, List.replicate_succ, List.replicate_zero, List.cons_append, List.nil_append, List.append_nil, List.getElem?_cons_zero, List.getElem?_cons_succ, List.set_cons_zero, List.set_cons_succ, Nat.reduceAdd, Nat.reduceSub, Nat.reduceLT, Nat.reduceEqDiff, Nat.reduceLeDiff, Nat.zero_add, natLit, le_LIM, lt_LIM, List.take_zero, List.drop_zero, List.take_succ_cons, List.drop_succ_cons, Nat.zero_le, true_and, and_true, and_self, Nat.reduceLeDiff, Int.reduceEq, Int.reduceLT, Int.reduceLE, Int.reduceAdd, Int.reduceSub, Int.reduceMul, Int.reduceNeg, Int.reduceToNat, eq_self_iff_true, reduceIte, if_true, if_false, ite_true, ite_false, Bool.false_eq_true, Bool.not_true, Bool.not_false, Bool.and_true, Bool.true_and, Bool.and_false, Bool.false_and, Bool.or_true, Bool.true_or, decide_true, decide_false, decide_eq_true_eq]
    | _ => simp [isTp] at t
  · have t : isTp d = false := by simpa using t
    rw [isFr_no t]
    simp only [cf_is_valid_fraction, m_is_valid_fraction]
    cases d <;> first | (simp [kP] at h; done) | (simp [isTp] at t; done) | simp only [e_mSeq, e_mIfS, e_mT, e_mBin, e_mUn, e_mNm, e_mNv, e_mF, e_mC, e_mRet, e_mSet, e_mSetIx, e_mApp, e_mExpr, e_mCB, e_mHcons, e_mHnil, e_mAcons, e_mAnil, e_mTup, e_mLst, e_mNx, e_mRetN, e_mIsN, e_mIsi, e_mTru, e_mAnd, e_mOr, e_mNot, e_mV, e_mAndV, e_mOrV, e_mNotV, e_mChain, e_mPar, e_mAsg, e_mFor, e_mItems, e_mRng1, e_mRng2, e_mEnum, e_mRaise, e_mCall, e_mAtt, e_mSetAtt, e_mMeth, e_mAnil0, e_mTry, e_mWh, e_mLc, e_mYes, e_mStar1, e_mPub, e_mAppO, e_mMt, e_mAstar, e_mSl, e_mPart, e_mNoPart, e_mBrk, e_mIf, e_mIx, e_mgName, e_mgTup, e_mgNil, e_mgCons, mDef, mDefV, mDefC, mCallAt, Mi.R.ne,
  Mi.bnd_ok, Mi.bnd_er, Mi.bnd_no, o_ok, o_er, o_no, ne_ok, ne_er, ne_no, Hd.at, rsv, opt, fin, ent, atAll, ownAt, gLt_ii, gLe_ii, gGt_ii, gGe_ii, gAdd, Mi.gSub, gLen, gNeg, gIx, atI_0, atI_1, gEq_int, gNe_int, Sl.d, kdOf, ansT, kI, kB, kT, kL, kS, insAt, tabA, tabS, tabM, List.getD_cons_zero, List.getD_cons_succ, truD, Option.bind_some, Option.bind_none, Option.map_some, Option.map_none,
  List.map_cons, List.map_nil, List.length_cons, List.length_nil, List.replicate_succ, List.replicate_zero, List.cons_append, List.nil_append, List.append_nil, List.getElem?_cons_zero, List.getElem?_cons_succ, List.set_cons_zero, List.set_cons_succ, Nat.reduceAdd, Nat.reduceSub, Nat.reduceLT, Nat.reduceEqDiff, Nat.reduceLeDiff, Nat.zero_add, natLit, le_LIM, lt_LIM, List.take_zero, List.drop_zero, List.take_succ_cons, List.drop_succ_cons, Nat.zero_le, true_and, and_true, and_self, Nat.reduceLeDiff, Int.reduceEq, Int.reduceLT, Int.reduceLE, Int.reduceAdd, Int.reduceSub, Int.reduceMul, Int.reduceNeg, Int.reduceToNat, eq_self_iff_true, reduceIte, if_true, if_false, ite_true, ite_false, Bool.false_eq_true, Bool.not_true, Bool.not_false, Bool.and_true, Bool.true_and, Bool.and_false, Bool.false_and, Bool.or_true, Bool.true_or, decide_true, decide_false, decide_eq_true_eq]
/-- what is_row says of so many entries -/
def rowB (n : Nat) : D → Bool
  | .tup ds => decide (ds.length = n) && ds.all isFr
  | _ => false
def kP2 (d : D) : Bool := kP d && match d with
  | .tup ds => ds.all fun a => kP a && match a with
    | .tup bs => bs.all kP
    | _ => true
  | _ => true
theorem ev_row_any (d : D) (n : Nat) (h : kP2 d = true) (hn : n ≤ 1000) (S : List Ins) : cf_is_row [d, .int n] S = .ok (.va (.bl (rowB n d))) ⟨[], S⟩ := by
  unfold kP2 at h
  rw [Bool.and_eq_true] at h
  obtain ⟨h, hb⟩ := h
  by_cases t : isTp d = true
  · cases d with
    | tup ds =>
      simp only [List.all_eq_true, Bool.and_eq_true] at hb
      by_cases q : ds.length = n
      · subst q
        have lc := lc_mapB (own := [2]) (mg := cg_is_row1) (me := ce_is_row1) (st0 := ⟨[.va (.tup ds), .va (.int ds.length), .un], S⟩)
          id (fun d => D.bl (isFr d)) (fun y => [.va (.tup ds), .va (.int ds.length), .va y]) rfl ds (fun y hm => by
            obtain ⟨k1, k2⟩ := hb y hm
            refine ⟨rfl, rfl, .va (.bl (isFr y)), ?_, rfl⟩
            have e := ev_isfr_any y k1 (fun bs e a ha => by subst e; simpa using (List.all_eq_true.mp k2) a ha) S
            simp only [ce_is_row1, e, e_mSeq, e_mIfS, e_mT, e_mBin, e_mUn, e_mNm, e_mNv, e_mF, e_mC, e_mRet, e_mSet, e_mSetIx, e_mApp, e_mExpr, e_mCB, e_mHcons, e_mHnil, e_mAcons, e_mAnil, e_mTup, e_mLst, e_mNx, e_mRetN, e_mIsN, e_mIsi, e_mTru, e_mAnd, e_mOr, e_mNot, e_mV, e_mAndV, e_mOrV, e_mNotV, e_mChain, e_mPar, e_mAsg, e_mFor, e_mItems, e_mRng1, e_mRng2, e_mEnum, e_mRaise, e_mCall, e_mAtt, e_mSetAtt, e_mMeth, e_mAnil0, e_mTry, e_mWh, e_mLc, e_mYes, e_mStar1, e_mPub, e_mAppO, e_mMt, e_mAstar, e_mSl, e_mPart, e_mNoPart, e_mBrk, e_mIf, e_mIx, e_mgName, e_mgTup, e_mgNil, e_mgCons, mDef, mDefV, mDefC, mCallAt, Mi.R.ne,
  Mi.bnd_ok, Mi.bnd_er, Mi.bnd_no, o_ok, o_er, o_no, ne_ok, ne_er, ne_no, Hd.at, rsv, opt, fin, ent, atAll, ownAt, gLt_ii, gLe_ii, gGt_ii, gGe_ii, gAdd, Mi.gSub, gLen, gNeg, gIx, atI_0, atI_1, gEq_int, gNe_int, Sl.d, kdOf, ansT, kI, kB, kT, kL, kS, insAt, tabA, tabS, tabM, List.getD_cons_zero, List.getD_cons_succ, truD, Option.bind_some, Option.bind_none, Option.map_some, Option.map_none,
  List.map_cons, List.map_nil, List.length_cons, List.length_nil, List.replicate_succ, List.replicate_zero, List.cons_append, List.nil_append, List.append_nil, List.getElem?_cons_zero, List.getElem?_cons_succ, List.set_cons_zero, List.set_cons_succ, Nat.reduceAdd, Nat.reduceSub, Nat.reduceLT, Nat.reduceEqDiff, Nat.reduceLeDiff, Nat.zero_add, natLit, le_LIM, lt_LIM, List.take_zero, List.drop_zero, List.take_succ_cons, List.drop_succ_cons, Nat.zero_le, true_and, and_true, and_self, Nat.reduceLeDiff, Int.reduceEq, Int.reduceLT, Int.reduceLE, Int.reduceAdd, Int.reduceSub, Int.reduceMul, Int.reduceNeg, Int.reduceToNat, eq_self_iff_true, reduceIte, if_true, if_false, ite_true, ite_false, Bool.false_eq_true, Bool.not_true, Bool.not_false, Bool.and_true, Bool.true_and, Bool.and_false, Bool.false_and, Bool.or_true, Bool.true_or, decide_true, decide_false, decide_eq_true_eq])
        rw [List.map_id] at lc
        have b1 := blsD_map isFr ds
        have l1 : ds.length ≤ LIM := Nat.le_trans hn (by decide)
        simp only [cf_is_row, m_is_row]
        simp only [wipeS, rst, vaOf, l1, lc, b1, gAll, rowB, e_mSeq, e_mIfS, e_mT, e_mBin, e_mUn, e_mNm, e_mNv, e_mF, e_mC, e_mRet, e_mSet, e_mSetIx, e_mApp, e_mExpr, e_mCB, e_mHcons, e_mHnil, e_mAcons, e_mAnil, e_mTup, e_mLst, e_mNx, e_mRetN, e_mIsN, e_mIsi, e_mTru, e_mAnd, e_mOr, e_mNot, e_mV, e_mAndV, e_mOrV, e_mNotV, e_mChain, e_mPar, e_mAsg, e_mFor, e_mItems, e_mRng1, e_mRng2, e_mEnum, e_mRaise, e_mCall, e_mAtt, e_mSetAtt, e_mMeth, e_mAnil0, e_mTry, e_mWh, e_mLc, e_mYes, e_mStar1, e_mPub, e_mAppO, e_mMt, e_mAstar, e_mSl, e_mPart, e_mNoPart, e_mBrk, e_mIf, e_mIx, e_mgName, e_mgTup, e_mgNil, e_mgCons, mDef, mDefV, mDefC, mCallAt, Mi.R.ne,
  Mi.bnd_ok, Mi.bnd_er, Mi.bnd_no, o_ok, o_er, o_no, ne_ok, ne_er, ne_no, Hd.at, rsv, opt, fin, ent, atAll, ownAt, gLt_ii, gLe_ii, gGt_ii, gGe_ii, gAdd, Mi.gSub, gLen, gNeg, gIx, atI_0, atI_1, gEq_int, gNe_int, Sl.d, kdOf, ansT, kI, kB, kT, kL, kS, insAt, tabA, tabS, tabM, List.getD_cons_zero, List.getD_cons_succ, truD, Option.bind_some, Option.bind_none, Option.map_some, Option.map_none,
  List.map_cons, List.map_nil, List.length_cons, List.length_nil, List.replicate_succ, List.replicate_zero, List.cons_append, List.nil_append, List.append_nil, List.getElem?_cons_zero, List.getElem?_cons_succ, List.set_cons_zero, List.set_cons_succ, Nat.reduceAdd, Nat.reduceSub, Nat.reduceLT, Nat.reduceEqDiff, Nat.reduceLeDiff, Nat.zero_add, natLit, le_LIM, lt_LIM, List.take_zero, List.drop_zero, List.take_succ_cons, List.drop_succ_cons, Nat.zero_le, true_and, and_true, and_self, Nat.reduceLeDiff, Int.reduceEq, Int.reduceLT, Int.reduceLE, Int.reduceAdd, Int.reduceSub, Int.reduceMul, Int.reduceNeg, Int.reduceToNat, eq_self_iff_true, reduceIte, if_true, if_false, ite_true, ite_false, Bool.false_eq_true, Bool.not_true, Bool.not_false, Bool.and_true, Bool.true_and, Bool.and_false, Bool.false_and, Bool.or_true, Bool.true_or, decide_true, decide_false, decide_eq_true_eq]
        rw [List.all_map]; rfl
      · have e : decide ((ds.length : Int) = (n : Int)) = false := decide_eq_false (by omega)
        simp only [cf_is_row, m_is_row]
        simp only [e, rowB, q, e_mSeq, e_mIfS, e_mT, e_mBin, e_mUn, e_mNm, e_mNv, e_mF, e_mC, e_mRet, e_mSet, e_mSetIx, e_mApp, e_mExpr, e_mCB, e_mHcons, e_mHnil, e_mAcons, e_mAnil, e_mTup, e_mLst, e_mNx, e_mRetN, e_mIsN, e_mIsi, e_mTru, e_mAnd, e_mOr, e_mNot, e_mV, e_mAndV, e_mOrV, e_mNotV, e_mChain, e_mPar, e_mAsg, e_mFor, e_mItems, e_mRng1, e_mRng2, e_mEnum, e_mRaise, e_mCall, e_mAtt, e_mSetAtt, e_mMeth, e_mAnil0, e_mTry, e_mWh, e_mLc, e_mYes, e_mStar1, e_mPub, e_mAppO, e_mMt, e_mAstar, e_mSl, e_mPart, e_mNoPart, e_mBrk, e_mIf, e_mIx, e_mgName, e_mgTup, e_mgNil, e_mgCons, mDef, mDefV, mDefC, mCallAt, Mi.R.ne,
  Mi.bnd_ok, Mi.bnd_er, Mi.bnd_no, o_ok, o_er, o_no, ne_ok, ne_er, ne_no, Hd.at, rsv, opt, fin, ent, atAll, ownAt, gLt_ii, gLe_ii, gGt_ii, gGe_ii, gAdd, Mi.gSub, gLen, gNeg, gIx, atI_0, atI_1, gEq_int, gNe_int, Sl.d, kdOf, ansT, kI, kB, kT, kL, kS, insAt, tabA, tabS, tabM, List.getD_cons_zero, List.getD_cons_succ, truD, Option.bind_some, Option.bind_none, Option.map_some, Option.map_none,
  List.map_cons, List.map_nil, List.length_cons, List.length_nil, List.replicate_succ, List.replicate_zero, List.cons_append, List.nil_append, List.append_nil, List.getElem?_cons_zero, List.getElem?_cons_succ, List.set_cons_zero, List.set_cons_succ, Nat.reduceAdd, Nat.reduceSub, Nat.reduceLT, Nat.reduceEqDiff, Nat.reduceLeDiff, Nat.zero_add, natLit, le_LIM, lt_LIM, List.take_zero, List.drop_zero, List.take_succ_cons, List.drop_succ_cons, Nat.zero_le, true_and, and_true, and_self, Nat.reduceLeDiff, Int.reduceEq, Int.reduceLT, Int.reduceLE, Int.reduceAdd, Int.reduceSub, Int.reduceMul, Int.reduceNeg, Int.reduceToNat, eq_self_iff_true, reduceIte, if_true, if_false, ite_true, ite_false, Bool.false_eq_true, Bool.not_true, Bool.not_false, Bool.and_true, Bool.true_and, Bool.and_false, Bool.false_and, Bool.or_true, Bool.true_or, decide_true, decide_false, decide_eq_true_eq]
    | _ => simp [isTp] at t
  · have t : isTp d = false := by simpa using t
    simp only [cf_is_row, m_is_row]
    cases d <;> first | (simp [kP] at h; done) | (simp [isTp] at t; done) | simp only [rowB, e_mSeq, e_mIfS, e_mT, e_mBin, e_mUn, e_mNm, e_mNv, e_mF, e_mC, e_mRet, e_mSet, e_mSetIx, e_mApp, e_mExpr, e_mCB, e_mHcons, e_mHnil, e_mAcons, e_mAnil, e_mTup, e_mLst, e_mNx, e_mRetN, e_mIsN, e_mIsi, e_mTru, e_mAnd, e_mOr, e_mNot, e_mV, e_mAndV, e_mOrV, e_mNotV, e_mChain, e_mPar, e_mAsg, e_mFor, e_mItems, e_mRng1, e_mRng2, e_mEnum, e_mRaise, e_mCall, e_mAtt, e_mSetAtt, e_mMeth, e_mAnil0, e_mTry, e_mWh, e_mLc, e_mYes, e_mStar1, e_mPub, e_mAppO, e_mMt, e_mAstar, e_mSl, e_mPart, e_mNoPart, e_mBrk, e_mIf, e_mIx, e_mgName, e_mgTup, e_mgNil, e_mgCons, mDef, mDefV, mDefC, mCallAt, Mi.R.ne,
  Mi.bnd_ok, Mi.bnd_er, Mi.bnd_no, o_ok, o_er, o_no, ne_ok, ne_er, ne_no, Hd.at, rsv, opt, fin, ent, atAll, ownAt, gLt_ii, gLe_ii, gGt_ii, gGe_ii, gAdd, Mi.gSub, gLen, gNeg, gIx, atI_0, atI_1, gEq_int, gNe_int, Sl.d, kdOf, ansT, kI, kB, kT, kL, kS, insAt, tabA, tabS, tabM, List.getD_cons_zero, List.getD_cons_succ, truD, Option.bind_some, Option.bind_none, Option.map_some, Option.map_none,
  List.map_cons, List.map_nil, List.length_cons, List.length_nil, List.replicate_succ, List.replicate_zero, List.cons_append, List.nil_append, List.append_nil, List.getElem?_cons_zero, List.getElem?_cons_succ, List.set_cons_zero, List.set_cons_succ, Nat.reduceAdd, Nat.reduceSub, Nat.reduceLT, Nat.reduceEqDiff, Nat.reduceLeDiff, Nat.zero_add, natLit, le_LIM, lt_LIM, List.take_zero, List.drop_zero, List.take_succ_cons, List.drop_succ_cons, Nat.zero_le, true_and, and_true, and_self, Nat.reduceLeDiff, Int.reduceEq, Int.reduceLT, Int.reduceLE, Int.reduceAdd, Int.reduceSub, Int.reduceMul, Int.reduceNeg, Int.reduceToNat, eq_self_iff_true, reduceIte, if_true, if_false, ite_true, ite_false, Bool.false_eq_true, Bool.not_true, Bool.not_false, Bool.and_true, Bool.true_and, Bool.and_false, Bool.false_and, Bool.or_true, Bool.true_or, decide_true, decide_false, decide_eq_true_eq]
end Lw

namespace Lw
open PySem Mi
theorem cut_take {α : Type} (xs : List α) (k : Nat) : cutD xs none (some (k : Int)) = xs.take k := by
  unfold cutD
  rw [HT.sIx_none, HT.sIx_nat, List.drop_zero, Nat.sub_zero]
  by_cases h : k ≤ xs.length
  · rw [Nat.min_eq_left h]
  · rw [Nat.min_eq_right (by omega), List.take_length, List.take_of_length_le (by omega)]
theorem cut_drop {α : Type} (xs : List α) (k : Nat) : cutD xs (some (k : Int)) none = xs.drop k := by
  unfold cutD
  rw [HT.sIx_none, HT.sIx_nat]
  by_cases h : k ≤ xs.length
  · rw [Nat.min_eq_left h, List.take_of_length_le]
    rw [List.length_drop]; omega
  · rw [Nat.min_eq_right (by omega), Nat.sub_self, List.take_zero, List.drop_of_length_le (by omega)]
theorem cut_drop1 {α : Type} (xs : List α) (k : Nat) : cutD xs (some ((k : Int) + 1)) none = xs.drop (k + 1) := cut_drop xs (k + 1)
theorem cut_1 {α : Type} (xs : List α) : cutD xs (some 1) none = xs.drop 1 := cut_drop xs 1
/-- a tuple with another entry -/
def putT (xs : List D) (k : Nat) (e : D) : List D := xs.take k ++ [e] ++ xs.drop (k + 1)
theorem putT_len {xs : List D} {k : Nat} (e : D) (h : k < xs.length) : (putT xs k e).length = xs.length := by
  unfold putT
  rw [List.length_append, List.length_append, List.length_take, List.length_drop]; simp; omega
theorem putT_mem {xs : List D} {k : Nat} {e d : D} (h : d ∈ putT xs k e) : d = e ∨ d ∈ xs := by
  unfold putT at h
  rcases List.mem_append.mp h with h | h
  · rcases List.mem_append.mp h with h | h
    · exact .inr (List.mem_of_mem_take h)
    · exact .inl (List.mem_singleton.mp h)
  · exact .inr (List.mem_of_mem_drop h)
theorem putT_has (xs : List D) (k : Nat) (e : D) : e ∈ putT xs k e := by simp [putT]
theorem rowB_put {xs : List D} {k n : Nat} {e : D} (h : isFr e = false) : rowB n (.tup (putT xs k e)) = false := by
  unfold rowB
  rw [Bool.and_eq_false_iff]
  right
  rw [List.all_eq_false]
  exact ⟨e, putT_has xs k e, by simp [h]⟩
def kP3 (a : D) : Bool := kP a && match a with
    | .tup bs => bs.all kP
    | _ => true
theorem kP2_put {xs : List D} {k : Nat} {e : D} (h : ∀ d ∈ xs, kP3 d = true) (he : kP3 e = true) : kP2 (.tup (putT xs k e)) = true := by
  unfold kP2
  rw [Bool.and_eq_true]
  refine ⟨rfl, ?_⟩
  rw [List.all_eq_true]
  intro d m
  rcases putT_mem m with rfl | m
  · exact he
  · exact h d m
theorem kP2_tup {xs : List D} (h : ∀ d ∈ xs, kP3 d = true) : kP2 (.tup xs) = true := by
  unfold kP2
  rw [Bool.and_eq_true]
  refine ⟨rfl, ?_⟩
  rw [List.all_eq_true]
  exact h
theorem rowB_len {xs : List D} {n : Nat} (h : xs.length ≠ n) : rowB n (.tup xs) = false := by
  show (decide (xs.length = n) && xs.all isFr) = false
  rw [decide_eq_false h, Bool.false_and]
end Lw

set_option exponentiation.threshold 100000
namespace Lw
open PySem Mi
/-- the amounts of the law -/
structure AmOk (n : Nat) (am : List Fr) : Prop where
  len : am.length = n
  ok : ∀ y ∈ am, Int.gcd y.1 y.2 = 1 ∧ 1 ≤ y.2 ∧ y.2 ≤ 6 ∧ y.1.natAbs ≤ 40
theorem AmOk.fr {n : Nat} {am : List Fr} (h : AmOk n am) : ∀ y ∈ am, isFr y.d = true := fun y m => by
  obtain ⟨h1, h2, h3, h4⟩ := h.ok y m
  unfold Fr.d isFr
  simp only [decide_eq_true h1, decide_eq_true h2, Bool.and_self]
theorem AmOk.small {n : Nat} {am : List Fr} (h : AmOk n am) : ∀ y ∈ am, y.le 40 := fun y m => by
  obtain ⟨h1, h2, h3, h4⟩ := h.ok y m
  refine ⟨?_, ?_, ?_⟩
  · exact Nat.le_trans h4 (by decide)
  · exact Nat.le_trans (show y.2.natAbs ≤ 6 by omega) (by decide)
  · omega
theorem AmOk.at {n : Nat} {am : List Fr} (h : AmOk n am) {p : Nat} (hp : p < n) : am.getD p (0, 1) ∈ am := getD_mem (by rw [h.len]; exact hp)
def szA (n : Nat) : List Int := List.replicate n 81 ++ List.replicate n 6
theorem szA_D (n : Nat) : (szA n).map D.int = List.replicate n (D.int 81) ++ List.replicate n (D.int 6) := by simp [szA]
theorem szA_ok (n : Nat) : ∀ s ∈ szA n, 0 < s ∧ s < 2 ^ 30 := by
  intro s m
  unfold szA at m
  rcases List.mem_append.mp m with m | m <;> (rw [List.eq_of_mem_replicate m]; decide)
def amts (ds : List Int) (n : Nat) : List Fr := (List.range n).map fun i => lo (ds.getD i 0 - 40) (1 + ds.getD (n + i) 0)
theorem dr_at {ss ds : List Int} (h : Dr ss ds) {i : Nat} {s : Int} (e : ss[i]? = some s) : 0 ≤ ds.getD i 0 ∧ ds.getD i 0 < s := by
  obtain ⟨d, h1, h2, h3⟩ := h.at e
  rw [List.getD_eq_getElem?_getD, h1]
  exact ⟨h2, h3⟩
theorem szA_1 {n i : Nat} (h : i < n) : (szA n)[i]? = some 81 := by
  unfold szA
  rw [List.getElem?_append_left (by simpa using h), List.getElem?_replicate, if_pos h]
theorem szA_2 {n i : Nat} (h : i < n) : (szA n)[n + i]? = some 6 := by
  unfold szA
  rw [List.getElem?_append_right (by simp), List.length_replicate, Nat.add_sub_cancel_left, List.getElem?_replicate, if_pos h]
theorem amts_ok {n : Nat} {ds : List Int} (h : Dr (szA n) ds) : AmOk n (amts ds n) := by
  refine ⟨by simp [amts], fun y m => ?_⟩
  obtain ⟨i, hi, rfl⟩ := List.mem_map.mp m
  have hi := List.mem_range.mp hi
  obtain ⟨a1, a2⟩ := dr_at h (szA_1 hi)
  obtain ⟨b1, b2⟩ := dr_at h (szA_2 hi)
  generalize ds.getD i 0 = a at *
  generalize ds.getD (n + i) 0 = b at *
  obtain ⟨g, g0, e1, e2, p1, c⟩ := lo_ex (t := a - 40) (b := 1 + b) (by omega)
  refine ⟨c, p1, ?_, ?_⟩
  · have : (lo (a - 40) (1 + b)).2.natAbs ≤ (1 + b).natAbs := Wr.frB_le (by omega)
    omega
  · have : (lo (a - 40) (1 + b)).1.natAbs ≤ (a - 40).natAbs := Wr.frT_le (by omega)
    omega
theorem div60 {b : Int} (h1 : 1 ≤ b) (h2 : b ≤ 6) : 60 / b * b = 60 := by
  have : b = 1 ∨ b = 2 ∨ b = 3 ∨ b = 4 ∨ b = 5 ∨ b = 6 := by omega
  rcases this with rfl | rfl | rfl | rfl | rfl | rfl <;> decide
/-- the top that is due -/
def topA (ws : List Int) (am : List Fr) (ps : List Nat) : Int := (ps.map fun p => ws.getD p 0 * (am.getD p (0, 1)).1 * (60 / (am.getD p (0, 1)).2)).sum
theorem due_eq {n : Nat} {ls : List Nat} {ws : List Int} {am : List Fr} (r : RowOk n ls ws) (h : AmOk n am) {ps : List Nat} (hm : ps ∈ partsP ls) :
    totF (prods (oddsF ls ws) am ps) = lo (topA ws am ps) (60 * wsum ws ps) := by
  obtain ⟨l, rfl⟩ := mem_partsP hm
  have h0 := parts_ne r _ hm
  have hW := (wsum_part_pos r h0).1
  have e : prods (oddsF ls ws) am (idxs 0 ls l) = (idxs 0 ls l).map fun p => lo (ws.getD p 0 * (am.getD p (0, 1)).1 * (60 / (am.getD p (0, 1)).2)) (60 * wsum ws (idxs 0 ls l)) := by
    unfold prods
    apply List.map_congr_left
    intro p m
    have hp : p < n := by rw [← r.ll]; exact idxs_lt m
    obtain ⟨g, h1, h2, h3⟩ := h.ok _ (h.at hp)
    rw [oddsF_at r hp, part_of_mem m]
    have e1 : am.getD p (0, 1) = lo (am.getD p (0, 1)).1 (am.getD p (0, 1)).2 := (lo_self (by omega) g).symm
    generalize am.getD p (0, 1) = y at *
    rw [e1, prodF2 hW (by omega), ← e1]
    refine lo_eq (Int.mul_pos hW (by omega)) (by omega) ?_
    have d := div60 h1 h2
    generalize 60 / y.2 = q at *
    calc ws.getD p 0 * y.1 * (60 * wsum ws (idxs 0 ls l)) = ws.getD p 0 * y.1 * ((q * y.2) * wsum ws (idxs 0 ls l)) := by rw [d]
      _ = ws.getD p 0 * y.1 * q * (wsum ws (idxs 0 ls l) * y.2) := by ac_rfl
  rw [e, totF_lo _ (by omega)]
  rfl
end Lw

set_option exponentiation.threshold 100000
namespace Lw
open PySem Mi

theorem lc_due1 (S : List Ins) {n : Nat} {ls : List Nat} {ws : List Int} {am : List Fr} (r : RowOk n ls ws) (h : AmOk n am) (x y : Sl) (ps : List Nat) (hp : ∀ p ∈ ps, p < n) :
    lcLoop [5] cg__law_due1 mYes ce__law_due1 (ps.map natD) ⟨[.va (rowD ls ws), .va (frsD am), x, .va (tupD ps), y, .un], S⟩ =
    .ok ((ps.map fun p => ws.getD p 0 * (am.getD p (0, 1)).1 * (60 / (am.getD p (0, 1)).2)).map D.int) ⟨[.va (rowD ls ws), .va (frsD am), x, .va (tupD ps), y, .un], S⟩ := by
  rw [List.map_map]
  refine lc_mapB natD (fun p => D.int (ws.getD p 0 * (am.getD p (0, 1)).1 * (60 / (am.getD p (0, 1)).2))) (fun p => [.va (rowD ls ws), .va (frsD am), x, .va (tupD ps), y, .va (natD p)]) rfl ps fun p m => ?_
  have hp := hp p m
  have ix := ix_int (ws := ws) (p := p) (by rw [r.lw]; exact hp)
  rw [Int.zero_add] at ix
  have iy := ix_frs (vs := am) (p := p) (by rw [h.len]; exact hp)
  obtain ⟨g, h1, h2, h3⟩ := h.ok _ (h.at hp)
  refine ⟨rfl, rfl, .va (.int (ws.getD p 0 * (am.getD p (0, 1)).1 * (60 / (am.getD p (0, 1)).2))), ?_, rfl⟩
  have m1 : (am.getD p (0, 1)).1.natAbs < 2 ^ 60 := Nat.lt_of_le_of_lt h3 (by decide)
  have m2 : (60 / (am.getD p (0, 1)).2).natAbs < 2 ^ 60 := Nat.lt_of_le_of_lt (Wr.natAbs_ediv_le 60 (by omega)) (by decide)
  have m3 : (0 : Int) < (am.getD p (0, 1)).2 := by omega
  have m4 : (am.getD p (0, 1)).2.natAbs < 2 ^ 8000 := Nat.lt_of_le_of_lt (show (am.getD p (0, 1)).2.natAbs ≤ 6 by omega) (Nat.lt_of_lt_of_le (show 6 < 2 ^ 3 by decide) (Nat.pow_le_pow_right (by decide) (by decide)))
  generalize am.getD p (0, 1) = z at *
  simp only [Fr.d] at iy
  simp only [ce__law_due1, rowD, wsD, frsD, natD, ix, iy, gMul_s m1, gMul_s m2, gDiv_ok m3 m4, e_mSeq, e_mIfS, e_mT, e_mBin, e_mUn, e_mNm, e_mNv, e_mF, e_mC, e_mRet, e_mSet, e_mSetIx, e_mApp, e_mExpr, e_mCB, e_mHcons, e_mHnil, e_mAcons, e_mAnil, e_mTup, e_mLst, e_mNx, e_mRetN, e_mIsN, e_mIsi, e_mTru, e_mAnd, e_mOr, e_mNot, e_mV, e_mAndV, e_mOrV, e_mNotV, e_mChain, e_mPar, e_mAsg, e_mFor, e_mItems, e_mRng1, e_mRng2, e_mEnum, e_mRaise, e_mCall, e_mAtt, e_mSetAtt, e_mMeth, e_mAnil0, e_mTry, e_mWh, e_mLc, e_mYes, e_mStar1, e_mPub, e_mAppO, e_mMt, e_mAstar, e_mSl, e_mPart, e_mNoPart, e_mBrk, e_mIf, e_mIx, e_mgName, e_mgTup, e_mgNil, e_mgCons, mDef, mDefV, mDefC, mCallAt, Mi.R.ne,
  Mi.bnd_ok, Mi.bnd_er, Mi.bnd_no, o_ok, o_er, o_no, ne_ok, ne_er, ne_no, Hd.at, rsv, opt, fin, ent, atAll, ownAt, gLt_ii, gLe_ii, gGt_ii, gGe_ii, gAdd, Mi.gSub, gLen, gNeg, gIx, atI_0, atI_1, gEq_int, gNe_int, Sl.d, kdOf, ansT, kI, kB, kT, kL, kS, insAt, tabA, tabS, tabM, List.getD_cons_zero, List.getD_cons_succ, truD, Option.bind_some, Option.bind_none, Option.map_some, Option.map_none,
  List.map_cons, List.map_nil, List.length_cons, List.length_nil, List.replicate_succ, List.replicate_zero, List.cons_append, List.nil_append, List.append_nil, List.getElem?_cons_zero, List.getElem?_cons_succ, List.set_cons_zero, List.set_cons_succ, Nat.reduceAdd, Nat.reduceSub, Nat.reduceLT, Nat.reduceEqDiff, Nat.reduceLeDiff, Nat.zero_add, natLit, le_LIM, lt_LIM, List.take_zero, List.drop_zero, List.take_succ_cons, List.drop_succ_cons, Nat.zero_le, true_and, and_true, and_self, Nat.reduceLeDiff, Int.reduceEq, Int.reduceLT, Int.reduceLE, Int.reduceAdd, Int.reduceSub, Int.reduceMul, Int.reduceNeg, Int.reduceToNat, eq_self_iff_true, reduceIte, if_true, if_false, ite_true, ite_false, Bool.false_eq_true, Bool.not_true, Bool.not_false, Bool.and_true, Bool.true_and, Bool.and_false, Bool.false_and, Bool.or_true, Bool.true_or, decide_true, decide_false, decide_eq_true_eq]
theorem lc_due2 (S : List Ins) {n : Nat} {ls : List Nat} {ws : List Int} {am : List Fr} (r : RowOk n ls ws) (x y : Sl) (ps : List Nat) (hp : ∀ p ∈ ps, p < n) :
    lcLoop [5] cg__law_due2 mYes ce__law_due2 (ps.map natD) ⟨[.va (rowD ls ws), .va (frsD am), x, .va (tupD ps), y, .un], S⟩ =
    .ok ((ps.map fun p => ws.getD p 0).map D.int) ⟨[.va (rowD ls ws), .va (frsD am), x, .va (tupD ps), y, .un], S⟩ := by
  rw [List.map_map]
  refine lc_mapB natD (fun p => D.int (ws.getD p 0)) (fun p => [.va (rowD ls ws), .va (frsD am), x, .va (tupD ps), y, .va (natD p)]) rfl ps fun p m => ?_
  have ix := ix_int (ws := ws) (p := p) (by rw [r.lw]; exact hp p m)
  rw [Int.zero_add] at ix
  refine ⟨rfl, rfl, .va (.int (ws.getD p 0)), ?_, rfl⟩
  simp only [ce__law_due2, rowD, wsD, natD, ix, e_mSeq, e_mIfS, e_mT, e_mBin, e_mUn, e_mNm, e_mNv, e_mF, e_mC, e_mRet, e_mSet, e_mSetIx, e_mApp, e_mExpr, e_mCB, e_mHcons, e_mHnil, e_mAcons, e_mAnil, e_mTup, e_mLst, e_mNx, e_mRetN, e_mIsN, e_mIsi, e_mTru, e_mAnd, e_mOr, e_mNot, e_mV, e_mAndV, e_mOrV, e_mNotV, e_mChain, e_mPar, e_mAsg, e_mFor, e_mItems, e_mRng1, e_mRng2, e_mEnum, e_mRaise, e_mCall, e_mAtt, e_mSetAtt, e_mMeth, e_mAnil0, e_mTry, e_mWh, e_mLc, e_mYes, e_mStar1, e_mPub, e_mAppO, e_mMt, e_mAstar, e_mSl, e_mPart, e_mNoPart, e_mBrk, e_mIf, e_mIx, e_mgName, e_mgTup, e_mgNil, e_mgCons, mDef, mDefV, mDefC, mCallAt, Mi.R.ne,
  Mi.bnd_ok, Mi.bnd_er, Mi.bnd_no, o_ok, o_er, o_no, ne_ok, ne_er, ne_no, Hd.at, rsv, opt, fin, ent, atAll, ownAt, gLt_ii, gLe_ii, gGt_ii, gGe_ii, gAdd, Mi.gSub, gLen, gNeg, gIx, atI_0, atI_1, gEq_int, gNe_int, Sl.d, kdOf, ansT, kI, kB, kT, kL, kS, insAt, tabA, tabS, tabM, List.getD_cons_zero, List.getD_cons_succ, truD, Option.bind_some, Option.bind_none, Option.map_some, Option.map_none,
  List.map_cons, List.map_nil, List.length_cons, List.length_nil, List.replicate_succ, List.replicate_zero, List.cons_append, List.nil_append, List.append_nil, List.getElem?_cons_zero, List.getElem?_cons_succ, List.set_cons_zero, List.set_cons_succ, Nat.reduceAdd, Nat.reduceSub, Nat.reduceLT, Nat.reduceEqDiff, Nat.reduceLeDiff, Nat.zero_add, natLit, le_LIM, lt_LIM, List.take_zero, List.drop_zero, List.take_succ_cons, List.drop_succ_cons, Nat.zero_le, true_and, and_true, and_self, Nat.reduceLeDiff, Int.reduceEq, Int.reduceLT, Int.reduceLE, Int.reduceAdd, Int.reduceSub, Int.reduceMul, Int.reduceNeg, Int.reduceToNat, eq_self_iff_true, reduceIte, if_true, if_false, ite_true, ite_false, Bool.false_eq_true, Bool.not_true, Bool.not_false, Bool.and_true, Bool.true_and, Bool.and_false, Bool.false_and, Bool.or_true, Bool.true_or, decide_true, decide_false, decide_eq_true_eq]
theorem forL_due (S : List Ins) {n : Nat} {ls : List Nat} {ws : List Int} {am : List Fr} (r : RowOk n ls ws) (h : AmOk n am) : ∀ (pss : List (List Nat)) (acc : List D) (x y : Sl), (∀ ps ∈ pss, ps ∈ partsP ls) → (∀ ps ∈ pss, ps ≠ []) → acc.length + pss.length < 1000 →
    ∃ x' y', forL fg__law_due1 fb__law_due1 (pss.map tupD) ⟨[.va (rowD ls ws), .va (frsD am), .ow acc, x, y, .un], S⟩ =
      .nx ⟨[.va (rowD ls ws), .va (frsD am), .ow (acc ++ pss.map fun ps => (lo (topA ws am ps) (60 * wsum ws ps)).d), x', y', .un], S⟩
  | [], acc, x, y, _, _, _ => ⟨x, y, by simp [forL]⟩
  | ps :: pss, acc, x, y, hm, hn, hl => by
    obtain ⟨l, el⟩ := mem_partsP (hm ps List.mem_cons_self)
    have h0 := hn ps List.mem_cons_self
    have hp : ∀ p ∈ ps, p < n := fun p m => by rw [← r.ll]; rw [el] at m; exact idxs_lt m
    have hW := wsum_part_pos r (l := l) (by rw [← el]; exact h0)
    rw [← el] at hW
    obtain ⟨x', y', e⟩ := forL_due S r h pss (acc ++ [(lo (topA ws am ps) (60 * wsum ws ps)).d]) (.va (tupD ps)) (.va (.int (topA ws am ps))) (fun q m => hm q (List.mem_cons_of_mem _ m)) (fun q m => hn q (List.mem_cons_of_mem _ m)) (by simp at hl ⊢; omega)
    refine ⟨x', y', ?_⟩
    have lc1 := fun y => lc_due1 S r h (.ow acc) y ps hp
    have lc2 := fun y => lc_due2 S (am := am) r (.ow acc) y ps hp
    have g1 := gSum_ints (ps.map fun p => ws.getD p 0 * (am.getD p (0, 1)).1 * (60 / (am.getD p (0, 1)).2))
    have g2 := gSum_ints (ps.map fun p => ws.getD p 0)
    rw [show (ps.map fun p => ws.getD p 0).sum = wsum ws ps from rfl] at g2
    rw [show (ps.map fun p => ws.getD p 0 * (am.getD p (0, 1)).1 * (60 / (am.getD p (0, 1)).2)).sum = topA ws am ps from rfl] at g1
    have ef := ev_lfrac (topA ws am ps) (60 * wsum ws ps) (by omega) (Nat.lt_of_lt_of_le (show (60 * wsum ws ps).natAbs < 2 ^ 20 by omega) (Nat.pow_le_pow_right (by decide) (by decide))) S
    have l1 : acc.length < LIM := Nat.lt_of_lt_of_le (show acc.length < 1000 by simp at hl; omega) (by decide)
    have l2 : ps.length ≤ LIM := by
      have := idxs_len ls 0 l
      rw [← el] at this
      have := r.n2; have := r.ll
      exact Nat.le_trans (show ps.length ≤ 12 by omega) (by decide)
    have m1 : (wsum ws ps).natAbs < 2 ^ 60 := Nat.lt_of_le_of_lt (show _ ≤ 2 ^ 20 by omega) (by decide)
    rw [List.append_assoc] at e
    rw [List.map_cons, List.map_cons, forL]
    simp only [tupD, Fr.d, lo] at *
    simp only [fg__law_due1, fb__law_due1, List.length_map, l2, wipeS, rst, vaOf, lc1, lc2, g1, g2, gMul_s m1, ef, l1, e_mSeq, e_mIfS, e_mT, e_mBin, e_mUn, e_mNm, e_mNv, e_mF, e_mC, e_mRet, e_mSet, e_mSetIx, e_mApp, e_mExpr, e_mCB, e_mHcons, e_mHnil, e_mAcons, e_mAnil, e_mTup, e_mLst, e_mNx, e_mRetN, e_mIsN, e_mIsi, e_mTru, e_mAnd, e_mOr, e_mNot, e_mV, e_mAndV, e_mOrV, e_mNotV, e_mChain, e_mPar, e_mAsg, e_mFor, e_mItems, e_mRng1, e_mRng2, e_mEnum, e_mRaise, e_mCall, e_mAtt, e_mSetAtt, e_mMeth, e_mAnil0, e_mTry, e_mWh, e_mLc, e_mYes, e_mStar1, e_mPub, e_mAppO, e_mMt, e_mAstar, e_mSl, e_mPart, e_mNoPart, e_mBrk, e_mIf, e_mIx, e_mgName, e_mgTup, e_mgNil, e_mgCons, mDef, mDefV, mDefC, mCallAt, Mi.R.ne,
  Mi.bnd_ok, Mi.bnd_er, Mi.bnd_no, o_ok, o_er, o_no, ne_ok, ne_er, ne_no, Hd.at, rsv, opt, fin, ent, atAll, ownAt, gLt_ii, gLe_ii, gGt_ii, gGe_ii, gAdd, Mi.gSub, gLen, gNeg, gIx, atI_0, atI_1, gEq_int, gNe_int, Sl.d, kdOf, ansT, kI, kB, kT, kL, kS, insAt, tabA, tabS, tabM, List.getD_cons_zero, List.getD_cons_succ, truD, Option.bind_some, Option.bind_none, Option.map_some, Option.map_none,
  List.map_cons, List.map_nil, List.length_cons, List.length_nil, List.replicate_succ, List.replicate_zero, List.cons_append, List.nil_append, List.append_nil, List.getElem?_cons_zero, List.getElem?_cons_succ, List.set_cons_zero, List.set_cons_succ, Nat.reduceAdd, Nat.reduceSub, Nat.reduceLT, Nat.reduceEqDiff, Nat.reduceLeDiff, Nat.zero_add, natLit, le_LIM, lt_LIM, List.take_zero, List.drop_zero, List.take_succ_cons, List.drop_succ_cons, Nat.zero_le, true_and, and_true, and_self, Nat.reduceLeDiff, Int.reduceEq, Int.reduceLT, Int.reduceLE, Int.reduceAdd, Int.reduceSub, Int.reduceMul, Int.reduceNeg, Int.reduceToNat, eq_self_iff_true, reduceIte, if_true, if_false, ite_true, ite_false, Bool.false_eq_true, Bool.not_true, Bool.not_false, Bool.and_true, Bool.true_and, Bool.and_false, Bool.false_and, Bool.or_true, Bool.true_or, decide_true, decide_false, decide_eq_true_eq]
    exact e
theorem ev_ldue (S : List Ins) {n : Nat} {ls : List Nat} {ws : List Int} {am : List Fr} (r : RowOk n ls ws) (h : AmOk n am) :
    cf__law_due [rowD ls ws, frsD am] S = .ok (.va (frsD ((partsP ls).map fun ps => lo (topA ws am ps) (60 * wsum ws ps)))) ⟨[], S⟩ := by
  have hn := r.n1; have h2 := r.n2; have hl := r.ll
  have ep := ev_lparts ls (by omega) (by omega) r.lb S
  obtain ⟨x', y', e⟩ := forL_due S r h (partsP ls) [] .un .un (fun _ m => m) (parts_ne r) (by rw [partsP_len]; have := manyP_lt r; simp; omega)
  rw [show (partsP ls).map (fun ps => (lo (topA ws am ps) (60 * wsum ws ps)).d) = ((partsP ls).map fun ps => lo (topA ws am ps) (60 * wsum ws ps)).map Fr.d by rw [List.map_map]; rfl] at e
  simp only [cf__law_due, m__law_due]
  simp only [rowD, partD, frsD, List.nil_append] at e ep ⊢
  simp only [ep, e, gTuple, e_mSeq, e_mIfS, e_mT, e_mBin, e_mUn, e_mNm, e_mNv, e_mF, e_mC, e_mRet, e_mSet, e_mSetIx, e_mApp, e_mExpr, e_mCB, e_mHcons, e_mHnil, e_mAcons, e_mAnil, e_mTup, e_mLst, e_mNx, e_mRetN, e_mIsN, e_mIsi, e_mTru, e_mAnd, e_mOr, e_mNot, e_mV, e_mAndV, e_mOrV, e_mNotV, e_mChain, e_mPar, e_mAsg, e_mFor, e_mItems, e_mRng1, e_mRng2, e_mEnum, e_mRaise, e_mCall, e_mAtt, e_mSetAtt, e_mMeth, e_mAnil0, e_mTry, e_mWh, e_mLc, e_mYes, e_mStar1, e_mPub, e_mAppO, e_mMt, e_mAstar, e_mSl, e_mPart, e_mNoPart, e_mBrk, e_mIf, e_mIx, e_mgName, e_mgTup, e_mgNil, e_mgCons, mDef, mDefV, mDefC, mCallAt, Mi.R.ne,
  Mi.bnd_ok, Mi.bnd_er, Mi.bnd_no, o_ok, o_er, o_no, ne_ok, ne_er, ne_no, Hd.at, rsv, opt, fin, ent, atAll, ownAt, gLt_ii, gLe_ii, gGt_ii, gGe_ii, gAdd, Mi.gSub, gLen, gNeg, gIx, atI_0, atI_1, gEq_int, gNe_int, Sl.d, kdOf, ansT, kI, kB, kT, kL, kS, insAt, tabA, tabS, tabM, List.getD_cons_zero, List.getD_cons_succ, truD, Option.bind_some, Option.bind_none, Option.map_some, Option.map_none,
  List.map_cons, List.map_nil, List.length_cons, List.length_nil, List.replicate_succ, List.replicate_zero, List.cons_append, List.nil_append, List.append_nil, List.getElem?_cons_zero, List.getElem?_cons_succ, List.set_cons_zero, List.set_cons_succ, Nat.reduceAdd, Nat.reduceSub, Nat.reduceLT, Nat.reduceEqDiff, Nat.reduceLeDiff, Nat.zero_add, natLit, le_LIM, lt_LIM, List.take_zero, List.drop_zero, List.take_succ_cons, List.drop_succ_cons, Nat.zero_le, true_and, and_true, and_self, Nat.reduceLeDiff, Int.reduceEq, Int.reduceLT, Int.reduceLE, Int.reduceAdd, Int.reduceSub, Int.reduceMul, Int.reduceNeg, Int.reduceToNat, eq_self_iff_true, reduceIte, if_true, if_false, ite_true, ite_false, Bool.false_eq_true, Bool.not_true, Bool.not_false, Bool.and_true, Bool.true_and, Bool.and_false, Bool.false_and, Bool.or_true, Bool.true_or, decide_true, decide_false, decide_eq_true_eq]
end Lw

set_option exponentiation.threshold 100000
namespace Lw
open PySem Mi
theorem lc_amts (S : List Ins) {n : Nat} {ds : List Int} (h : Dr (szA n) ds) (s0 s2 s4 s5 s6 s7 s8 s9 s10 : Sl) :
    lcLoop [11] cg_law1 mYes ce_law1 (rngD 0 n) ⟨[s0, .va (.int n), s2, .va (.lst (ds.map D.int)), s4, s5, s6, s7, s8, s9, s10, .un], S⟩ =
    .ok ((amts ds n).map Fr.d) ⟨[s0, .va (.int n), s2, .va (.lst (ds.map D.int)), s4, s5, s6, s7, s8, s9, s10, .un], S⟩ := by
  rw [rngD_nat, amts, List.map_map]
  refine lc_mapB (fun i : Nat => D.int (0 + (i : Int))) (fun i => (lo (ds.getD i 0 - 40) (1 + ds.getD (n + i) 0)).d) (fun i => [s0, .va (.int n), s2, .va (.lst (ds.map D.int)), s4, s5, s6, s7, s8, s9, s10, .va (.int (0 + (i : Int)))]) rfl (List.range n) fun i m => ?_
  have hi := List.mem_range.mp m
  have hl : ds.length = n + n := by rw [h.len]; simp [szA]
  obtain ⟨a1, a2⟩ := dr_at h (szA_1 hi)
  obtain ⟨b1, b2⟩ := dr_at h (szA_2 hi)
  have ix1 := ix_int (ws := ds) (p := i) (by omega)
  have ix2 := ix_int (ws := ds) (p := n + i) (by omega)
  rw [show (0 : Int) + ((n + i : Nat) : Int) = (n : Int) + (0 + (i : Int)) by omega] at ix2
  have ef := ev_lfrac (ds.getD i 0 - 40) (1 + ds.getD (n + i) 0) (by omega) (Nat.lt_of_lt_of_le (show (1 + ds.getD (n + i) 0).natAbs < 2 ^ 20 by omega) (Nat.pow_le_pow_right (by decide) (by decide))) S
  refine ⟨rfl, rfl, .va (lo (ds.getD i 0 - 40) (1 + ds.getD (n + i) 0)).d, ?_, rfl⟩
  simp only [Fr.d, lo]
  simp only [ce_law1, ix1, ix2, ef, e_mSeq, e_mIfS, e_mT, e_mBin, e_mUn, e_mNm, e_mNv, e_mF, e_mC, e_mRet, e_mSet, e_mSetIx, e_mApp, e_mExpr, e_mCB, e_mHcons, e_mHnil, e_mAcons, e_mAnil, e_mTup, e_mLst, e_mNx, e_mRetN, e_mIsN, e_mIsi, e_mTru, e_mAnd, e_mOr, e_mNot, e_mV, e_mAndV, e_mOrV, e_mNotV, e_mChain, e_mPar, e_mAsg, e_mFor, e_mItems, e_mRng1, e_mRng2, e_mEnum, e_mRaise, e_mCall, e_mAtt, e_mSetAtt, e_mMeth, e_mAnil0, e_mTry, e_mWh, e_mLc, e_mYes, e_mStar1, e_mPub, e_mAppO, e_mMt, e_mAstar, e_mSl, e_mPart, e_mNoPart, e_mBrk, e_mIf, e_mIx, e_mgName, e_mgTup, e_mgNil, e_mgCons, mDef, mDefV, mDefC, mCallAt, Mi.R.ne,
  Mi.bnd_ok, Mi.bnd_er, Mi.bnd_no, o_ok, o_er, o_no, ne_ok, ne_er, ne_no, Hd.at, rsv, opt, fin, ent, atAll, ownAt, gLt_ii, gLe_ii, gGt_ii, gGe_ii, gAdd, Mi.gSub, gLen, gNeg, gIx, atI_0, atI_1, gEq_int, gNe_int, Sl.d, kdOf, ansT, kI, kB, kT, kL, kS, insAt, tabA, tabS, tabM, List.getD_cons_zero, List.getD_cons_succ, truD, Option.bind_some, Option.bind_none, Option.map_some, Option.map_none,
  List.map_cons, List.map_nil, List.length_cons, List.length_nil, List.replicate_succ, List.replicate_zero, List.cons_append, List.nil_append, List.append_nil, List.getElem?_cons_zero, List.getElem?_cons_succ, List.set_cons_zero, List.set_cons_succ, Nat.reduceAdd, Nat.reduceSub, Nat.reduceLT, Nat.reduceEqDiff, Nat.reduceLeDiff, Nat.zero_add, natLit, le_LIM, lt_LIM, List.take_zero, List.drop_zero, List.take_succ_cons, List.drop_succ_cons, Nat.zero_le, true_and, and_true, and_self, Nat.reduceLeDiff, Int.reduceEq, Int.reduceLT, Int.reduceLE, Int.reduceAdd, Int.reduceSub, Int.reduceMul, Int.reduceNeg, Int.reduceToNat, eq_self_iff_true, reduceIte, if_true, if_false, ite_true, ite_false, Bool.false_eq_true, Bool.not_true, Bool.not_false, Bool.and_true, Bool.true_and, Bool.and_false, Bool.false_and, Bool.or_true, Bool.true_or, decide_true, decide_false, decide_eq_true_eq]
theorem gLen_tup (xs : List D) : gLen [.tup xs] = some (.va (.int xs.length)) := rfl
theorem ev_refused {ls : List Nat} {vs : List Fr} (ho : ObsOk ls vs) {S : List Ins} {k : Nat} (hk : S[k]? = some (obsI ls vs)) {d : D} (h2 : kP2 d = true) (h3 : rowB ls.length d = false) :
    cf__law_is_refused [.obj k, d] S = .ok (.va (.bl true)) ⟨[], S⟩ := by
  have er := ev_row_any d ls.length h2 (Nat.le_trans ho.l2 (by decide)) S
  rw [h3] at er
  unfold obsI at hk
  have rd : rsv S d = d := by cases d <;> first | rfl | (simp [kP2, kP] at h2)
  have ex : cf_Observer_expects [.obj k, d] S = .er 6 ⟨[], S⟩ := by
    simp only [cf_Observer_expects, m_Observer_expects]
    simp only [hk, lk3_labels, labD, List.length_map, er, e_mSeq, e_mIfS, e_mT, e_mBin, e_mUn, e_mNm, e_mNv, e_mF, e_mC, e_mRet, e_mSet, e_mSetIx, e_mApp, e_mExpr, e_mCB, e_mHcons, e_mHnil, e_mAcons, e_mAnil, e_mTup, e_mLst, e_mNx, e_mRetN, e_mIsN, e_mIsi, e_mTru, e_mAnd, e_mOr, e_mNot, e_mV, e_mAndV, e_mOrV, e_mNotV, e_mChain, e_mPar, e_mAsg, e_mFor, e_mItems, e_mRng1, e_mRng2, e_mEnum, e_mRaise, e_mCall, e_mAtt, e_mSetAtt, e_mMeth, e_mAnil0, e_mTry, e_mWh, e_mLc, e_mYes, e_mStar1, e_mPub, e_mAppO, e_mMt, e_mAstar, e_mSl, e_mPart, e_mNoPart, e_mBrk, e_mIf, e_mIx, e_mgName, e_mgTup, e_mgNil, e_mgCons, mDef, mDefV, mDefC, mCallAt, Mi.R.ne,
  Mi.bnd_ok, Mi.bnd_er, Mi.bnd_no, o_ok, o_er, o_no, ne_ok, ne_er, ne_no, Hd.at, rsv, opt, fin, ent, atAll, ownAt, gLt_ii, gLe_ii, gGt_ii, gGe_ii, gAdd, Mi.gSub, gLen, gNeg, gIx, atI_0, atI_1, gEq_int, gNe_int, Sl.d, kdOf, ansT, kI, kB, kT, kL, kS, insAt, tabA, tabS, tabM, List.getD_cons_zero, List.getD_cons_succ, truD, Option.bind_some, Option.bind_none, Option.map_some, Option.map_none,
  List.map_cons, List.map_nil, List.length_cons, List.length_nil, List.replicate_succ, List.replicate_zero, List.cons_append, List.nil_append, List.append_nil, List.getElem?_cons_zero, List.getElem?_cons_succ, List.set_cons_zero, List.set_cons_succ, Nat.reduceAdd, Nat.reduceSub, Nat.reduceLT, Nat.reduceEqDiff, Nat.reduceLeDiff, Nat.zero_add, natLit, le_LIM, lt_LIM, List.take_zero, List.drop_zero, List.take_succ_cons, List.drop_succ_cons, Nat.zero_le, true_and, and_true, and_self, Nat.reduceLeDiff, Int.reduceEq, Int.reduceLT, Int.reduceLE, Int.reduceAdd, Int.reduceSub, Int.reduceMul, Int.reduceNeg, Int.reduceToNat, eq_self_iff_true, reduceIte, if_true, if_false, ite_true, ite_false, Bool.false_eq_true, Bool.not_true, Bool.not_false, Bool.and_true, Bool.true_and, Bool.and_false, Bool.false_and, Bool.or_true, Bool.true_or, decide_true, decide_false, decide_eq_true_eq]
  simp only [cf__law_is_refused, m__law_is_refused]
  simp only [hk, lk3_meth, ex, handle, hf_InvalidAmountsError, nth, O.ne, e_mSeq, e_mIfS, e_mT, e_mBin, e_mUn, e_mNm, e_mNv, e_mF, e_mC, e_mRet, e_mSet, e_mSetIx, e_mApp, e_mExpr, e_mCB, e_mHcons, e_mHnil, e_mAcons, e_mAnil, e_mTup, e_mLst, e_mNx, e_mRetN, e_mIsN, e_mIsi, e_mTru, e_mAnd, e_mOr, e_mNot, e_mV, e_mAndV, e_mOrV, e_mNotV, e_mChain, e_mPar, e_mAsg, e_mFor, e_mItems, e_mRng1, e_mRng2, e_mEnum, e_mRaise, e_mCall, e_mAtt, e_mSetAtt, e_mMeth, e_mAnil0, e_mTry, e_mWh, e_mLc, e_mYes, e_mStar1, e_mPub, e_mAppO, e_mMt, e_mAstar, e_mSl, e_mPart, e_mNoPart, e_mBrk, e_mIf, e_mIx, e_mgName, e_mgTup, e_mgNil, e_mgCons, mDef, mDefV, mDefC, mCallAt, Mi.R.ne,
  Mi.bnd_ok, Mi.bnd_er, Mi.bnd_no, o_ok, o_er, o_no, ne_ok, ne_er, ne_no, Hd.at, rsv, opt, fin, ent, atAll, ownAt, gLt_ii, gLe_ii, gGt_ii, gGe_ii, gAdd, Mi.gSub, gLen, gNeg, gIx, atI_0, atI_1, gEq_int, gNe_int, Sl.d, kdOf, ansT, kI, kB, kT, kL, kS, insAt, tabA, tabS, tabM, List.getD_cons_zero, List.getD_cons_succ, truD, Option.bind_some, Option.bind_none, Option.map_some, Option.map_none,
  List.map_cons, List.map_nil, List.length_cons, List.length_nil, List.replicate_succ, List.replicate_zero, List.cons_append, List.nil_append, List.append_nil, List.getElem?_cons_zero, List.getElem?_cons_succ, List.set_cons_zero, List.set_cons_succ, Nat.reduceAdd, Nat.reduceSub, Nat.reduceLT, Nat.reduceEqDiff, Nat.reduceLeDiff, Nat.zero_add, natLit, le_LIM, lt_LIM, List.take_zero, List.drop_zero, List.take_succ_cons, List.drop_succ_cons, Nat.zero_le, true_and, and_true, and_self, Nat.reduceLeDiff, Int.reduceEq, Int.reduceLT, Int.reduceLE, Int.reduceAdd, Int.reduceSub, Int.reduceMul, Int.reduceNeg, Int.reduceToNat, eq_self_iff_true, reduceIte, if_true, if_false, ite_true, ite_false, Bool.false_eq_true, Bool.not_true, Bool.not_false, Bool.and_true, Bool.true_and, Bool.and_false, Bool.false_and, Bool.or_true, Bool.true_or, decide_true, decide_false, decide_eq_true_eq]
theorem forL_put (S : List Ins) {xs : List D} {k : Nat} (hx : xs.length ≤ 12) (s0 s1 s2 s3 s5 s8 s10 s11 : Sl) : ∀ (es : List D) (acc : List D) (s9 : Sl), acc.length + es.length < 1000 →
    forL fg_law1 fb_law1 es ⟨[s0, s1, s2, s3, .va (.tup xs), s5, .va (.int k), .ow acc, s8, s9, s10, s11], S⟩ =
      .nx ⟨[s0, s1, s2, s3, .va (.tup xs), s5, .va (.int k), .ow (acc ++ es.map fun e => .tup (putT xs k e)), s8, lastS es s9, s10, s11], S⟩
  | [], acc, s9, _ => by simp [forL, lastS]
  | e :: es, acc, s9, h => by
    have ih := forL_put S (k := k) hx s0 s1 s2 s3 s5 s8 s10 s11 es (acc ++ [.tup (putT xs k e)]) (.va e) (by simp at h ⊢; omega)
    have l1 : acc.length < LIM := Nat.lt_of_lt_of_le (show acc.length < 1000 by simp at h; omega) (by decide)
    have a1 : (xs.take k).length + 1 ≤ LIM := Nat.le_trans (show _ ≤ 13 by rw [List.length_take]; omega) (by decide)
    have a2 : (xs.take k ++ [e]).length + (xs.drop (k + 1)).length ≤ LIM := Nat.le_trans (show _ ≤ 30 by rw [List.length_append, List.length_take, List.length_drop]; simp; omega) (by decide)
    rw [List.append_assoc] at ih
    rw [List.map_cons, forL, lastS]
    simp only [fg_law1, fb_law1, gSl, cut_take, cut_drop1, a1, a2, l1, e_mSeq, e_mIfS, e_mT, e_mBin, e_mUn, e_mNm, e_mNv, e_mF, e_mC, e_mRet, e_mSet, e_mSetIx, e_mApp, e_mExpr, e_mCB, e_mHcons, e_mHnil, e_mAcons, e_mAnil, e_mTup, e_mLst, e_mNx, e_mRetN, e_mIsN, e_mIsi, e_mTru, e_mAnd, e_mOr, e_mNot, e_mV, e_mAndV, e_mOrV, e_mNotV, e_mChain, e_mPar, e_mAsg, e_mFor, e_mItems, e_mRng1, e_mRng2, e_mEnum, e_mRaise, e_mCall, e_mAtt, e_mSetAtt, e_mMeth, e_mAnil0, e_mTry, e_mWh, e_mLc, e_mYes, e_mStar1, e_mPub, e_mAppO, e_mMt, e_mAstar, e_mSl, e_mPart, e_mNoPart, e_mBrk, e_mIf, e_mIx, e_mgName, e_mgTup, e_mgNil, e_mgCons, mDef, mDefV, mDefC, mCallAt, Mi.R.ne,
  Mi.bnd_ok, Mi.bnd_er, Mi.bnd_no, o_ok, o_er, o_no, ne_ok, ne_er, ne_no, Hd.at, rsv, opt, fin, ent, atAll, ownAt, gLt_ii, gLe_ii, gGt_ii, gGe_ii, gAdd, Mi.gSub, gLen, gNeg, gIx, atI_0, atI_1, gEq_int, gNe_int, Sl.d, kdOf, ansT, kI, kB, kT, kL, kS, insAt, tabA, tabS, tabM, List.getD_cons_zero, List.getD_cons_succ, truD, Option.bind_some, Option.bind_none, Option.map_some, Option.map_none,
  List.map_cons, List.map_nil, List.length_cons, List.length_nil, List.replicate_succ, List.replicate_zero, List.cons_append, List.nil_append, List.append_nil, List.getElem?_cons_zero, List.getElem?_cons_succ, List.set_cons_zero, List.set_cons_succ, Nat.reduceAdd, Nat.reduceSub, Nat.reduceLT, Nat.reduceEqDiff, Nat.reduceLeDiff, Nat.zero_add, natLit, le_LIM, lt_LIM, List.take_zero, List.drop_zero, List.take_succ_cons, List.drop_succ_cons, Nat.zero_le, true_and, and_true, and_self, Nat.reduceLeDiff, Int.reduceEq, Int.reduceLT, Int.reduceLE, Int.reduceAdd, Int.reduceSub, Int.reduceMul, Int.reduceNeg, Int.reduceToNat, eq_self_iff_true, reduceIte, if_true, if_false, ite_true, ite_false, Bool.false_eq_true, Bool.not_true, Bool.not_false, Bool.and_true, Bool.true_and, Bool.and_false, Bool.false_and, Bool.or_true, Bool.true_or, decide_true, decide_false, decide_eq_true_eq]
    exact ih
theorem forL_wrong {ls : List Nat} {vs : List Fr} (ho : ObsOk ls vs) {S : List Ins} {k : Nat} (hk : S[k]? = some (obsI ls vs)) (s0 s1 s2 s3 s4 s6 s7 s8 s9 s11 : Sl) : ∀ (es : List D) (s10 : Sl), (∀ d ∈ es, kP2 d = true ∧ rowB ls.length d = false) →
    forL fg_law2 fb_law2 es ⟨[s0, s1, s2, s3, s4, .va (.obj k), s6, s7, s8, s9, s10, s11], S⟩ = .nx ⟨[s0, s1, s2, s3, s4, .va (.obj k), s6, s7, s8, s9, lastS es s10, s11], S⟩
  | [], s10, _ => rfl
  | e :: es, s10, h => by
    have ih := forL_wrong ho hk s0 s1 s2 s3 s4 s6 s7 s8 s9 s11 es (.va e) fun d m => h d (List.mem_cons_of_mem _ m)
    obtain ⟨h1, h2⟩ := h e List.mem_cons_self
    have er := ev_refused ho hk h1 h2
    rw [forL, lastS]
    simp only [fg_law2, fb_law2, er, e_mSeq, e_mIfS, e_mT, e_mBin, e_mUn, e_mNm, e_mNv, e_mF, e_mC, e_mRet, e_mSet, e_mSetIx, e_mApp, e_mExpr, e_mCB, e_mHcons, e_mHnil, e_mAcons, e_mAnil, e_mTup, e_mLst, e_mNx, e_mRetN, e_mIsN, e_mIsi, e_mTru, e_mAnd, e_mOr, e_mNot, e_mV, e_mAndV, e_mOrV, e_mNotV, e_mChain, e_mPar, e_mAsg, e_mFor, e_mItems, e_mRng1, e_mRng2, e_mEnum, e_mRaise, e_mCall, e_mAtt, e_mSetAtt, e_mMeth, e_mAnil0, e_mTry, e_mWh, e_mLc, e_mYes, e_mStar1, e_mPub, e_mAppO, e_mMt, e_mAstar, e_mSl, e_mPart, e_mNoPart, e_mBrk, e_mIf, e_mIx, e_mgName, e_mgTup, e_mgNil, e_mgCons, mDef, mDefV, mDefC, mCallAt, Mi.R.ne,
  Mi.bnd_ok, Mi.bnd_er, Mi.bnd_no, o_ok, o_er, o_no, ne_ok, ne_er, ne_no, Hd.at, rsv, opt, fin, ent, atAll, ownAt, gLt_ii, gLe_ii, gGt_ii, gGe_ii, gAdd, Mi.gSub, gLen, gNeg, gIx, atI_0, atI_1, gEq_int, gNe_int, Sl.d, kdOf, ansT, kI, kB, kT, kL, kS, insAt, tabA, tabS, tabM, List.getD_cons_zero, List.getD_cons_succ, truD, Option.bind_some, Option.bind_none, Option.map_some, Option.map_none,
  List.map_cons, List.map_nil, List.length_cons, List.length_nil, List.replicate_succ, List.replicate_zero, List.cons_append, List.nil_append, List.append_nil, List.getElem?_cons_zero, List.getElem?_cons_succ, List.set_cons_zero, List.set_cons_succ, Nat.reduceAdd, Nat.reduceSub, Nat.reduceLT, Nat.reduceEqDiff, Nat.reduceLeDiff, Nat.zero_add, natLit, le_LIM, lt_LIM, List.take_zero, List.drop_zero, List.take_succ_cons, List.drop_succ_cons, Nat.zero_le, true_and, and_true, and_self, Nat.reduceLeDiff, Int.reduceEq, Int.reduceLT, Int.reduceLE, Int.reduceAdd, Int.reduceSub, Int.reduceMul, Int.reduceNeg, Int.reduceToNat, eq_self_iff_true, reduceIte, if_true, if_false, ite_true, ite_false, Bool.false_eq_true, Bool.not_true, Bool.not_false, Bool.and_true, Bool.true_and, Bool.and_false, Bool.false_and, Bool.or_true, Bool.true_or, decide_true, decide_false, decide_eq_true_eq]
    exact ih
end Lw

set_option exponentiation.threshold 100000
namespace Lw
open PySem Mi
theorem law_true : ∀ ns : List Int, ns.length ≤ 63 → ∃ st', cf_law [.scr ns] [] = .ok (.va (.bl true)) st' := by
  intro ns _
  obtain ⟨c0, h0⟩ := ev_cell ns 0
  obtain ⟨c1, h1⟩ := ev_cell ns 1
  obtain ⟨c2, h2⟩ := ev_cell ns 2
  obtain ⟨c3, h3⟩ := ev_cell ns 3
  have h0 : ∀ S, cf__law_cell [.scr ns, .int 0] S = .ok (.va (.int c0)) ⟨[], S⟩ := h0
  have h1 : ∀ S, cf__law_cell [.scr ns, .int 1] S = .ok (.va (.int c1)) ⟨[], S⟩ := h1
  have h2 : ∀ S, cf__law_cell [.scr ns, .int 2] S = .ok (.va (.int c2)) ⟨[], S⟩ := h2
  have h3 : ∀ S, cf__law_cell [.scr ns, .int 3] S = .ok (.va (.int c3)) ⟨[], S⟩ := h3
  have p12 : (0 : Int) < 12 := by decide
  have hn0 := Int.emod_nonneg c0 (b := 12) (by decide)
  have hn1 := Int.emod_lt_of_pos c0 p12
  obtain ⟨n, hn⟩ : ∃ n : Nat, 1 + c0 % 12 = (n : Int) := ⟨(1 + c0 % 12).toNat, by omega⟩
  have n1 : 1 ≤ n := by omega
  have n2 : n ≤ 12 := by omega
  obtain ⟨ls, ws, r, _, hrow⟩ := ev_row_ok c1 n1 n2
  obtain ⟨ds, dr, hdr⟩ := ev_draws c2 (szA n) (szA_ok n) (by simp [szA]; omega)
  have ho := obs_of r
  have am := amts_ok dr
  have hlo := ev_lodds r
  have hmk := ev_obs_make ho []
  have hpn : (0 : Int) < (n : Int) := by omega
  have hk0 := Int.emod_nonneg c3 (b := (n : Int)) (by omega)
  have hk1 := Int.emod_lt_of_pos c3 hpn
  obtain ⟨k, hk⟩ : ∃ k : Nat, c3 % (n : Int) = (k : Int) := ⟨(c3 % (n : Int)).toNat, by omega⟩
  have hkn : k < n := by omega
  obtain ⟨S1, eS, hS⟩ : ∃ S1, S1 = [] ++ obsI ls (oddsF ls ws) :: (partsP ls).map cellD ∧ S1[0]? = some (obsI ls (oddsF ls ws)) := ⟨_, rfl, rfl⟩
  rw [← eS] at hmk
  have hex := ev_expects ho (fs := amts ds n) (by rw [am.len, r.ll]) am.small am.fr hS
  have hS' := hS
  unfold obsI at hS'
  have hdue := fun S => ev_ldue S r am
  have edue : (partsP ls).map (fun ps => (totF (prods (oddsF ls ws) (amts ds n) ps)).d) = ((partsP ls).map fun ps => lo (topA ws (amts ds n) ps) (60 * wsum ws ps)).map Fr.d := by
    rw [List.map_map]
    exact List.map_congr_left fun ps m => by rw [due_eq r am m]; rfl
  rw [edue] at hex
  have hsame := ev_same 5 (frsD ((partsP ls).map fun ps => lo (topA ws (amts ds n) ps) (60 * wsum ws ps))) (plain_frs _ (by rw [List.length_map, partsP_len]; have := manyP_lt r; omega) 2)
  have g1 := gMul_rep (.int 81) n (by omega)
  have g2 := gMul_rep (.int 6) n (by omega)
  have a1 : (List.replicate n (D.int 81)).length + (List.replicate n (D.int 6)).length ≤ LIM := by rw [List.length_replicate, List.length_replicate]; unfold LIM; omega
  have hr : rngOk (n : Int) = true := rngOk_nat (by omega)
  have ln : (rngD 0 n).length ≤ LIM := by rw [rngD_len]; unfold LIM; omega
  have lc := fun s0 s2 s4 s5 s6 s7 s8 s9 s10 => lc_amts [] dr s0 s2 s4 s5 s6 s7 s8 s9 s10
  rw [szA_D] at hdr
  have al : (amts ds n).length ≤ LIM := by rw [am.len]; unfold LIM; omega
  have al1 : (amts ds n).length + 1 ≤ LIM := by rw [am.len]; unfold LIM; omega
  have ixk := ix_frs (vs := amts ds n) (p := k) (by rw [am.len]; exact hkn)
  have m1 : ∀ x ∈ amts ds n, x.1.natAbs < 2 ^ 60 ∧ x.2.natAbs < 2 ^ 60 := fun x m => by
    obtain ⟨_, b1, b2, b3⟩ := am.ok x m
    exact ⟨Nat.lt_of_le_of_lt b3 (by decide), Nat.lt_of_le_of_lt (show x.2.natAbs ≤ 6 by omega) (by decide)⟩
  have yin := am.at hkn
  obtain ⟨m2, m3⟩ := m1 _ yin
  have hput := fun s0 s1 s2 s3 s5 s8 s10 s11 es acc s9 h => forL_put S1 (xs := (amts ds n).map Fr.d) (k := k) (by rw [List.length_map, am.len]; exact n2) s0 s1 s2 s3 s5 s8 s10 s11 es acc s9 h
  have hwr := fun s0 s1 s2 s3 s4 s6 s7 s8 s9 s11 es s10 h => forL_wrong ho hS s0 s1 s2 s3 s4 s6 s7 s8 s9 s11 es s10 h
  simp only [rowD, labD, wsD, frsD, Fr.d] at *
  simp only [cf_law, m_law]
  simp only [h0, h1, h2, h3, gMod_ok p12, hn, hrow, g1, g2, a1, hdr, hr, ln, Int.toNat_natCast, wipeS, rst, vaOf, lc, gTuple, hlo, hmk, hS', lk3_meth, hex, hdue, hsame, gMod_ok hpn, hk, gSl, cut_1, al1, List.length_map, gList, ixk, gMul_s m2, gMul_s m3, hput, e_mSeq, e_mIfS, e_mT, e_mBin, e_mUn, e_mNm, e_mNv, e_mF, e_mC, e_mRet, e_mSet, e_mSetIx, e_mApp, e_mExpr, e_mCB, e_mHcons, e_mHnil, e_mAcons, e_mAnil, e_mTup, e_mLst, e_mNx, e_mRetN, e_mIsN, e_mIsi, e_mTru, e_mAnd, e_mOr, e_mNot, e_mV, e_mAndV, e_mOrV, e_mNotV, e_mChain, e_mPar, e_mAsg, e_mFor, e_mItems, e_mRng1, e_mRng2, e_mEnum, e_mRaise, e_mCall, e_mAtt, e_mSetAtt, e_mMeth, e_mAnil0, e_mTry, e_mWh, e_mLc, e_mYes, e_mStar1, e_mPub, e_mAppO, e_mMt, e_mAstar, e_mSl, e_mPart, e_mNoPart, e_mBrk, e_mIf, e_mIx, e_mgName, e_mgTup, e_mgNil, e_mgCons, mDef, mDefV, mDefC, mCallAt, Mi.R.ne,
  Mi.bnd_ok, Mi.bnd_er, Mi.bnd_no, o_ok, o_er, o_no, ne_ok, ne_er, ne_no, Hd.at, rsv, opt, fin, ent, atAll, ownAt, gLt_ii, gLe_ii, gGt_ii, gGe_ii, gAdd, Mi.gSub, gLen, gNeg, gIx, atI_0, atI_1, gEq_int, gNe_int, Sl.d, kdOf, ansT, kI, kB, kT, kL, kS, insAt, tabA, tabS, tabM, List.getD_cons_zero, List.getD_cons_succ, truD, Option.bind_some, Option.bind_none, Option.map_some, Option.map_none,
  List.map_cons, List.map_nil, List.length_cons, List.length_nil, List.replicate_succ, List.replicate_zero, List.cons_append, List.nil_append, List.append_nil, List.getElem?_cons_zero, List.getElem?_cons_succ, List.set_cons_zero, List.set_cons_succ, Nat.reduceAdd, Nat.reduceSub, Nat.reduceLT, Nat.reduceEqDiff, Nat.reduceLeDiff, Nat.zero_add, natLit, le_LIM, lt_LIM, List.take_zero, List.drop_zero, List.take_succ_cons, List.drop_succ_cons, Nat.zero_le, true_and, and_true, and_self, Nat.reduceLeDiff, Int.reduceEq, Int.reduceLT, Int.reduceLE, Int.reduceAdd, Int.reduceSub, Int.reduceMul, Int.reduceNeg, Int.reduceToNat, eq_self_iff_true, reduceIte, if_true, if_false, ite_true, ite_false, Bool.false_eq_true, Bool.not_true, Bool.not_false, Bool.and_true, Bool.true_and, Bool.and_false, Bool.false_and, Bool.or_true, Bool.true_or, decide_true, decide_false, decide_eq_true_eq]
  rw [hwr _ _ _ _ _ _ _ _ _ _ _ _ ?wr]
  case wr =>
    have hfr : ∀ d ∈ (amts ds n).map Fr.d, kP3 d = true := fun d m => by
      obtain ⟨x, _, rfl⟩ := List.mem_map.mp m
      rfl
    have pu : ∀ e, kP3 e = true → isFr e = false → kP2 (.tup (putT ((amts ds n).map Fr.d) k e)) = true ∧ rowB ls.length (.tup (putT ((amts ds n).map Fr.d) k e)) = false := fun e h1 h2 => ⟨kP2_put hfr h1, rowB_put h2⟩
    have hal := am.len
    have hll := r.ll
    refine List.forall_mem_cons.mpr ⟨⟨kP2_tup fun d m => hfr d (List.mem_of_mem_drop m), rowB_len (by rw [List.length_drop, List.length_map]; omega)⟩, ?_⟩
    refine List.forall_mem_cons.mpr ⟨⟨kP2_tup fun d m => ?_, rowB_len (by rw [List.length_append, List.length_map]; simp; omega)⟩, ?_⟩
    · rcases List.mem_append.mp m with m | m
      · exact hfr d m
      · rw [List.mem_singleton.mp m]; rfl
    refine List.forall_mem_cons.mpr ⟨⟨rfl, rfl⟩, List.forall_mem_cons.mpr ⟨⟨rfl, rfl⟩, List.forall_mem_cons.mpr ⟨⟨rfl, rfl⟩, List.forall_mem_cons.mpr ⟨⟨rfl, rfl⟩, List.forall_mem_cons.mpr ⟨pu _ rfl ?_, ?_⟩⟩⟩⟩⟩
    · simp only [isFr, Bool.and_eq_false_iff, decide_eq_false_iff_not]
      right
      rw [Int.gcd_mul_left]
      rw [show Int.natAbs 3 = 3 from rfl]
      generalize Int.gcd _ _ = z
      omega
    · refine List.forall_mem_cons.mpr ⟨pu _ rfl rfl, List.forall_mem_cons.mpr ⟨pu _ rfl rfl, List.forall_mem_cons.mpr ⟨pu _ rfl rfl, List.forall_mem_cons.mpr ⟨pu _ rfl rfl, List.forall_mem_cons.mpr ⟨pu _ rfl rfl, List.forall_mem_cons.mpr ⟨pu _ rfl rfl, List.forall_mem_cons.mpr ⟨pu _ rfl (by decide), List.forall_mem_cons.mpr ⟨pu _ rfl (by decide), List.forall_mem_cons.mpr ⟨pu _ rfl rfl, nofun⟩⟩⟩⟩⟩⟩⟩⟩⟩
  simp only [hS', lk3_meth, hex, hdue, hsame, e_mSeq, e_mIfS, e_mT, e_mBin, e_mUn, e_mNm, e_mNv, e_mF, e_mC, e_mRet, e_mSet, e_mSetIx, e_mApp, e_mExpr, e_mCB, e_mHcons, e_mHnil, e_mAcons, e_mAnil, e_mTup, e_mLst, e_mNx, e_mRetN, e_mIsN, e_mIsi, e_mTru, e_mAnd, e_mOr, e_mNot, e_mV, e_mAndV, e_mOrV, e_mNotV, e_mChain, e_mPar, e_mAsg, e_mFor, e_mItems, e_mRng1, e_mRng2, e_mEnum, e_mRaise, e_mCall, e_mAtt, e_mSetAtt, e_mMeth, e_mAnil0, e_mTry, e_mWh, e_mLc, e_mYes, e_mStar1, e_mPub, e_mAppO, e_mMt, e_mAstar, e_mSl, e_mPart, e_mNoPart, e_mBrk, e_mIf, e_mIx, e_mgName, e_mgTup, e_mgNil, e_mgCons, mDef, mDefV, mDefC, mCallAt, Mi.R.ne,
  Mi.bnd_ok, Mi.bnd_er, Mi.bnd_no, o_ok, o_er, o_no, ne_ok, ne_er, ne_no, Hd.at, rsv, opt, fin, ent, atAll, ownAt, gLt_ii, gLe_ii, gGt_ii, gGe_ii, gAdd, Mi.gSub, gLen, gNeg, gIx, atI_0, atI_1, gEq_int, gNe_int, Sl.d, kdOf, ansT, kI, kB, kT, kL, kS, insAt, tabA, tabS, tabM, List.getD_cons_zero, List.getD_cons_succ, truD, Option.bind_some, Option.bind_none, Option.map_some, Option.map_none,
  List.map_cons, List.map_nil, List.length_cons, List.length_nil, List.replicate_succ, List.replicate_zero, List.cons_append, List.nil_append, List.append_nil, List.getElem?_cons_zero, List.getElem?_cons_succ, List.set_cons_zero, List.set_cons_succ, Nat.reduceAdd, Nat.reduceSub, Nat.reduceLT, Nat.reduceEqDiff, Nat.reduceLeDiff, Nat.zero_add, natLit, le_LIM, lt_LIM, List.take_zero, List.drop_zero, List.take_succ_cons, List.drop_succ_cons, Nat.zero_le, true_and, and_true, and_self, Nat.reduceLeDiff, Int.reduceEq, Int.reduceLT, Int.reduceLE, Int.reduceAdd, Int.reduceSub, Int.reduceMul, Int.reduceNeg, Int.reduceToNat, eq_self_iff_true, reduceIte, if_true, if_false, ite_true, ite_false, Bool.false_eq_true, Bool.not_true, Bool.not_false, Bool.and_true, Bool.true_and, Bool.and_false, Bool.false_and, Bool.or_true, Bool.true_or, decide_true, decide_false, decide_eq_true_eq]
  exact ⟨_, rfl⟩
end Lw

namespace Lw
open PySem PySem.Spec PyProof.Rows L2 Mi
theorem all_mk {l : PySem.W.OpenLaw} {w : World} {K : PySem.W.Frag} {h : Heap}
    {mg : Str → Option Value} {fa : Addr} (X : K.In h) (G : h.Ns mainGlobals mg)
    (hfa : mg "law" = some (.ref fa))
    {f__law_cell : Addr}
    {f__law_draws : Addr}
    {f__law_labels : Addr}
    {f__law_row : Addr}
    {f__law_fraction : Addr}
    {f_is_whole : Addr}
    {f_is_valid_labels : Addr}
    {f_check_labels : Addr}
    {f_parts_of : Addr}
    {f_common_divisor : Addr}
    {f_is_valid_fraction : Addr}
    {f_is_positive_fraction : Addr}
    {f_check_fractions : Addr}
    {f_fraction : Addr}
    {f_total : Addr}
    {f_total_at : Addr}
    {f_are_odds : Addr}
    {f_Observer_odds_set : Addr}
    {f_Observer_init : Addr}
    {f__law_odds : Addr}
    {f__law_is_same : Addr}
    {f_is_row : Addr}
    {f_product : Addr}
    {f_total_of_products : Addr}
    {f_Observer_odds_get : Addr}
    {f_Observer_expects : Addr}
    {f__law_parts : Addr}
    {f__law_due : Addr}
    {f__law_is_refused : Addr}
    {f_law : Addr}
    {C_Observer : Addr}
    {P_Observer_odds : Addr} {R_Observer_odds : List Value}
    {U_Observer_odds : Value} {Q_Observer_odds : List Value}
    {od__law_cell an__law_cell : Option Addr} {sl__law_cell : Array (Option Value)} {oc__law_cell kV__law_cell dc__law_cell pm__law_cell cd__law_cell ct__law_cell : Value}
    {od__law_draws an__law_draws : Option Addr} {sl__law_draws : Array (Option Value)} {oc__law_draws kV__law_draws dc__law_draws pm__law_draws cd__law_draws ct__law_draws : Value}
    {od__law_labels an__law_labels : Option Addr} {sl__law_labels : Array (Option Value)} {oc__law_labels kV__law_labels dc__law_labels pm__law_labels cd__law_labels ct__law_labels : Value}
    {od__law_row an__law_row : Option Addr} {sl__law_row : Array (Option Value)} {oc__law_row kV__law_row dc__law_row pm__law_row cd__law_row ct__law_row : Value}
    {od__law_fraction an__law_fraction : Option Addr} {sl__law_fraction : Array (Option Value)} {oc__law_fraction kV__law_fraction dc__law_fraction pm__law_fraction cd__law_fraction ct__law_fraction : Value}
    {od_is_whole an_is_whole : Option Addr} {sl_is_whole : Array (Option Value)} {oc_is_whole kV_is_whole dc_is_whole pm_is_whole cd_is_whole ct_is_whole : Value}
    {od_is_valid_labels an_is_valid_labels : Option Addr} {sl_is_valid_labels : Array (Option Value)} {oc_is_valid_labels kV_is_valid_labels dc_is_valid_labels pm_is_valid_labels cd_is_valid_labels ct_is_valid_labels : Value}
    {od_check_labels an_check_labels : Option Addr} {sl_check_labels : Array (Option Value)} {oc_check_labels kV_check_labels dc_check_labels pm_check_labels cd_check_labels ct_check_labels : Value}
    {od_parts_of an_parts_of : Option Addr} {sl_parts_of : Array (Option Value)} {oc_parts_of kV_parts_of dc_parts_of pm_parts_of cd_parts_of ct_parts_of : Value}
    {od_common_divisor an_common_divisor : Option Addr} {sl_common_divisor : Array (Option Value)} {oc_common_divisor kV_common_divisor dc_common_divisor pm_common_divisor cd_common_divisor ct_common_divisor : Value}
    {od_is_valid_fraction an_is_valid_fraction : Option Addr} {sl_is_valid_fraction : Array (Option Value)} {oc_is_valid_fraction kV_is_valid_fraction dc_is_valid_fraction pm_is_valid_fraction cd_is_valid_fraction ct_is_valid_fraction : Value}
    {od_is_positive_fraction an_is_positive_fraction : Option Addr} {sl_is_positive_fraction : Array (Option Value)} {oc_is_positive_fraction kV_is_positive_fraction dc_is_positive_fraction pm_is_positive_fraction cd_is_positive_fraction ct_is_positive_fraction : Value}
    {od_check_fractions an_check_fractions : Option Addr} {sl_check_fractions : Array (Option Value)} {oc_check_fractions kV_check_fractions dc_check_fractions pm_check_fractions cd_check_fractions ct_check_fractions : Value}
    {od_fraction an_fraction : Option Addr} {sl_fraction : Array (Option Value)} {oc_fraction kV_fraction dc_fraction pm_fraction cd_fraction ct_fraction : Value}
    {od_total an_total : Option Addr} {sl_total : Array (Option Value)} {oc_total kV_total dc_total pm_total cd_total ct_total : Value}
    {od_total_at an_total_at : Option Addr} {sl_total_at : Array (Option Value)} {oc_total_at kV_total_at dc_total_at pm_total_at cd_total_at ct_total_at : Value}
    {od_are_odds an_are_odds : Option Addr} {sl_are_odds : Array (Option Value)} {oc_are_odds kV_are_odds dc_are_odds pm_are_odds cd_are_odds ct_are_odds : Value}
    {od_Observer_odds_set an_Observer_odds_set : Option Addr} {sl_Observer_odds_set : Array (Option Value)} {oc_Observer_odds_set kV_Observer_odds_set dc_Observer_odds_set pm_Observer_odds_set cd_Observer_odds_set ct_Observer_odds_set : Value}
    {od_Observer_init an_Observer_init : Option Addr} {sl_Observer_init : Array (Option Value)} {oc_Observer_init kV_Observer_init dc_Observer_init pm_Observer_init cd_Observer_init ct_Observer_init : Value}
    {od__law_odds an__law_odds : Option Addr} {sl__law_odds : Array (Option Value)} {oc__law_odds kV__law_odds dc__law_odds pm__law_odds cd__law_odds ct__law_odds : Value}
    {od__law_is_same an__law_is_same : Option Addr} {sl__law_is_same : Array (Option Value)} {oc__law_is_same kV__law_is_same dc__law_is_same pm__law_is_same cd__law_is_same ct__law_is_same : Value}
    {od_is_row an_is_row : Option Addr} {sl_is_row : Array (Option Value)} {oc_is_row kV_is_row dc_is_row pm_is_row cd_is_row ct_is_row : Value}
    {od_product an_product : Option Addr} {sl_product : Array (Option Value)} {oc_product kV_product dc_product pm_product cd_product ct_product : Value}
    {od_total_of_products an_total_of_products : Option Addr} {sl_total_of_products : Array (Option Value)} {oc_total_of_products kV_total_of_products dc_total_of_products pm_total_of_products cd_total_of_products ct_total_of_products : Value}
    {od_Observer_odds_get an_Observer_odds_get : Option Addr} {sl_Observer_odds_get : Array (Option Value)} {oc_Observer_odds_get kV_Observer_odds_get dc_Observer_odds_get pm_Observer_odds_get cd_Observer_odds_get ct_Observer_odds_get : Value}
    {od_Observer_expects an_Observer_expects : Option Addr} {sl_Observer_expects : Array (Option Value)} {oc_Observer_expects kV_Observer_expects dc_Observer_expects pm_Observer_expects cd_Observer_expects ct_Observer_expects : Value}
    {od__law_parts an__law_parts : Option Addr} {sl__law_parts : Array (Option Value)} {oc__law_parts kV__law_parts dc__law_parts pm__law_parts cd__law_parts ct__law_parts : Value}
    {od__law_due an__law_due : Option Addr} {sl__law_due : Array (Option Value)} {oc__law_due kV__law_due dc__law_due pm__law_due cd__law_due ct__law_due : Value}
    {od__law_is_refused an__law_is_refused : Option Addr} {sl__law_is_refused : Array (Option Value)} {oc__law_is_refused kV__law_is_refused dc__law_is_refused pm__law_is_refused cd__law_is_refused ct__law_is_refused : Value}
    {od_law an_law : Option Addr} {sl_law : Array (Option Value)} {oc_law kV_law dc_law pm_law cd_law ct_law : Value}
    {E_InvalidFractionError : Addr}
    {E_InvalidLabelsError : Addr}
    {E_InvalidOddsError : Addr}
    {E_InvalidAmountsError : Addr}
    {tk_CASE_LIMIT : Tok}
    (n_Observer : PySem.W.nsIn K mainGlobals "Observer" = some (some (.ref C_Observer)))
    (c1_Observer : PySem.W.plainGet K C_Observer Str.empty = true)
    (c2_Observer : PySem.W.hasDictIn K C_Observer = true)
    (c3_Observer : PySem.W.plainOver K C_Observer = true)
    (c4_Observer : PySem.W.findIn K (.ref C_Observer) "__setattr__" = some (some (.builtin "object.__setattr__")))
    (a__law_cell : PySem.W.nsIn K mainGlobals "_law_cell" = some (some (.ref f__law_cell)))
    (a__law_draws : PySem.W.nsIn K mainGlobals "_law_draws" = some (some (.ref f__law_draws)))
    (a__law_labels : PySem.W.nsIn K mainGlobals "_law_labels" = some (some (.ref f__law_labels)))
    (a__law_row : PySem.W.nsIn K mainGlobals "_law_row" = some (some (.ref f__law_row)))
    (a__law_fraction : PySem.W.nsIn K mainGlobals "_law_fraction" = some (some (.ref f__law_fraction)))
    (a_is_whole : PySem.W.nsIn K mainGlobals "is_whole" = some (some (.ref f_is_whole)))
    (a_is_valid_labels : PySem.W.nsIn K mainGlobals "is_valid_labels" = some (some (.ref f_is_valid_labels)))
    (a_check_labels : PySem.W.nsIn K mainGlobals "check_labels" = some (some (.ref f_check_labels)))
    (a_parts_of : PySem.W.nsIn K mainGlobals "parts_of" = some (some (.ref f_parts_of)))
    (a_common_divisor : PySem.W.nsIn K mainGlobals "common_divisor" = some (some (.ref f_common_divisor)))
    (a_is_valid_fraction : PySem.W.nsIn K mainGlobals "is_valid_fraction" = some (some (.ref f_is_valid_fraction)))
    (a_is_positive_fraction : PySem.W.nsIn K mainGlobals "is_positive_fraction" = some (some (.ref f_is_positive_fraction)))
    (a_check_fractions : PySem.W.nsIn K mainGlobals "check_fractions" = some (some (.ref f_check_fractions)))
    (a_fraction : PySem.W.nsIn K mainGlobals "fraction" = some (some (.ref f_fraction)))
    (a_total : PySem.W.nsIn K mainGlobals "total" = some (some (.ref f_total)))
    (a_total_at : PySem.W.nsIn K mainGlobals "total_at" = some (some (.ref f_total_at)))
    (a_are_odds : PySem.W.nsIn K mainGlobals "are_odds" = some (some (.ref f_are_odds)))
    (a__law_odds : PySem.W.nsIn K mainGlobals "_law_odds" = some (some (.ref f__law_odds)))
    (a__law_is_same : PySem.W.nsIn K mainGlobals "_law_is_same" = some (some (.ref f__law_is_same)))
    (a_is_row : PySem.W.nsIn K mainGlobals "is_row" = some (some (.ref f_is_row)))
    (a_product : PySem.W.nsIn K mainGlobals "product" = some (some (.ref f_product)))
    (a_total_of_products : PySem.W.nsIn K mainGlobals "total_of_products" = some (some (.ref f_total_of_products)))
    (a__law_parts : PySem.W.nsIn K mainGlobals "_law_parts" = some (some (.ref f__law_parts)))
    (a__law_due : PySem.W.nsIn K mainGlobals "_law_due" = some (some (.ref f__law_due)))
    (a__law_is_refused : PySem.W.nsIn K mainGlobals "_law_is_refused" = some (some (.ref f__law_is_refused)))
    (a_law : PySem.W.nsIn K mainGlobals "law" = some (some (.ref f_law)))
    (kb_Observer_tuple : PySem.W.kitOne K (.ref C_Observer) (.type "tuple") = some false)
    (it1_Observer : PySem.W.findIn K (.ref C_Observer) "__class__" = some (some (.builtin "object.__class__")))
    (it2_Observer : PySem.W.mroIn K C_Observer (.type "object") = some true)
    (kb_Observer_bool : PySem.W.kitOne K (.ref C_Observer) (.type "bool") = some false)
    (kb_Observer_int : PySem.W.kitOne K (.ref C_Observer) (.type "int") = some false)
    (na_Observer_parts : PySem.W.findIn K (.ref C_Observer) "parts" = some none)
    (na_Observer_labels : PySem.W.findIn K (.ref C_Observer) "labels" = some none)
    (na_Observer_held_odds : PySem.W.findIn K (.ref C_Observer) "held_odds" = some none)
    (p1_Observer_odds : PySem.W.findIn K (.ref C_Observer) "odds" = some (some (.ref P_Observer_odds)))
    (p2_Observer_odds : PySem.W.specialIn K (.ref P_Observer_odds) "__get__" = some (some (.builtin "property.__get__")))
    (p3_Observer_odds : PySem.W.takesIn K (.ref P_Observer_odds) = some true)
    (p4_Observer_odds : PySem.W.recIn K P_Observer_odds "property" = some (.ref f_Observer_odds_get :: R_Observer_odds))
    (s1_Observer_odds : PySem.W.takerIn K C_Observer "odds" = some (some (.ref P_Observer_odds)))
    (s2_Observer_odds : PySem.W.typeIn K (.ref P_Observer_odds) = some (.type "property"))
    (s3_Observer_odds : PySem.W.recIn K P_Observer_odds "property" = some (U_Observer_odds :: .ref f_Observer_odds_set :: Q_Observer_odds))
    (mk1_Observer : PySem.W.makesIn K C_Observer = true)
    (mk2_Observer : PySem.W.findIn K (.ref C_Observer) "__init__" = some (some (.ref f_Observer_init)))
    (mk3_Observer : PySem.W.isFn K (.ref f_Observer_init) = true)
    (mk4_Observer : PySem.W.keepIn K (.ref C_Observer) = true)
    (kb_Observer_str : PySem.W.kitOne K (.ref C_Observer) (.type "str") = some false)
    (me1_Observer_expects : PySem.W.findIn K (.ref C_Observer) "expects" = some (some (.ref f_Observer_expects)))
    (me2_Observer_expects : PySem.W.isFn K (.ref f_Observer_expects) = true)
    (itn : PySem.W.specialIn K (.builtin "object.__class__") "__get__" = some (some (.builtin "getset_descriptor.__get__")))
    (itt : PySem.W.takesIn K (.builtin "object.__class__") = some true)
    (l__law_cell : K.lookup f__law_cell = some ⟨oc__law_cell, od__law_cell, .func (PySem.W.fnOf "_law_cell" "_law_cell" (defArgs s__law_cell) (defBody s__law_cell) (defScope s__law_cell) .none kV__law_cell dc__law_cell pm__law_cell an__law_cell cd__law_cell ct__law_cell), sl__law_cell⟩)
    (x__law_cell : PySem.W.codeIn K cd__law_cell "_law_cell" = true)
    (k__law_cell : PySem.W.keepIn K (.ref f__law_cell) = true)
    (l__law_draws : K.lookup f__law_draws = some ⟨oc__law_draws, od__law_draws, .func (PySem.W.fnOf "_law_draws" "_law_draws" (defArgs s__law_draws) (defBody s__law_draws) (defScope s__law_draws) .none kV__law_draws dc__law_draws pm__law_draws an__law_draws cd__law_draws ct__law_draws), sl__law_draws⟩)
    (x__law_draws : PySem.W.codeIn K cd__law_draws "_law_draws" = true)
    (k__law_draws : PySem.W.keepIn K (.ref f__law_draws) = true)
    (l__law_labels : K.lookup f__law_labels = some ⟨oc__law_labels, od__law_labels, .func (PySem.W.fnOf "_law_labels" "_law_labels" (defArgs s__law_labels) (defBody s__law_labels) (defScope s__law_labels) .none kV__law_labels dc__law_labels pm__law_labels an__law_labels cd__law_labels ct__law_labels), sl__law_labels⟩)
    (x__law_labels : PySem.W.codeIn K cd__law_labels "_law_labels" = true)
    (k__law_labels : PySem.W.keepIn K (.ref f__law_labels) = true)
    (l__law_row : K.lookup f__law_row = some ⟨oc__law_row, od__law_row, .func (PySem.W.fnOf "_law_row" "_law_row" (defArgs s__law_row) (defBody s__law_row) (defScope s__law_row) .none kV__law_row dc__law_row pm__law_row an__law_row cd__law_row ct__law_row), sl__law_row⟩)
    (x__law_row : PySem.W.codeIn K cd__law_row "_law_row" = true)
    (k__law_row : PySem.W.keepIn K (.ref f__law_row) = true)
    (l__law_fraction : K.lookup f__law_fraction = some ⟨oc__law_fraction, od__law_fraction, .func (PySem.W.fnOf "_law_fraction" "_law_fraction" (defArgs s__law_fraction) (defBody s__law_fraction) (defScope s__law_fraction) .none kV__law_fraction dc__law_fraction pm__law_fraction an__law_fraction cd__law_fraction ct__law_fraction), sl__law_fraction⟩)
    (x__law_fraction : PySem.W.codeIn K cd__law_fraction "_law_fraction" = true)
    (k__law_fraction : PySem.W.keepIn K (.ref f__law_fraction) = true)
    (l_is_whole : K.lookup f_is_whole = some ⟨oc_is_whole, od_is_whole, .func (PySem.W.fnOf "is_whole" "is_whole" (defArgs s_is_whole) (defBody s_is_whole) (defScope s_is_whole) .none kV_is_whole dc_is_whole pm_is_whole an_is_whole cd_is_whole ct_is_whole), sl_is_whole⟩)
    (x_is_whole : PySem.W.codeIn K cd_is_whole "is_whole" = true)
    (k_is_whole : PySem.W.keepIn K (.ref f_is_whole) = true)
    (l_is_valid_labels : K.lookup f_is_valid_labels = some ⟨oc_is_valid_labels, od_is_valid_labels, .func (PySem.W.fnOf "is_valid_labels" "is_valid_labels" (defArgs s_is_valid_labels) (defBody s_is_valid_labels) (defScope s_is_valid_labels) .none kV_is_valid_labels dc_is_valid_labels pm_is_valid_labels an_is_valid_labels cd_is_valid_labels ct_is_valid_labels), sl_is_valid_labels⟩)
    (x_is_valid_labels : PySem.W.codeIn K cd_is_valid_labels "is_valid_labels" = true)
    (k_is_valid_labels : PySem.W.keepIn K (.ref f_is_valid_labels) = true)
    (l_check_labels : K.lookup f_check_labels = some ⟨oc_check_labels, od_check_labels, .func (PySem.W.fnOf "check_labels" "check_labels" (defArgs s_check_labels) (defBody s_check_labels) (defScope s_check_labels) .none kV_check_labels dc_check_labels pm_check_labels an_check_labels cd_check_labels ct_check_labels), sl_check_labels⟩)
    (x_check_labels : PySem.W.codeIn K cd_check_labels "check_labels" = true)
    (k_check_labels : PySem.W.keepIn K (.ref f_check_labels) = true)
    (l_parts_of : K.lookup f_parts_of = some ⟨oc_parts_of, od_parts_of, .func (PySem.W.fnOf "parts_of" "parts_of" (defArgs s_parts_of) (defBody s_parts_of) (defScope s_parts_of) .none kV_parts_of dc_parts_of pm_parts_of an_parts_of cd_parts_of ct_parts_of), sl_parts_of⟩)
    (x_parts_of : PySem.W.codeIn K cd_parts_of "parts_of" = true)
    (k_parts_of : PySem.W.keepIn K (.ref f_parts_of) = true)
    (l_common_divisor : K.lookup f_common_divisor = some ⟨oc_common_divisor, od_common_divisor, .func (PySem.W.fnOf "common_divisor" "common_divisor" (defArgs s_common_divisor) (defBody s_common_divisor) (defScope s_common_divisor) .none kV_common_divisor dc_common_divisor pm_common_divisor an_common_divisor cd_common_divisor ct_common_divisor), sl_common_divisor⟩)
    (x_common_divisor : PySem.W.codeIn K cd_common_divisor "common_divisor" = true)
    (k_common_divisor : PySem.W.keepIn K (.ref f_common_divisor) = true)
    (l_is_valid_fraction : K.lookup f_is_valid_fraction = some ⟨oc_is_valid_fraction, od_is_valid_fraction, .func (PySem.W.fnOf "is_valid_fraction" "is_valid_fraction" (defArgs s_is_valid_fraction) (defBody s_is_valid_fraction) (defScope s_is_valid_fraction) .none kV_is_valid_fraction dc_is_valid_fraction pm_is_valid_fraction an_is_valid_fraction cd_is_valid_fraction ct_is_valid_fraction), sl_is_valid_fraction⟩)
    (x_is_valid_fraction : PySem.W.codeIn K cd_is_valid_fraction "is_valid_fraction" = true)
    (k_is_valid_fraction : PySem.W.keepIn K (.ref f_is_valid_fraction) = true)
    (l_is_positive_fraction : K.lookup f_is_positive_fraction = some ⟨oc_is_positive_fraction, od_is_positive_fraction, .func (PySem.W.fnOf "is_positive_fraction" "is_positive_fraction" (defArgs s_is_positive_fraction) (defBody s_is_positive_fraction) (defScope s_is_positive_fraction) .none kV_is_positive_fraction dc_is_positive_fraction pm_is_positive_fraction an_is_positive_fraction cd_is_positive_fraction ct_is_positive_fraction), sl_is_positive_fraction⟩)
    (x_is_positive_fraction : PySem.W.codeIn K cd_is_positive_fraction "is_positive_fraction" = true)
    (k_is_positive_fraction : PySem.W.keepIn K (.ref f_is_positive_fraction) = true)
    (l_check_fractions : K.lookup f_check_fractions = some ⟨oc_check_fractions, od_check_fractions, .func (PySem.W.fnOf "check_fractions" "check_fractions" (defArgs s_check_fractions) (defBody s_check_fractions) (defScope s_check_fractions) .none kV_check_fractions dc_check_fractions pm_check_fractions an_check_fractions cd_check_fractions ct_check_fractions), sl_check_fractions⟩)
    (x_check_fractions : PySem.W.codeIn K cd_check_fractions "check_fractions" = true)
    (k_check_fractions : PySem.W.keepIn K (.ref f_check_fractions) = true)
    (l_fraction : K.lookup f_fraction = some ⟨oc_fraction, od_fraction, .func (PySem.W.fnOf "fraction" "fraction" (defArgs s_fraction) (defBody s_fraction) (defScope s_fraction) .none kV_fraction dc_fraction pm_fraction an_fraction cd_fraction ct_fraction), sl_fraction⟩)
    (x_fraction : PySem.W.codeIn K cd_fraction "fraction" = true)
    (k_fraction : PySem.W.keepIn K (.ref f_fraction) = true)
    (l_total : K.lookup f_total = some ⟨oc_total, od_total, .func (PySem.W.fnOf "total" "total" (defArgs s_total) (defBody s_total) (defScope s_total) .none kV_total dc_total pm_total an_total cd_total ct_total), sl_total⟩)
    (x_total : PySem.W.codeIn K cd_total "total" = true)
    (k_total : PySem.W.keepIn K (.ref f_total) = true)
    (l_total_at : K.lookup f_total_at = some ⟨oc_total_at, od_total_at, .func (PySem.W.fnOf "total_at" "total_at" (defArgs s_total_at) (defBody s_total_at) (defScope s_total_at) .none kV_total_at dc_total_at pm_total_at an_total_at cd_total_at ct_total_at), sl_total_at⟩)
    (x_total_at : PySem.W.codeIn K cd_total_at "total_at" = true)
    (k_total_at : PySem.W.keepIn K (.ref f_total_at) = true)
    (l_are_odds : K.lookup f_are_odds = some ⟨oc_are_odds, od_are_odds, .func (PySem.W.fnOf "are_odds" "are_odds" (defArgs s_are_odds) (defBody s_are_odds) (defScope s_are_odds) .none kV_are_odds dc_are_odds pm_are_odds an_are_odds cd_are_odds ct_are_odds), sl_are_odds⟩)
    (x_are_odds : PySem.W.codeIn K cd_are_odds "are_odds" = true)
    (k_are_odds : PySem.W.keepIn K (.ref f_are_odds) = true)
    (l_Observer_odds_set : K.lookup f_Observer_odds_set = some ⟨oc_Observer_odds_set, od_Observer_odds_set, .func (PySem.W.fnOf "odds" "Observer.odds" (defArgs s_Observer_odds_set) (defBody s_Observer_odds_set) (defScope s_Observer_odds_set) .none kV_Observer_odds_set dc_Observer_odds_set pm_Observer_odds_set an_Observer_odds_set cd_Observer_odds_set ct_Observer_odds_set), sl_Observer_odds_set⟩)
    (x_Observer_odds_set : PySem.W.codeIn K cd_Observer_odds_set "Observer.odds" = true)
    (k_Observer_odds_set : PySem.W.keepIn K (.ref f_Observer_odds_set) = true)
    (l_Observer_init : K.lookup f_Observer_init = some ⟨oc_Observer_init, od_Observer_init, .func (PySem.W.fnOf "__init__" "Observer.__init__" (defArgs s_Observer_init) (defBody s_Observer_init) (defScope s_Observer_init) .none kV_Observer_init dc_Observer_init pm_Observer_init an_Observer_init cd_Observer_init ct_Observer_init), sl_Observer_init⟩)
    (x_Observer_init : PySem.W.codeIn K cd_Observer_init "Observer.__init__" = true)
    (k_Observer_init : PySem.W.keepIn K (.ref f_Observer_init) = true)
    (l__law_odds : K.lookup f__law_odds = some ⟨oc__law_odds, od__law_odds, .func (PySem.W.fnOf "_law_odds" "_law_odds" (defArgs s__law_odds) (defBody s__law_odds) (defScope s__law_odds) .none kV__law_odds dc__law_odds pm__law_odds an__law_odds cd__law_odds ct__law_odds), sl__law_odds⟩)
    (x__law_odds : PySem.W.codeIn K cd__law_odds "_law_odds" = true)
    (k__law_odds : PySem.W.keepIn K (.ref f__law_odds) = true)
    (l__law_is_same : K.lookup f__law_is_same = some ⟨oc__law_is_same, od__law_is_same, .func (PySem.W.fnOf "_law_is_same" "_law_is_same" (defArgs s__law_is_same) (defBody s__law_is_same) (defScope s__law_is_same) .none kV__law_is_same dc__law_is_same pm__law_is_same an__law_is_same cd__law_is_same ct__law_is_same), sl__law_is_same⟩)
    (x__law_is_same : PySem.W.codeIn K cd__law_is_same "_law_is_same" = true)
    (k__law_is_same : PySem.W.keepIn K (.ref f__law_is_same) = true)
    (l_is_row : K.lookup f_is_row = some ⟨oc_is_row, od_is_row, .func (PySem.W.fnOf "is_row" "is_row" (defArgs s_is_row) (defBody s_is_row) (defScope s_is_row) .none kV_is_row dc_is_row pm_is_row an_is_row cd_is_row ct_is_row), sl_is_row⟩)
    (x_is_row : PySem.W.codeIn K cd_is_row "is_row" = true)
    (k_is_row : PySem.W.keepIn K (.ref f_is_row) = true)
    (l_product : K.lookup f_product = some ⟨oc_product, od_product, .func (PySem.W.fnOf "product" "product" (defArgs s_product) (defBody s_product) (defScope s_product) .none kV_product dc_product pm_product an_product cd_product ct_product), sl_product⟩)
    (x_product : PySem.W.codeIn K cd_product "product" = true)
    (k_product : PySem.W.keepIn K (.ref f_product) = true)
    (l_total_of_products : K.lookup f_total_of_products = some ⟨oc_total_of_products, od_total_of_products, .func (PySem.W.fnOf "total_of_products" "total_of_products" (defArgs s_total_of_products) (defBody s_total_of_products) (defScope s_total_of_products) .none kV_total_of_products dc_total_of_products pm_total_of_products an_total_of_products cd_total_of_products ct_total_of_products), sl_total_of_products⟩)
    (x_total_of_products : PySem.W.codeIn K cd_total_of_products "total_of_products" = true)
    (k_total_of_products : PySem.W.keepIn K (.ref f_total_of_products) = true)
    (l_Observer_odds_get : K.lookup f_Observer_odds_get = some ⟨oc_Observer_odds_get, od_Observer_odds_get, .func (PySem.W.fnOf "odds" "Observer.odds" (defArgs s_Observer_odds_get) (defBody s_Observer_odds_get) (defScope s_Observer_odds_get) .none kV_Observer_odds_get dc_Observer_odds_get pm_Observer_odds_get an_Observer_odds_get cd_Observer_odds_get ct_Observer_odds_get), sl_Observer_odds_get⟩)
    (x_Observer_odds_get : PySem.W.codeIn K cd_Observer_odds_get "Observer.odds" = true)
    (k_Observer_odds_get : PySem.W.keepIn K (.ref f_Observer_odds_get) = true)
    (l_Observer_expects : K.lookup f_Observer_expects = some ⟨oc_Observer_expects, od_Observer_expects, .func (PySem.W.fnOf "expects" "Observer.expects" (defArgs s_Observer_expects) (defBody s_Observer_expects) (defScope s_Observer_expects) .none kV_Observer_expects dc_Observer_expects pm_Observer_expects an_Observer_expects cd_Observer_expects ct_Observer_expects), sl_Observer_expects⟩)
    (x_Observer_expects : PySem.W.codeIn K cd_Observer_expects "Observer.expects" = true)
    (k_Observer_expects : PySem.W.keepIn K (.ref f_Observer_expects) = true)
    (l__law_parts : K.lookup f__law_parts = some ⟨oc__law_parts, od__law_parts, .func (PySem.W.fnOf "_law_parts" "_law_parts" (defArgs s__law_parts) (defBody s__law_parts) (defScope s__law_parts) .none kV__law_parts dc__law_parts pm__law_parts an__law_parts cd__law_parts ct__law_parts), sl__law_parts⟩)
    (x__law_parts : PySem.W.codeIn K cd__law_parts "_law_parts" = true)
    (k__law_parts : PySem.W.keepIn K (.ref f__law_parts) = true)
    (l__law_due : K.lookup f__law_due = some ⟨oc__law_due, od__law_due, .func (PySem.W.fnOf "_law_due" "_law_due" (defArgs s__law_due) (defBody s__law_due) (defScope s__law_due) .none kV__law_due dc__law_due pm__law_due an__law_due cd__law_due ct__law_due), sl__law_due⟩)
    (x__law_due : PySem.W.codeIn K cd__law_due "_law_due" = true)
    (k__law_due : PySem.W.keepIn K (.ref f__law_due) = true)
    (l__law_is_refused : K.lookup f__law_is_refused = some ⟨oc__law_is_refused, od__law_is_refused, .func (PySem.W.fnOf "_law_is_refused" "_law_is_refused" (defArgs s__law_is_refused) (defBody s__law_is_refused) (defScope s__law_is_refused) .none kV__law_is_refused dc__law_is_refused pm__law_is_refused an__law_is_refused cd__law_is_refused ct__law_is_refused), sl__law_is_refused⟩)
    (x__law_is_refused : PySem.W.codeIn K cd__law_is_refused "_law_is_refused" = true)
    (k__law_is_refused : PySem.W.keepIn K (.ref f__law_is_refused) = true)
    (l_law : K.lookup f_law = some ⟨oc_law, od_law, .func (PySem.W.fnOf "law" "law" (defArgs s_law) (defBody s_law) (defScope s_law) .none kV_law dc_law pm_law an_law cd_law ct_law), sl_law⟩)
    (x_law : PySem.W.codeIn K cd_law "law" = true)
    (k_law : PySem.W.keepIn K (.ref f_law) = true)
    (q_InvalidFractionError : PySem.W.nsIn K mainGlobals "InvalidFractionError" = some (some (.ref E_InvalidFractionError)))
    (ex_InvalidFractionError : PySem.W.excIn K E_InvalidFractionError [.type "ValueError", .type "Exception", .type "BaseException", .type "object"] "ValueError.__new__" = true)
    (ek_InvalidFractionError : PySem.W.keepIn K (.ref E_InvalidFractionError) = true)
    (es_InvalidFractionError : PySem.W.subIn K (.ref E_InvalidFractionError) (.type "BaseException") = some true)
    (et_InvalidFractionError : PySem.W.typeIn K (.ref E_InvalidFractionError) = some (.type "type"))
    (q_InvalidLabelsError : PySem.W.nsIn K mainGlobals "InvalidLabelsError" = some (some (.ref E_InvalidLabelsError)))
    (ex_InvalidLabelsError : PySem.W.excIn K E_InvalidLabelsError [.type "ValueError", .type "Exception", .type "BaseException", .type "object"] "ValueError.__new__" = true)
    (ek_InvalidLabelsError : PySem.W.keepIn K (.ref E_InvalidLabelsError) = true)
    (es_InvalidLabelsError : PySem.W.subIn K (.ref E_InvalidLabelsError) (.type "BaseException") = some true)
    (et_InvalidLabelsError : PySem.W.typeIn K (.ref E_InvalidLabelsError) = some (.type "type"))
    (q_InvalidOddsError : PySem.W.nsIn K mainGlobals "InvalidOddsError" = some (some (.ref E_InvalidOddsError)))
    (ex_InvalidOddsError : PySem.W.excIn K E_InvalidOddsError [.type "ValueError", .type "Exception", .type "BaseException", .type "object"] "ValueError.__new__" = true)
    (ek_InvalidOddsError : PySem.W.keepIn K (.ref E_InvalidOddsError) = true)
    (es_InvalidOddsError : PySem.W.subIn K (.ref E_InvalidOddsError) (.type "BaseException") = some true)
    (et_InvalidOddsError : PySem.W.typeIn K (.ref E_InvalidOddsError) = some (.type "type"))
    (q_InvalidAmountsError : PySem.W.nsIn K mainGlobals "InvalidAmountsError" = some (some (.ref E_InvalidAmountsError)))
    (ex_InvalidAmountsError : PySem.W.excIn K E_InvalidAmountsError [.type "ValueError", .type "Exception", .type "BaseException", .type "object"] "ValueError.__new__" = true)
    (ek_InvalidAmountsError : PySem.W.keepIn K (.ref E_InvalidAmountsError) = true)
    (es_InvalidAmountsError : PySem.W.subIn K (.ref E_InvalidAmountsError) (.type "BaseException") = some true)
    (et_InvalidAmountsError : PySem.W.typeIn K (.ref E_InvalidAmountsError) = some (.type "type"))
    (ei_InvalidAmountsError : PySem.W.isClsIn K E_InvalidAmountsError = true)
    (eu_InvalidFractionError_InvalidAmountsError : PySem.W.subIn K (.ref E_InvalidFractionError) (.ref E_InvalidAmountsError) = some false)
    (eu_InvalidLabelsError_InvalidAmountsError : PySem.W.subIn K (.ref E_InvalidLabelsError) (.ref E_InvalidAmountsError) = some false)
    (eu_InvalidOddsError_InvalidAmountsError : PySem.W.subIn K (.ref E_InvalidOddsError) (.ref E_InvalidAmountsError) = some false)
    (eu_InvalidAmountsError_InvalidAmountsError : PySem.W.subIn K (.ref E_InvalidAmountsError) (.ref E_InvalidAmountsError) = some true)
    (z_len : PySem.W.nsIn K mainGlobals "len" = some none)
    (z_range : PySem.W.nsIn K mainGlobals "range" = some none)
    (z_tuple : PySem.W.nsIn K mainGlobals "tuple" = some none)
    (z_abs : PySem.W.nsIn K mainGlobals "abs" = some none)
    (z_isinstance : PySem.W.nsIn K mainGlobals "isinstance" = some none)
    (z_bool : PySem.W.nsIn K mainGlobals "bool" = some none)
    (z_int : PySem.W.nsIn K mainGlobals "int" = some none)
    (z_max : PySem.W.nsIn K mainGlobals "max" = some none)
    (z_enumerate : PySem.W.nsIn K mainGlobals "enumerate" = some none)
    (z_all : PySem.W.nsIn K mainGlobals "all" = some none)
    (z_sum : PySem.W.nsIn K mainGlobals "sum" = some none)
    (z_str : PySem.W.nsIn K mainGlobals "str" = some none)
    (z_list : PySem.W.nsIn K mainGlobals "list" = some none)
    (n_CASE_LIMIT : PySem.W.nsIn K mainGlobals "CASE_LIMIT" = some (some (.int 12 tk_CASE_LIMIT)))
    : ∃ fd : FuncData, (∀ (s : Shared) (v : Value), BindsTo s fd ⟨[v], []⟩ [("_law_script", v)]) ∧
      ∀ base : Heap, K.In base → base.Ns mainGlobals mg → Wr.FnG l.prog w K mg base L2.CX0 12 fa fd ["_law_script"] (Wr.sp_law K) := by
  have e := hfa.symm.trans (PySem.W.mg_of X G a_law)
  cases e
  have F__law_cell := fun_mk (st := s__law_cell) (qual := "_law_cell") l__law_cell x__law_cell k__law_cell
  have B__law_cell := F__law_cell.binds (ps := ["_law_script", "_law_k"]) fun _ _ _ _ _ _ us hl => match us, hl with | [_, _], _ => rfl
  have F__law_draws := fun_mk (st := s__law_draws) (qual := "_law_draws") l__law_draws x__law_draws k__law_draws
  have B__law_draws := F__law_draws.binds (ps := ["_law_cell_here", "_law_sizes"]) fun _ _ _ _ _ _ us hl => match us, hl with | [_, _], _ => rfl
  have F__law_labels := fun_mk (st := s__law_labels) (qual := "_law_labels") l__law_labels x__law_labels k__law_labels
  have B__law_labels := F__law_labels.binds (ps := ["_law_keys"]) fun _ _ _ _ _ _ us hl => match us, hl with | [_], _ => rfl
  have F__law_row := fun_mk (st := s__law_row) (qual := "_law_row") l__law_row x__law_row k__law_row
  have B__law_row := F__law_row.binds (ps := ["_law_cell_here", "_law_n"]) fun _ _ _ _ _ _ us hl => match us, hl with | [_, _], _ => rfl
  have F__law_fraction := fun_mk (st := s__law_fraction) (qual := "_law_fraction") l__law_fraction x__law_fraction k__law_fraction
  have B__law_fraction := F__law_fraction.binds (ps := ["_law_top", "_law_bottom"]) fun _ _ _ _ _ _ us hl => match us, hl with | [_, _], _ => rfl
  have F_is_whole := fun_mk (st := s_is_whole) (qual := "is_whole") l_is_whole x_is_whole k_is_whole
  have B_is_whole := F_is_whole.binds (ps := ["value"]) fun _ _ _ _ _ _ us hl => match us, hl with | [_], _ => rfl
  have F_is_valid_labels := fun_mk (st := s_is_valid_labels) (qual := "is_valid_labels") l_is_valid_labels x_is_valid_labels k_is_valid_labels
  have B_is_valid_labels := F_is_valid_labels.binds (ps := ["value"]) fun _ _ _ _ _ _ us hl => match us, hl with | [_], _ => rfl
  have F_check_labels := fun_mk (st := s_check_labels) (qual := "check_labels") l_check_labels x_check_labels k_check_labels
  have B_check_labels := F_check_labels.binds (ps := ["value"]) fun _ _ _ _ _ _ us hl => match us, hl with | [_], _ => rfl
  have F_parts_of := fun_mk (st := s_parts_of) (qual := "parts_of") l_parts_of x_parts_of k_parts_of
  have B_parts_of := F_parts_of.binds (ps := ["labels"]) fun _ _ _ _ _ _ us hl => match us, hl with | [_], _ => rfl
  have F_common_divisor := fun_mk (st := s_common_divisor) (qual := "common_divisor") l_common_divisor x_common_divisor k_common_divisor
  have B_common_divisor := F_common_divisor.binds (ps := ["top", "bottom"]) fun _ _ _ _ _ _ us hl => match us, hl with | [_, _], _ => rfl
  have F_is_valid_fraction := fun_mk (st := s_is_valid_fraction) (qual := "is_valid_fraction") l_is_valid_fraction x_is_valid_fraction k_is_valid_fraction
  have B_is_valid_fraction := F_is_valid_fraction.binds (ps := ["value"]) fun _ _ _ _ _ _ us hl => match us, hl with | [_], _ => rfl
  have F_is_positive_fraction := fun_mk (st := s_is_positive_fraction) (qual := "is_positive_fraction") l_is_positive_fraction x_is_positive_fraction k_is_positive_fraction
  have B_is_positive_fraction := F_is_positive_fraction.binds (ps := ["value"]) fun _ _ _ _ _ _ us hl => match us, hl with | [_], _ => rfl
  have F_check_fractions := fun_mk (st := s_check_fractions) (qual := "check_fractions") l_check_fractions x_check_fractions k_check_fractions
  have B_check_fractions := F_check_fractions.binds (ps := ["values"]) fun _ _ _ _ _ _ us hl => match us, hl with | [_], _ => rfl
  have F_fraction := fun_mk (st := s_fraction) (qual := "fraction") l_fraction x_fraction k_fraction
  have B_fraction := F_fraction.binds (ps := ["top", "bottom"]) fun _ _ _ _ _ _ us hl => match us, hl with | [_, _], _ => rfl
  have F_total := fun_mk (st := s_total) (qual := "total") l_total x_total k_total
  have F_total_at := fun_mk (st := s_total_at) (qual := "total_at") l_total_at x_total_at k_total_at
  have B_total_at := F_total_at.binds (ps := ["values", "places"]) fun _ _ _ _ _ _ us hl => match us, hl with | [_, _], _ => rfl
  have F_are_odds := fun_mk (st := s_are_odds) (qual := "are_odds") l_are_odds x_are_odds k_are_odds
  have B_are_odds := F_are_odds.binds (ps := ["value", "labels", "parts"]) fun _ _ _ _ _ _ us hl => match us, hl with | [_, _, _], _ => rfl
  have F_Observer_odds_set := fun_mk (st := s_Observer_odds_set) (qual := "Observer.odds") l_Observer_odds_set x_Observer_odds_set k_Observer_odds_set
  have B_Observer_odds_set := F_Observer_odds_set.binds (ps := ["self", "value"]) fun _ _ _ _ _ _ us hl => match us, hl with | [_, _], _ => rfl
  have F_Observer_init := fun_mk (st := s_Observer_init) (qual := "Observer.__init__") l_Observer_init x_Observer_init k_Observer_init
  have B_Observer_init := F_Observer_init.binds (ps := ["self", "labels", "odds"]) fun _ _ _ _ _ _ us hl => match us, hl with | [_, _, _], _ => rfl
  have F__law_odds := fun_mk (st := s__law_odds) (qual := "_law_odds") l__law_odds x__law_odds k__law_odds
  have B__law_odds := F__law_odds.binds (ps := ["_law_labels_here", "_law_weights"]) fun _ _ _ _ _ _ us hl => match us, hl with | [_, _], _ => rfl
  have F__law_is_same := fun_mk (st := s__law_is_same) (qual := "_law_is_same") l__law_is_same x__law_is_same k__law_is_same
  have B__law_is_same := F__law_is_same.binds (ps := ["_law_actual", "_law_wanted"]) fun _ _ _ _ _ _ us hl => match us, hl with | [_, _], _ => rfl
  have F_is_row := fun_mk (st := s_is_row) (qual := "is_row") l_is_row x_is_row k_is_row
  have B_is_row := F_is_row.binds (ps := ["value", "many"]) fun _ _ _ _ _ _ us hl => match us, hl with | [_, _], _ => rfl
  have F_product := fun_mk (st := s_product) (qual := "product") l_product x_product k_product
  have F_total_of_products := fun_mk (st := s_total_of_products) (qual := "total_of_products") l_total_of_products x_total_of_products k_total_of_products
  have B_total_of_products := F_total_of_products.binds (ps := ["values", "factors", "places"]) fun _ _ _ _ _ _ us hl => match us, hl with | [_, _, _], _ => rfl
  have F_Observer_odds_get := fun_mk (st := s_Observer_odds_get) (qual := "Observer.odds") l_Observer_odds_get x_Observer_odds_get k_Observer_odds_get
  have B_Observer_odds_get := F_Observer_odds_get.binds (ps := ["self"]) fun _ _ _ _ _ _ us hl => match us, hl with | [_], _ => rfl
  have F_Observer_expects := fun_mk (st := s_Observer_expects) (qual := "Observer.expects") l_Observer_expects x_Observer_expects k_Observer_expects
  have B_Observer_expects := F_Observer_expects.binds (ps := ["self", "amounts"]) fun _ _ _ _ _ _ us hl => match us, hl with | [_, _], _ => rfl
  have F__law_parts := fun_mk (st := s__law_parts) (qual := "_law_parts") l__law_parts x__law_parts k__law_parts
  have B__law_parts := F__law_parts.binds (ps := ["_law_labels_here"]) fun _ _ _ _ _ _ us hl => match us, hl with | [_], _ => rfl
  have F__law_due := fun_mk (st := s__law_due) (qual := "_law_due") l__law_due x__law_due k__law_due
  have B__law_due := F__law_due.binds (ps := ["_law_row_here", "_law_amounts"]) fun _ _ _ _ _ _ us hl => match us, hl with | [_, _], _ => rfl
  have F__law_is_refused := fun_mk (st := s__law_is_refused) (qual := "_law_is_refused") l__law_is_refused x__law_is_refused k__law_is_refused
  have B__law_is_refused := F__law_is_refused.binds (ps := ["_law_made", "_law_amounts"]) fun _ _ _ _ _ _ us hl => match us, hl with | [_, _], _ => rfl
  have F_law := fun_mk (st := s_law) (qual := "law") l_law x_law k_law
  have B_law := F_law.binds (ps := ["_law_script"]) fun _ _ _ _ _ _ us hl => match us, hl with | [_], _ => rfl
  let T : Txt K mg := { c_Observer := C_Observer, h_Observer := PySem.W.mg_of X G n_Observer, cls_Observer := ⟨c1_Observer, c2_Observer, c3_Observer, c4_Observer⟩, a__law_cell := _, d__law_cell := _, f__law_cell := F__law_cell, b__law_cell := B__law_cell, g__law_cell := PySem.W.mg_of X G a__law_cell, a__law_draws := _, d__law_draws := _, f__law_draws := F__law_draws, b__law_draws := B__law_draws, g__law_draws := PySem.W.mg_of X G a__law_draws, a__law_labels := _, d__law_labels := _, f__law_labels := F__law_labels, b__law_labels := B__law_labels, g__law_labels := PySem.W.mg_of X G a__law_labels, a__law_row := _, d__law_row := _, f__law_row := F__law_row, b__law_row := B__law_row, g__law_row := PySem.W.mg_of X G a__law_row, a__law_fraction := _, d__law_fraction := _, f__law_fraction := F__law_fraction, b__law_fraction := B__law_fraction, g__law_fraction := PySem.W.mg_of X G a__law_fraction, a_is_whole := _, d_is_whole := _, f_is_whole := F_is_whole, b_is_whole := B_is_whole, g_is_whole := PySem.W.mg_of X G a_is_whole, a_is_valid_labels := _, d_is_valid_labels := _, f_is_valid_labels := F_is_valid_labels, b_is_valid_labels := B_is_valid_labels, g_is_valid_labels := PySem.W.mg_of X G a_is_valid_labels, a_check_labels := _, d_check_labels := _, f_check_labels := F_check_labels, b_check_labels := B_check_labels, g_check_labels := PySem.W.mg_of X G a_check_labels, a_parts_of := _, d_parts_of := _, f_parts_of := F_parts_of, b_parts_of := B_parts_of, g_parts_of := PySem.W.mg_of X G a_parts_of, a_common_divisor := _, d_common_divisor := _, f_common_divisor := F_common_divisor, b_common_divisor := B_common_divisor, g_common_divisor := PySem.W.mg_of X G a_common_divisor, a_is_valid_fraction := _, d_is_valid_fraction := _, f_is_valid_fraction := F_is_valid_fraction, b_is_valid_fraction := B_is_valid_fraction, g_is_valid_fraction := PySem.W.mg_of X G a_is_valid_fraction, a_is_positive_fraction := _, d_is_positive_fraction := _, f_is_positive_fraction := F_is_positive_fraction, b_is_positive_fraction := B_is_positive_fraction, g_is_positive_fraction := PySem.W.mg_of X G a_is_positive_fraction, a_check_fractions := _, d_check_fractions := _, f_check_fractions := F_check_fractions, b_check_fractions := B_check_fractions, g_check_fractions := PySem.W.mg_of X G a_check_fractions, a_fraction := _, d_fraction := _, f_fraction := F_fraction, b_fraction := B_fraction, g_fraction := PySem.W.mg_of X G a_fraction, a_total := _, d_total := _, f_total := F_total, g_total := PySem.W.mg_of X G a_total, a_total_at := _, d_total_at := _, f_total_at := F_total_at, b_total_at := B_total_at, g_total_at := PySem.W.mg_of X G a_total_at, a_are_odds := _, d_are_odds := _, f_are_odds := F_are_odds, b_are_odds := B_are_odds, g_are_odds := PySem.W.mg_of X G a_are_odds, a_Observer_odds_set := _, d_Observer_odds_set := _, f_Observer_odds_set := F_Observer_odds_set, b_Observer_odds_set := B_Observer_odds_set, a_Observer_init := _, d_Observer_init := _, f_Observer_init := F_Observer_init, b_Observer_init := B_Observer_init, a__law_odds := _, d__law_odds := _, f__law_odds := F__law_odds, b__law_odds := B__law_odds, g__law_odds := PySem.W.mg_of X G a__law_odds, a__law_is_same := _, d__law_is_same := _, f__law_is_same := F__law_is_same, b__law_is_same := B__law_is_same, g__law_is_same := PySem.W.mg_of X G a__law_is_same, a_is_row := _, d_is_row := _, f_is_row := F_is_row, b_is_row := B_is_row, g_is_row := PySem.W.mg_of X G a_is_row, a_product := _, d_product := _, f_product := F_product, g_product := PySem.W.mg_of X G a_product, a_total_of_products := _, d_total_of_products := _, f_total_of_products := F_total_of_products, b_total_of_products := B_total_of_products, g_total_of_products := PySem.W.mg_of X G a_total_of_products, a_Observer_odds_get := _, d_Observer_odds_get := _, f_Observer_odds_get := F_Observer_odds_get, b_Observer_odds_get := B_Observer_odds_get, a_Observer_expects := _, d_Observer_expects := _, f_Observer_expects := F_Observer_expects, b_Observer_expects := B_Observer_expects, a__law_parts := _, d__law_parts := _, f__law_parts := F__law_parts, b__law_parts := B__law_parts, g__law_parts := PySem.W.mg_of X G a__law_parts, a__law_due := _, d__law_due := _, f__law_due := F__law_due, b__law_due := B__law_due, g__law_due := PySem.W.mg_of X G a__law_due, a__law_is_refused := _, d__law_is_refused := _, f__law_is_refused := F__law_is_refused, b__law_is_refused := B__law_is_refused, g__law_is_refused := PySem.W.mg_of X G a__law_is_refused, a_law := _, d_law := _, f_law := F_law, b_law := B_law, g_law := PySem.W.mg_of X G a_law, kb_Observer_tuple := kb_Observer_tuple, it_Observer := ⟨⟨c1_Observer, c2_Observer, c3_Observer, c4_Observer⟩, it1_Observer, itn, itt, it2_Observer⟩, kb_Observer_bool := kb_Observer_bool, kb_Observer_int := kb_Observer_int, na_Observer_parts := na_Observer_parts, na_Observer_labels := na_Observer_labels, na_Observer_held_odds := na_Observer_held_odds, p_Observer_odds := P_Observer_odds, pr_Observer_odds := ⟨p1_Observer_odds, p2_Observer_odds, p3_Observer_odds, ⟨_, p4_Observer_odds⟩⟩, u_Observer_odds := U_Observer_odds, r_Observer_odds := Q_Observer_odds, ps_Observer_odds := ⟨s1_Observer_odds, s2_Observer_odds, s3_Observer_odds⟩, mk_Observer := ⟨mk1_Observer, mk2_Observer, mk3_Observer, mk4_Observer⟩, kb_Observer_str := kb_Observer_str, me_Observer_expects := ⟨me1_Observer_expects, me2_Observer_expects, k_Observer_expects⟩, e_InvalidFractionError := E_InvalidFractionError, h_InvalidFractionError := PySem.W.mg_of X G q_InvalidFractionError, x_InvalidFractionError := ex_InvalidFractionError, k_InvalidFractionError := ek_InvalidFractionError, s_InvalidFractionError := es_InvalidFractionError, t_InvalidFractionError := et_InvalidFractionError, e_InvalidLabelsError := E_InvalidLabelsError, h_InvalidLabelsError := PySem.W.mg_of X G q_InvalidLabelsError, x_InvalidLabelsError := ex_InvalidLabelsError, k_InvalidLabelsError := ek_InvalidLabelsError, s_InvalidLabelsError := es_InvalidLabelsError, t_InvalidLabelsError := et_InvalidLabelsError, e_InvalidOddsError := E_InvalidOddsError, h_InvalidOddsError := PySem.W.mg_of X G q_InvalidOddsError, x_InvalidOddsError := ex_InvalidOddsError, k_InvalidOddsError := ek_InvalidOddsError, s_InvalidOddsError := es_InvalidOddsError, t_InvalidOddsError := et_InvalidOddsError, e_InvalidAmountsError := E_InvalidAmountsError, h_InvalidAmountsError := PySem.W.mg_of X G q_InvalidAmountsError, x_InvalidAmountsError := ex_InvalidAmountsError, k_InvalidAmountsError := ek_InvalidAmountsError, s_InvalidAmountsError := es_InvalidAmountsError, t_InvalidAmountsError := et_InvalidAmountsError, m_InvalidFractionError_InvalidAmountsError := Wr.exm_is es_InvalidAmountsError ei_InvalidAmountsError et_InvalidAmountsError eu_InvalidFractionError_InvalidAmountsError, m_InvalidLabelsError_InvalidAmountsError := Wr.exm_is es_InvalidAmountsError ei_InvalidAmountsError et_InvalidAmountsError eu_InvalidLabelsError_InvalidAmountsError, m_InvalidOddsError_InvalidAmountsError := Wr.exm_is es_InvalidAmountsError ei_InvalidAmountsError et_InvalidAmountsError eu_InvalidOddsError_InvalidAmountsError, m_InvalidAmountsError_InvalidAmountsError := Wr.exm_is es_InvalidAmountsError ei_InvalidAmountsError et_InvalidAmountsError eu_InvalidAmountsError_InvalidAmountsError, z_len := PySem.W.mg_none_of X G z_len, z_range := PySem.W.mg_none_of X G z_range, z_tuple := PySem.W.mg_none_of X G z_tuple, z_abs := PySem.W.mg_none_of X G z_abs, z_isinstance := PySem.W.mg_none_of X G z_isinstance, z_bool := PySem.W.mg_none_of X G z_bool, z_int := PySem.W.mg_none_of X G z_int, z_max := PySem.W.mg_none_of X G z_max, z_enumerate := PySem.W.mg_none_of X G z_enumerate, z_all := PySem.W.mg_none_of X G z_all, z_sum := PySem.W.mg_none_of X G z_sum, z_str := PySem.W.mg_none_of X G z_str, z_list := PySem.W.mg_none_of X G z_list, v_CASE_LIMIT := tk_CASE_LIMIT, g_CASE_LIMIT := PySem.W.mg_of X G n_CASE_LIMIT }
  exact ⟨_, fun s v => .of_eq rfl, fun base _ _ => law_end (T := tb T) (D_law (P := l.prog) (w := w) (base := base) T) law_true⟩
end Lw
open PySem PySem.W PyProof.Rows
set_option maxHeartbeats 0 in
theorem PySem.Challenge.cw_wagerroom_k50_expected_amounts_holds : PySem.Challenge.rw_wagerroom_k50_expected_amounts.Holds := by
  w_on; o_law; k_head; (case hw => w_witness2)
  k_fill
  refine Wr.walk_ofG (l := PySem.Challenge.rw_wagerroom_k50_expected_amounts) (n := 63) (k := 12) (x := "_law_script")
    (sp := fun K => Wr.sp_law K) rfl (by decide) rfl ⟨rfl, by decide, by decide⟩
    (fun w h Y => PySem.W.kIn_of Y) ?F Wr.law_start
  case F =>
    intro w mg fa h KX G hmg
    refine' Lw.all_mk KX G hmg ?n_Observer ?c1_Observer ?c2_Observer ?c3_Observer ?c4_Observer ?a__law_cell ?a__law_draws ?a__law_labels ?a__law_row ?a__law_fraction ?a_is_whole ?a_is_valid_labels ?a_check_labels ?a_parts_of ?a_common_divisor ?a_is_valid_fraction ?a_is_positive_fraction ?a_check_fractions ?a_fraction ?a_total ?a_total_at ?a_are_odds ?a__law_odds ?a__law_is_same ?a_is_row ?a_product ?a_total_of_products ?a__law_parts ?a__law_due ?a__law_is_refused ?a_law ?kb_Observer_tuple ?it1_Observer ?it2_Observer ?kb_Observer_bool ?kb_Observer_int ?na_Observer_parts ?na_Observer_labels ?na_Observer_held_odds ?p1_Observer_odds ?p2_Observer_odds ?p3_Observer_odds ?p4_Observer_odds ?s1_Observer_odds ?s2_Observer_odds ?s3_Observer_odds ?mk1_Observer ?mk2_Observer ?mk3_Observer ?mk4_Observer ?kb_Observer_str ?me1_Observer_expects ?me2_Observer_expects ?itn ?itt ?l__law_cell ?x__law_cell ?k__law_cell ?l__law_draws ?x__law_draws ?k__law_draws ?l__law_labels ?x__law_labels ?k__law_labels ?l__law_row ?x__law_row ?k__law_row ?l__law_fraction ?x__law_fraction ?k__law_fraction ?l_is_whole ?x_is_whole ?k_is_whole ?l_is_valid_labels ?x_is_valid_labels ?k_is_valid_labels ?l_check_labels ?x_check_labels ?k_check_labels ?l_parts_of ?x_parts_of ?k_parts_of ?l_common_divisor ?x_common_divisor ?k_common_divisor ?l_is_valid_fraction ?x_is_valid_fraction ?k_is_valid_fraction ?l_is_positive_fraction ?x_is_positive_fraction ?k_is_positive_fraction ?l_check_fractions ?x_check_fractions ?k_check_fractions ?l_fraction ?x_fraction ?k_fraction ?l_total ?x_total ?k_total ?l_total_at ?x_total_at ?k_total_at ?l_are_odds ?x_are_odds ?k_are_odds ?l_Observer_odds_set ?x_Observer_odds_set ?k_Observer_odds_set ?l_Observer_init ?x_Observer_init ?k_Observer_init ?l__law_odds ?x__law_odds ?k__law_odds ?l__law_is_same ?x__law_is_same ?k__law_is_same ?l_is_row ?x_is_row ?k_is_row ?l_product ?x_product ?k_product ?l_total_of_products ?x_total_of_products ?k_total_of_products ?l_Observer_odds_get ?x_Observer_odds_get ?k_Observer_odds_get ?l_Observer_expects ?x_Observer_expects ?k_Observer_expects ?l__law_parts ?x__law_parts ?k__law_parts ?l__law_due ?x__law_due ?k__law_due ?l__law_is_refused ?x__law_is_refused ?k__law_is_refused ?l_law ?x_law ?k_law ?q_InvalidFractionError ?ex_InvalidFractionError ?ek_InvalidFractionError ?es_InvalidFractionError ?et_InvalidFractionError ?q_InvalidLabelsError ?ex_InvalidLabelsError ?ek_InvalidLabelsError ?es_InvalidLabelsError ?et_InvalidLabelsError ?q_InvalidOddsError ?ex_InvalidOddsError ?ek_InvalidOddsError ?es_InvalidOddsError ?et_InvalidOddsError ?q_InvalidAmountsError ?ex_InvalidAmountsError ?ek_InvalidAmountsError ?es_InvalidAmountsError ?et_InvalidAmountsError ?ei_InvalidAmountsError ?eu_InvalidFractionError_InvalidAmountsError ?eu_InvalidLabelsError_InvalidAmountsError ?eu_InvalidOddsError_InvalidAmountsError ?eu_InvalidAmountsError_InvalidAmountsError ?z_len ?z_range ?z_tuple ?z_abs ?z_isinstance ?z_bool ?z_int ?z_max ?z_enumerate ?z_all ?z_sum ?z_str ?z_list ?n_CASE_LIMIT
    (case n_Observer => k_is); (case c1_Observer => k_is); (case c2_Observer => k_is); (case c3_Observer => k_is); (case c4_Observer => k_is); (case a__law_cell => k_is); (case a__law_draws => k_is); (case a__law_labels => k_is); (case a__law_row => k_is); (case a__law_fraction => k_is); (case a_is_whole => k_is); (case a_is_valid_labels => k_is); (case a_check_labels => k_is); (case a_parts_of => k_is); (case a_common_divisor => k_is); (case a_is_valid_fraction => k_is); (case a_is_positive_fraction => k_is); (case a_check_fractions => k_is); (case a_fraction => k_is); (case a_total => k_is); (case a_total_at => k_is); (case a_are_odds => k_is); (case a__law_odds => k_is); (case a__law_is_same => k_is); (case a_is_row => k_is); (case a_product => k_is); (case a_total_of_products => k_is); (case a__law_parts => k_is); (case a__law_due => k_is); (case a__law_is_refused => k_is); (case a_law => k_is); (case kb_Observer_tuple => kit_is); (case it1_Observer => k_is); (case it2_Observer => k_is); (case kb_Observer_bool => kit_is); (case kb_Observer_int => kit_is); (case na_Observer_parts => k_is); (case na_Observer_labels => k_is); (case na_Observer_held_odds => k_is); (case p1_Observer_odds => k_is); (case p2_Observer_odds => k_is); (case p3_Observer_odds => k_is); (case p4_Observer_odds => k_is); (case s1_Observer_odds => k_is); (case s2_Observer_odds => k_is); (case s3_Observer_odds => k_is); (case mk1_Observer => k_is); (case mk2_Observer => k_is); (case mk3_Observer => k_is); (case mk4_Observer => k_is); (case kb_Observer_str => kit_is); (case me1_Observer_expects => k_is); (case me2_Observer_expects => k_is); (case itn => k_is); (case itt => k_is); (case l__law_cell => k_is); (case x__law_cell => k_is); (case k__law_cell => k_is); (case l__law_draws => k_is); (case x__law_draws => k_is); (case k__law_draws => k_is); (case l__law_labels => k_is); (case x__law_labels => k_is); (case k__law_labels => k_is); (case l__law_row => k_is); (case x__law_row => k_is); (case k__law_row => k_is); (case l__law_fraction => k_is); (case x__law_fraction => k_is); (case k__law_fraction => k_is); (case l_is_whole => k_is); (case x_is_whole => k_is); (case k_is_whole => k_is); (case l_is_valid_labels => k_is); (case x_is_valid_labels => k_is); (case k_is_valid_labels => k_is); (case l_check_labels => k_is); (case x_check_labels => k_is); (case k_check_labels => k_is); (case l_parts_of => k_is); (case x_parts_of => k_is); (case k_parts_of => k_is); (case l_common_divisor => k_is); (case x_common_divisor => k_is); (case k_common_divisor => k_is); (case l_is_valid_fraction => k_is); (case x_is_valid_fraction => k_is); (case k_is_valid_fraction => k_is); (case l_is_positive_fraction => k_is); (case x_is_positive_fraction => k_is); (case k_is_positive_fraction => k_is); (case l_check_fractions => k_is); (case x_check_fractions => k_is); (case k_check_fractions => k_is); (case l_fraction => k_is); (case x_fraction => k_is); (case k_fraction => k_is); (case l_total => k_is); (case x_total => k_is); (case k_total => k_is); (case l_total_at => k_is); (case x_total_at => k_is); (case k_total_at => k_is); (case l_are_odds => k_is); (case x_are_odds => k_is); (case k_are_odds => k_is); (case l_Observer_odds_set => k_is); (case x_Observer_odds_set => k_is); (case k_Observer_odds_set => k_is); (case l_Observer_init => k_is); (case x_Observer_init => k_is); (case k_Observer_init => k_is); (case l__law_odds => k_is); (case x__law_odds => k_is); (case k__law_odds => k_is); (case l__law_is_same => k_is); (case x__law_is_same => k_is); (case k__law_is_same => k_is); (case l_is_row => k_is); (case x_is_row => k_is); (case k_is_row => k_is); (case l_product => k_is); (case x_product => k_is); (case k_product => k_is); (case l_total_of_products => k_is); (case x_total_of_products => k_is); (case k_total_of_products => k_is); (case l_Observer_odds_get => k_is); (case x_Observer_odds_get => k_is); (case k_Observer_odds_get => k_is); (case l_Observer_expects => k_is); (case x_Observer_expects => k_is); (case k_Observer_expects => k_is); (case l__law_parts => k_is); (case x__law_parts => k_is); (case k__law_parts => k_is); (case l__law_due => k_is); (case x__law_due => k_is); (case k__law_due => k_is); (case l__law_is_refused => k_is); (case x__law_is_refused => k_is); (case k__law_is_refused => k_is); (case l_law => k_is); (case x_law => k_is); (case k_law => k_is); (case q_InvalidFractionError => k_is); (case ex_InvalidFractionError => k_exc); (case ek_InvalidFractionError => k_is); (case es_InvalidFractionError => k_is); (case et_InvalidFractionError => k_is); (case q_InvalidLabelsError => k_is); (case ex_InvalidLabelsError => k_exc); (case ek_InvalidLabelsError => k_is); (case es_InvalidLabelsError => k_is); (case et_InvalidLabelsError => k_is); (case q_InvalidOddsError => k_is); (case ex_InvalidOddsError => k_exc); (case ek_InvalidOddsError => k_is); (case es_InvalidOddsError => k_is); (case et_InvalidOddsError => k_is); (case q_InvalidAmountsError => k_is); (case ex_InvalidAmountsError => k_exc); (case ek_InvalidAmountsError => k_is); (case es_InvalidAmountsError => k_is); (case et_InvalidAmountsError => k_is); (case ei_InvalidAmountsError => k_is); (case eu_InvalidFractionError_InvalidAmountsError => k_is); (case eu_InvalidLabelsError_InvalidAmountsError => k_is); (case eu_InvalidOddsError_InvalidAmountsError => k_is); (case eu_InvalidAmountsError_InvalidAmountsError => k_is); (case z_len => k_is); (case z_range => k_is); (case z_tuple => k_is); (case z_abs => k_is); (case z_isinstance => k_is); (case z_bool => k_is); (case z_int => k_is); (case z_max => k_is); (case z_enumerate => k_is); (case z_all => k_is); (case z_sum => k_is); (case z_str => k_is); (case z_list => k_is); (case n_CASE_LIMIT => k_is)
