import PyProof.Rows.All
import Wide.All
import OpenK.AllK
import Wide.FinOn
import PyProof.EqAt
import PyProof.EqKinds
import PyProof.TupleCall
import HandS.ForExc
import PyProof.ReprRoads
import PyProof.ReprLen
import HandS.ForMost
import HandS.IsInst
import HandS.Wide
import HandS.TupAny
import HandS.Style
import HandS.RevTup
import PyProof.Rows.ReprOcc
import KE.GoesEnum
import KE.DataMinMax
import HandS.Iter
import HandS.Star
import HandS.TupLen
import HandS.Deep
import KE.GoesMore
import KE.KDictZip
import PyProof.ListNew
import PyProof.ListRange
import HandS.WordsDict
import HandS.TryMany
import PyProof.JoinWalk
import HandS.Rev
import HandS.StrMore
import HandS.Codes
import HandS.HotCalls
import HandS.ExcIs
import HandS.SuiteRaise
import KE.IntTextText
import HandS.ReplaceList
import PyProof.Rows.StrDigitsNeg
import HandS.Walk
import HandS.ReplaceLit
import PySem.Challenge.RW_wagerroom_k58_text_of_a_fraction
set_option Elab.async false
set_option linter.all false
set_option maxRecDepth 100000
set_option maxHeartbeats 4000000
namespace Wr
open PySem PySem.Spec PyProof.Rows L2

/-! ## defs that are called where no repr is under way -/
section
variable {P : Program} {w : World} {K : PySem.W.Frag} {mg : Str → Option Value} {base : Heap}

structure FnG (P : Program) (w : World) (K : PySem.W.Frag) (mg : Str → Option Value)
    (base : Heap) (CX : CXT) (k : Nat) (f : Addr) (fd : FuncData) (ps : List Str)
    (sp : Sp) : Prop where
  many : ∀ xs H R Z, sp xs H R Z → xs.length = ps.length
  go : ∀ (B : Around) (out : List Env) (t : Shared) (H : Hp) (ar : Args)
    (ws : List Value) (xs : List V) (R : VK) (Z : XK),
    B.guards = some [] → Room k B → Env0 P w K mg base B out t H →
    BindsTo t fd ar (ps.zip ws) → Vals xs ws → sp xs H R Z →
    codeAny (model P w) B (.call (.ref f) ar) (CR CX out P w H t R Z) t

theorem FnG.of {CX : CXT} {k : Nat} {f : Addr} {fd : FuncData} {ps : List Str} {sp : Sp}
    (F : FnOk P w K mg base CX k f fd ps sp) : FnG P w K mg base CX k f fd ps sp :=
  ⟨F.len, fun B out t H ar ws xs R Z _ => F.run B out t H ar ws xs R Z⟩

theorem FnG.mono {CX : CXT} {j k : Nat} {f : Addr} {fd : FuncData} {ps : List Str} {sp : Sp}
    (F : FnG P w K mg base CX j f fd ps sp) (h : j ≤ k) : FnG P w K mg base CX k f fd ps sp :=
  ⟨F.many, fun B out t H ar ws xs R Z g r => F.go B out t H ar ws xs R Z g (r.mono h)⟩

theorem hkind_of {ps : List Str} {ws : List Value} {N : List Str} {sc : Scope}
    (S : FnScope N ps sc) :
    ((ps.zip ws).all fun y => sc.names.lookup y.1 == some .local
      || sc.names.lookup y.1 == some .cell) = true := by
  rw [List.all_eq_true]
  rintro ⟨n, v⟩ hy
  rcases S.par n (List.of_mem_zip hy).1 with q | q
  · show (sc.names.lookup n == some .local || _) = true
    rw [q]; rfl
  · show (sc.names.lookup n == some .local || sc.names.lookup n == some .cell) = true
    rw [q]; rfl

/-- a def by its body, guards known -/
theorem okG {CX : CXT} {x qual : Str} {st : Stmt} {f : Addr} {fd : FuncData} {N ps : List Str}
    {k : Nat} {sp : Sp} (F : L2.Fun K x qual st f fd) (S : FnScope N ps (defScope st))
    (many : ∀ xs H R Z, sp xs H R Z → xs.length = ps.length)
    (body : ∀ (cdv : Value) (B : Around) (out : List Env) (t : Shared) (H : Hp)
      (xs : List V) (R : VK) (Z : XK), B.guards = some [] →
      Room k (B.deeper (envOfC qual (defScope st) t.heap.objs.size f cdv)) → sp xs H R Z →
      ∃ rd, PSs (cxOf CX P w K mg base N qual (defScope st) f cdv B out t H Z) (defBody st) rd
        ∧ rd { nx := fun _ H' => R .non H', rt := R } (start N xs) H) :
    FnG P w K mg base CX (k + 1) f fd ps sp := by
  obtain ⟨oc, od, kV, doc, pm, an, cdv, ct, osl, rfl, lk, hcd⟩ := F.ex
  refine ⟨many, fun B out t H ar ws xs R Z hg hr e0 hb rv hs => ?_⟩
  have KX : K.In t.heap := e0.mod.kin.keeps fun b o e => (e0.bs b o e).1
  have lim : t.heap.NoLimit := e0.mod.nolimit.keeps fun b o e => (e0.bs b o e).1
  obtain ⟨rd, hp, hq⟩ := body cdv B out t H xs R Z hg (hr.deeper _) hs
  refine Att.call_fn KX lim lk hcd hr.depth hb (hkind_of S) (fun t1 x1 => ?_) S.co S.gen S.kind
  have I := inv_start (CX := CX) (P := P) (w := w) (K := K) (mg := mg) (base := base) (E := Z)
    S hr.hd e0 (many _ _ _ _ hs) rv x1
  refine wpAny_mono (hp.run [] t1 (start N xs) H _ I hq) (fun fl t2 h2 => ?_) fun e t2 h2 => h2
  have fin : ∀ {τ : L2.St} {H2 : Hp} {v : V} {u : Value},
      Inv (cxOf CX P w K mg base N qual (defScope st) f cdv B out t H Z) [] τ H2 t2 →
      RelV v u → R v H2 → CE out P w H t R u t2 :=
    fun {τ H2 v u} J r q => ⟨v, H2, J.os, J.bare, J.base, J.hok, r, q⟩
  cases fl with
  | ret u => obtain ⟨v, τ, H2, J, r, q⟩ := h2; exact fin J r q
  | next => obtain ⟨τ, H2, J, q⟩ := h2; exact fin (v := V.non) (u := Value.none) J rfl q
  | brk => obtain ⟨_, _, _, q⟩ := h2; exact q.elim
  | cont => obtain ⟨_, _, _, q⟩ := h2; exact q.elim

/-- .. one that lets nothing out -/
theorem okG0 {x qual : Str} {st : Stmt} {f : Addr} {fd : FuncData} {N ps : List Str}
    {k : Nat} {sp : Sp} (F : L2.Fun K x qual st f fd) (S : FnScope N ps (defScope st))
    (many : ∀ xs H R Z, sp xs H R Z → xs.length = ps.length)
    (body : ∀ (cdv : Value) (B : Around) (out : List Env) (t : Shared) (H : Hp)
      (xs : List V) (R : VK) (Z : XK), B.guards = some [] →
      Room k (B.deeper (envOfC qual (defScope st) t.heap.objs.size f cdv)) → sp xs H R Z →
      ∃ rd, PSs (cxOf CX0 P w K mg base N qual (defScope st) f cdv B out t H Z).nox
          (defBody st) rd
        ∧ rd { nx := fun _ H' => R .non H', rt := R } (start N xs) H) :
    FnG P w K mg base CX0 (k + 1) f fd ps sp :=
  okG F S many fun cdv B out t H xs R Z g r s =>
    let ⟨rd, h, q⟩ := body cdv B out t H xs R Z g r s
    ⟨rd, h.nox, q⟩
end

section
variable {X : Cx} {CX : CXT} {k : Nat} {f : Addr} {fd : FuncData} {ps : List Str} {sp : Sp}
  {dvs : List V} {ds : List Value} {E : XK} {x : Str} {p pos : Pos} {e : Expr}
  {es : List Expr} {t : TA}

theorem run_g {pins : List (Addr × Obj)} {σ : L2.St} {H : Hp} {s : Shared} {Q : VK}
    {us : List Value} {vs : List V}
    (F : FnG X.prog X.w X.K X.mg X.base CX k f fd ps sp) (hg : X.A.guards = some [])
    (hr : Room k X.A) (hb : Binds X.K fd ps ds) (hd : Vals dvs ds) (hx : Passes CX X E)
    (I : Inv X pins σ H s) (r : Vals vs us) (h : sp (vs ++ dvs) H Q E) :
    wpAny (model X.prog X.w) X.A (call (.ref f) us) (EP X pins σ Q) X.xe s := by
  have r2 : Vals (vs ++ dvs) (us ++ ds) := r.append hd
  have hl : (us ++ ds).length = ps.length := by rw [← r2.length]; exact F.many _ _ _ _ h
  have hb' := hb s us I.kIn hl
  have hc := F.go X.A X.stack s H ⟨us, []⟩ (us ++ ds) (vs ++ dvs) Q E hg hr I.env0 hb' r2 h
  refine wpAny_call (codeAny_mono hc fun res s' hq => ?_)
  match res, hq with
  | .error e, hq => exact hx pins σ H s e s' I hq
  | .ok (.ret u), hq => exact I.after hq
  | .ok .next, hq => exact False.elim hq
  | .ok .brk, hq => exact False.elim hq
  | .ok .cont, hq => exact False.elim hq

theorem pe_callG (F : FnG X.prog X.w X.K X.mg X.base CX k f fd ps sp)
    (hg' : X.A.guards = some []) (hr : Room k X.A) (hg : Gl X x)
    (hm : X.mg x = some (.ref f)) (hk : PySem.W.keepIn X.K (.ref f) = true)
    (hb : Binds X.K fd ps ds) (hd : Vals dvs ds) (hx : Passes CX X E) (ha : PA X (e :: es) t)
    (hdb : (x == ("__debug__" : Str)) = false := by decide)
    (he : starEach (e :: es) X.env = (false, eval e X.env) :: starEach es X.env := by rfl)
    (hpl : (backTo pos (starEach es X.env)).any (·.1) = false := by rfl) :
    PE X (.Call (.Name x p) (e :: es) [] pos) (tCall sp dvs E t) := by
  refine ⟨fun pins s σ H Q I h => wpAny_Call_Name_kw (ld_glob I hg hm ?_ hdb)⟩
  refine PySem.W.callWith_K (h₀ := X.base) I.ok.mod.kin hk ?_ he hpl
  exact thn (ha.run pos pins s σ H _ I h) fun us s1 ⟨vs, H1, I1, r, q⟩ =>
    ⟨I1.kIn, run_g F hg' hr hb hd hx I1 r q⟩
end

/-! ## the law's end -/
theorem law_callG {P : Program} {w : World} {K : PySem.W.Frag} {mg mb : Str → Option Value}
    {CX : CXT} {k : Nat} {fa a : Addr} {fd : FuncData} {x : Str} {sp : Sp} {s1 : Shared}
    {vs : List Value} {ns : List Int}
    (KX : K.In s1.heap) (hns : s1.heap.Ns mainGlobals mg) (hb : s1.heap.Ns builtinsNs mb)
    (hbb : ∀ x : Str, x ≠ "__name__" → mb x = bootBuiltins x) (hlim : s1.heap.NoLimit)
    (hg : s1.gens = #[])
    (ha : s1.heap.get? a = some { cls := .type "list", data := .seq vs.toArray })
    (hi : IntsAre vs ns) (hl : ns.length ≤ sizeLine) (hr : Room k callerA)
    (F : ∀ base : Heap, K.In base → base.Ns mainGlobals mg →
      FnG P w K mg base CX k fa fd [x] sp)
    (hbind : ∀ (s : Shared) (u : Value), BindsTo s fd ⟨[u], []⟩ [(x, u)])
    (hsp : ∀ H : Hp, Only H → SqL K H a (ns.map V.int) →
      sp [.ref a] H (fun v _ => v = .bl true) fun _ _ _ => False)
    (hCX : ∀ H e s', CX [] H s1 (fun _ _ _ => False) e s' → False) :
    codeAny (model P w) callerA (.call (.ref fa) ⟨[.ref a], []⟩)
      (fun r s' => r = .ok (.ret (.bool true)) ∧ OldK s1.heap s'.heap ∧ s'.os = s1.os
        ∧ AllBare s'.gens) s1 := by
  have rv := vals_ints hi
  have core : ∀ H : Hp, Only H → SqL K H a (ns.map V.int) → HOk P w H s1.heap →
      (∀ b, H b ≠ none → b = a) → (H a ≠ none → K.lookup a = none) →
      codeAny (model P w) callerA (.call (.ref fa) ⟨[.ref a], []⟩)
        (fun r s' => r = .ok (.ret (.bool true)) ∧ OldK s1.heap s'.heap ∧ s'.os = s1.os
          ∧ AllBare s'.gens) s1 := by
    intro H hO hS hok hA hK
    have only : ∀ {b : Addr} {u : HO}, H b = some u → b = a := fun {b u} q =>
      hA b (by rw [q]; exact fun z => nomatch z)
    have noD : ∀ {b : Addr} {o : Obj} {es : Array DictEntry} {ep : Nat},
        s1.heap.get? b = some o → o.data = .dict es ep → H b = none := by
      intro b o es ep e d
      cases q : H b with
      | none => rfl
      | some u =>
        obtain rfl := only q
        rw [ha] at e
        cases e
        have d2 : Data.seq vs.toArray _ = Data.dict es ep := d
        cases d2
    have nsK : ∀ {b : Addr} {m : Str → Option Value}, s1.heap.Ns b m → (hidT s1.heap H).Ns b m := by
      rintro b m ⟨o, es, ep, e, d, r⟩
      exact ⟨o, es, ep, hidT_get e (noD e d), d, r⟩
    have hKb : K.In (hidT s1.heap H) := by
      intro b o e
      refine hidT_get (KX b o e) ?_
      cases q : H b with
      | none => rfl
      | some u =>
        obtain rfl := only q
        have := hK (by rw [q]; exact fun z => nomatch z)
        rw [this] at e
        cases e
    obtain ⟨mc, hc1, hc2⟩ := hlim
    have hM : Mod K mg (hidT s1.heap H) := ⟨hKb, nsK hns, ⟨mb, nsK hb, hbb⟩, ⟨mc, nsK hc1, hc2⟩⟩
    have noF : ∀ b, b ∈ frs ([] : List Env) → H b = none := fun b z => nomatch z
    have e0 : Env0 P w K mg (hidT s1.heap H) callerA [] s1 H :=
      { frames := rfl, mod := hM, bs := fun b o e => of_hidT e, bsz := Nat.le_of_eq (hidT_size _ _)
        funs := trivial, frf := noF, hok := hok, bare := .of_eq hg }
    have hc := (F _ hKb (nsK hns)).go callerA [] s1 H ⟨[.ref a], []⟩ [.ref a] [.ref a] _ _ rfl hr e0
      (hbind s1 (.ref a)) (.cons rfl .nil) (hsp H hO hS)
    refine codeAny_mono hc fun r s' h => ?_
    match r, h with
    | .error e, h => exact (hCX H e s' h).elim
    | .ok .next, h => exact False.elim h
    | .ok .brk, h => exact False.elim h
    | .ok .cont, h => exact False.elim h
    | .ok (.ret u), h =>
      obtain ⟨v, H', os, bare, un, hok', r', q⟩ := h
      have q2 : v = .bl true := q
      subst q2
      obtain rfl : u = Value.bool true := r'
      refine ⟨rfl, OldK.of_keep fun b o e => ?_, os, bare⟩
      cases q3 : H b with
      | none => exact un.keep b o e q3 (fun z => nomatch z) (fun z => nomatch z)
      | some u =>
        rcases hO b with z | ⟨ob, xs, z⟩
        · rw [q3] at z; cases z
        · obtain ⟨e1, _⟩ := hok b _ z
          obtain ⟨e2, _⟩ := hok' b _ (un.frzs b ob _ z)
          rw [e] at e1
          cases e1
          exact e2
  cases hk : K.lookup a with
  | some o =>
    have e := KX a o hk
    rw [ha] at e
    cases e
    have hz : vs.toArray.size ≤ sizeLine := by rw [List.size_toArray, hi.length]; exact hl
    refine core (fun _ => none) (fun _ => .inl rfl)
      (.inr ⟨_, vs.toArray, _, hk, rfl, rfl, rfl, hz, by simpa using rv⟩)
      (fun b u z => nomatch (show (none : Option HO) = some u from z)) (fun b z => absurd rfl z)
      fun z => absurd rfl z
  | none =>
    let ob : Obj := { cls := .type "list", data := .seq vs.toArray }
    let H1 : Hp := fun b => if b = a then some (.frz ob (.lst (ns.map V.int))) else none
    have at1 : H1 a = some (.frz ob (.lst (ns.map V.int))) := if_pos rfl
    have off : ∀ b, b ≠ a → H1 b = none := fun b h => if_neg h
    refine core H1 (fun b => ?_) (.inl (.inr ⟨ob, at1⟩)) (fun b u z => ?_) (fun b z => ?_) fun _ => hk
    · by_cases hb : b = a
      · subst hb; exact .inr ⟨_, _, at1⟩
      · exact .inl (off b hb)
    · by_cases hb : b = a
      · subst hb
        rw [at1] at z
        cases z
        exact ⟨ha, by rw [List.length_map]; exact hl, vs, _, rv, ha⟩
      · rw [off b hb] at z; cases z
    · by_cases hb : b = a
      · exact hb
      · exact absurd (off b hb) z

/-- the goal that the head leaves -/
theorem walk_ofG {l : PySem.W.OpenLaw} {n k : Nat} {q : Program} {loose : List Str}
    {XP : (Str → Option Value) → Heap → Prop} {YP : World → Heap → Prop} {d : DefRec}
    {K : Params → PySem.W.Frag} {sp : PySem.W.Frag → Sp} {x : Str}
    (hn : l.most = some n) (hn2 : n ≤ sizeLine) (hdf : d.params.defaults = [])
    (hr : Room k callerA) (hY : ∀ (w : World) (h : Heap), YP w h → (K w.params).In h)
    (F : ∀ (w : World) (mg : Str → Option Value) (fa : Addr) (h : Heap), (K w.params).In h →
      h.Ns mainGlobals mg → mg d.name = some (.ref fa) →
      ∃ fd : FuncData, (∀ (s : Shared) (u : Value), BindsTo s fd ⟨[u], []⟩ [(x, u)]) ∧
        ∀ base : Heap, (K w.params).In base → base.Ns mainGlobals mg →
          FnG l.prog w (K w.params) mg base CX0 k fa fd [x] (sp (K w.params)))
    (hsp : ∀ (K : PySem.W.Frag) (H : Hp) (a : Addr) (ns : List Int), ns.length ≤ n → Only H →
      SqL K H a (ns.map V.int) → sp K [.ref a] H (fun v _ => v = .bl true) fun _ _ _ => False) :
    PySem.W.WalkO q loose XP YP l.row.toRowW d [] (fun f vs => PySem.call f vs) := by
  refine Att.attach_call hn hdf ?_
  intro w s0 s1 mg mb fa o pm cd doc a vs ns G Y ho hd hcd hmg hobj hints hlen hg
  have KX := hY w _ Y
  obtain ⟨fd, hb, hF⟩ := F w mg fa _ KX G.T.g hmg
  exact law_callG KX G.T.g G.T.b G.T.builtins G.T.nolimit hg hobj hints (Nat.le_trans hlen hn2) hr
    hF hb (fun H hO hS => hsp _ H a ns hlen hO hS) fun H e s' z => z
end Wr

namespace Wr
open PySem PySem.Spec PyProof.Rows L2

/-! ## data in the tracked heap -/
/-- a key as data -/
def keyD : Key → PyData
  | .inl i => .int i
  | .inr x => .str x

mutual
/-- v is the data d; none of its containers is an address of B -/
inductive DV (z : Prop) (B : Addr → Prop) (H : Hp) : V → PyData → Prop
  | non : DV z B H .non .none
  | bl (b : Bool) : DV z B H (.bl b) (.bool b)
  | int (i : Int) : DV z B H (.int i) (.int i)
  | str (x : Str) : DV z B H (.str x) (.str x)
  | lst {a : Addr} {xs : List V} {ds : List PyData} : ¬ B a → (z → a ≠ sysModules) →
      H a = some (.lst xs) →
      DVs z B H xs ds → DV z B H (.ref a) (.list ds)
  | tup {a : Addr} {xs : List V} {ds : List PyData} : ¬ B a → H a = some (.tup xs) →
      DVs z B H xs ds → DV z B H (.ref a) (.tuple ds)
  | dic {a : Addr} {kvs : List (Key × V)} {es : List (PyData × PyData)} : ¬ B a →
      H a = some (.dK kvs) → es.map (·.1) = kvs.map (fun p => keyD p.1) →
      DVs z B H (kvs.map (·.2)) (es.map (·.2)) → DV z B H (.ref a) (.dict es)
inductive DVs (z : Prop) (B : Addr → Prop) (H : Hp) : List V → List PyData → Prop
  | nil : DVs z B H [] []
  | cons {v : V} {vs : List V} {d : PyData} {ds : List PyData} :
      DV z B H v d → DVs z B H vs ds → DVs z B H (v :: vs) (d :: ds)
end

/-- all that is tracked stays, but for B -/
def Keep (B : Addr → Prop) (H H' : Hp) : Prop := ∀ a o, ¬ B a → H a = some o → H' a = some o
theorem Keep.refl {B : Addr → Prop} (H : Hp) : Keep B H H := fun _ _ _ h => h
theorem Keep.trans {B : Addr → Prop} {H H1 H2 : Hp} (x : Keep B H H1) (y : Keep B H1 H2) :
    Keep B H H2 := fun a o n h => y a o n (x a o n h)
theorem Keep.wide {B C : Addr → Prop} {H H' : Hp} (x : Keep B H H') (h : ∀ a, B a → C a) :
    Keep C H H' := fun a o n e => x a o (fun z => n (h a z)) e
theorem Keep.same {B : Addr → Prop} {H H' : Hp} (x : Same H H') : Keep B H H' :=
  fun a o _ e => x a o e
theorem Keep.new {B : Addr → Prop} {H : Hp} {p : Addr} {o : HO} (h : H p = none) :
    Keep B H (upd H p o) := fun a u _ e => by rw [upd_ne (ne_of_none e h)]; exact e
theorem Keep.at {B : Addr → Prop} {H : Hp} {p : Addr} {o : HO} (h : B p) :
    Keep B H (upd H p o) := fun a u n e => by
  have z : a ≠ p := fun z => n (by rw [z]; exact h)
  rw [upd_ne z]; exact e
theorem _root_.L2.Same.new {H : Hp} {p : Addr} {o : HO} (h : H p = none) : Same H (upd H p o) :=
  fun a u e => by rw [upd_ne (ne_of_none e h)]; exact e
theorem Keep.toSame {B : Addr → Prop} {H H' : Hp} (x : Keep B H H') (h : ∀ a, ¬ B a) : Same H H' :=
  fun a o e => x a o (h a) e

mutual
theorem DV.keep {z : Prop} {B : Addr → Prop} {H H' : Hp} (k : Keep B H H') :
    ∀ {v : V} {d : PyData}, DV z B H v d → DV z B H' v d
  | _, _, .non => .non
  | _, _, .bl b => .bl b
  | _, _, .int i => .int i
  | _, _, .str x => .str x
  | _, _, .lst n m e h => .lst n m (k _ _ n e) (DVs.keep k h)
  | _, _, .tup n e h => .tup n (k _ _ n e) (DVs.keep k h)
  | _, _, .dic n e q h => .dic n (k _ _ n e) q (DVs.keep k h)
theorem DVs.keep {z : Prop} {B : Addr → Prop} {H H' : Hp} (k : Keep B H H') :
    ∀ {vs : List V} {ds : List PyData}, DVs z B H vs ds → DVs z B H' vs ds
  | _, _, .nil => .nil
  | _, _, .cons h t => .cons (DV.keep k h) (DVs.keep k t)
end
mutual
theorem DV.less {z z' : Prop} {B C : Addr → Prop} {H : Hp}
    (hz : z' → z) (k : ∀ a o, H a = some o → ¬ B a → ¬ C a) :
    ∀ {v : V} {d : PyData}, DV z B H v d → DV z' C H v d
  | _, _, .non => .non
  | _, _, .bl b => .bl b
  | _, _, .int i => .int i
  | _, _, .str x => .str x
  | _, _, .lst n m e h => .lst (k _ _ e n) (fun y => m (hz y)) e (DVs.less hz k h)
  | _, _, .tup n e h => .tup (k _ _ e n) e (DVs.less hz k h)
  | _, _, .dic n e q h => .dic (k _ _ e n) e q (DVs.less hz k h)
theorem DVs.less {z z' : Prop} {B C : Addr → Prop} {H : Hp}
    (hz : z' → z) (k : ∀ a o, H a = some o → ¬ B a → ¬ C a) :
    ∀ {vs : List V} {ds : List PyData}, DVs z B H vs ds → DVs z' C H vs ds
  | _, _, .nil => .nil
  | _, _, .cons h t => .cons (DV.less hz k h) (DVs.less hz k t)
end
theorem DVs.length {z : Prop} {B : Addr → Prop} {H : Hp} :
    ∀ {vs : List V} {ds : List PyData}, DVs z B H vs ds → vs.length = ds.length
  | _, _, .nil => rfl
  | _, _, .cons _ t => by rw [List.length_cons, List.length_cons, DVs.length t]
theorem DVs.app {z : Prop} {B : Addr → Prop} {H : Hp} :
    ∀ {vs : List V} {ds : List PyData} {ws : List V} {es : List PyData}, DVs z B H vs ds →
      DVs z B H ws es → DVs z B H (vs ++ ws) (ds ++ es)
  | _, _, _, _, .nil, y => y
  | _, _, _, _, .cons h t, y => .cons h (DVs.app t y)
theorem DVs.take {z : Prop} {B : Addr → Prop} {H : Hp} :
    ∀ {vs : List V} {ds : List PyData} (n : Nat), DVs z B H vs ds →
      DVs z B H (vs.take n) (ds.take n)
  | _, _, 0, _ => .nil
  | _, _, _ + 1, .nil => .nil
  | _, _, n + 1, .cons h t => .cons h (DVs.take n t)
theorem DVs.drop {z : Prop} {B : Addr → Prop} {H : Hp} :
    ∀ {vs : List V} {ds : List PyData} (n : Nat), DVs z B H vs ds →
      DVs z B H (vs.drop n) (ds.drop n)
  | _, _, 0, h => h
  | _, _, _ + 1, .nil => .nil
  | _, _, n + 1, .cons _ t => DVs.drop n t
theorem DVs.rev {z : Prop} {B : Addr → Prop} {H : Hp} :
    ∀ {vs : List V} {ds : List PyData}, DVs z B H vs ds → DVs z B H vs.reverse ds.reverse
  | _, _, .nil => .nil
  | _, _, .cons h t => by
    rw [List.reverse_cons, List.reverse_cons]
    exact (DVs.rev t).app (.cons h .nil)
theorem DVs.at {z : Prop} {B : Addr → Prop} {H : Hp} : ∀ {vs : List V} {ds : List PyData} {i : Nat} {v : V},
    DVs z B H vs ds → vs[i]? = some v → ∃ d, ds[i]? = some d ∧ DV z B H v d
  | _, _, 0, _, .cons h _, e => by
    rw [List.getElem?_cons_zero] at e
    cases e
    exact ⟨_, rfl, h⟩
  | _, _, i + 1, _, .cons _ t, e => by
    rw [List.getElem?_cons_succ] at e
    obtain ⟨d, h1, h2⟩ := DVs.at t e
    exact ⟨d, h1, h2⟩
theorem DVs.at' {z : Prop} {B : Addr → Prop} {H : Hp} : ∀ {vs : List V} {ds : List PyData} {i : Nat}
    {d : PyData}, DVs z B H vs ds → ds[i]? = some d → ∃ v, vs[i]? = some v ∧ DV z B H v d
  | _, _, 0, _, .cons h _, e => by
    rw [List.getElem?_cons_zero] at e
    cases e
    exact ⟨_, rfl, h⟩
  | _, _, i + 1, _, .cons _ t, e => by
    rw [List.getElem?_cons_succ] at e
    obtain ⟨v, h1, h2⟩ := DVs.at' t e
    exact ⟨v, h1, h2⟩
theorem DVs.set {z : Prop} {B : Addr → Prop} {H : Hp} {v : V} {d : PyData} (x : DV z B H v d) :
    ∀ {vs : List V} {ds : List PyData} (i : Nat), DVs z B H vs ds →
      DVs z B H (vs.set i v) (ds.set i d)
  | _, _, _, .nil => .nil
  | _, _, 0, .cons _ t => .cons x t
  | _, _, i + 1, .cons h t => .cons h (DVs.set x i t)
theorem DVs.ints {z : Prop} {B : Addr → Prop} {H : Hp} : ∀ ns : List Int,
    DVs z B H (ns.map V.int) (ns.map PyData.int)
  | [] => .nil
  | n :: ns => .cons (.int n) (DVs.ints ns)
/-! one value is one datum -/
mutual
theorem DV.one {z z' : Prop} {B C : Addr → Prop} {H : Hp} : ∀ {v : V} {d e : PyData}, DV z B H v d → DV z' C H v e → d = e
  | _, _, _, .non, .non => rfl
  | _, _, _, .bl _, .bl _ => rfl
  | _, _, _, .int _, .int _ => rfl
  | _, _, _, .str _, .str _ => rfl
  | _, _, _, .lst _ _ e h, .lst _ _ e' h' => by
    rw [e] at e'; cases e'; rw [DVs.one h h']
  | _, _, _, .lst _ _ e _, .tup _ e' _ => by rw [e] at e'; cases e'
  | _, _, _, .lst _ _ e _, .dic _ e' _ _ => by rw [e] at e'; cases e'
  | _, _, _, .tup _ e h, .tup _ e' h' => by
    rw [e] at e'; cases e'; rw [DVs.one h h']
  | _, _, _, .tup _ e _, .lst _ _ e' _ => by rw [e] at e'; cases e'
  | _, _, _, .tup _ e _, .dic _ e' _ _ => by rw [e] at e'; cases e'
  | _, _, _, .dic _ e q h, .dic _ e' q' h' => by
    rw [e] at e'; cases e'
    have h1 := q.trans q'.symm
    have h2 := DVs.one h h'
    congr 1
    exact pairs_eq h1 h2
  | _, _, _, .dic _ e _ _, .lst _ _ e' _ => by rw [e] at e'; cases e'
  | _, _, _, .dic _ e _ _, .tup _ e' _ => by rw [e] at e'; cases e'
theorem DVs.one {z z' : Prop} {B C : Addr → Prop} {H : Hp} : ∀ {vs : List V} {ds es : List PyData},
    DVs z B H vs ds → DVs z' C H vs es → ds = es
  | _, _, _, .nil, .nil => rfl
  | _, _, _, .cons h t, .cons h' t' => by rw [DV.one h h', DVs.one t t']
theorem pairs_eq : ∀ {xs ys : List (PyData × PyData)}, xs.map (·.1) = ys.map (·.1) →
    xs.map (·.2) = ys.map (·.2) → xs = ys
  | [], [], _, _ => rfl
  | [], _ :: _, h, _ => by cases h
  | _ :: _, [], h, _ => by cases h
  | (a, b) :: xs, (c, d) :: ys, h, h' => by
    rw [List.map_cons, List.map_cons] at h h'
    obtain ⟨h1, h2⟩ := List.cons.inj h
    obtain ⟨h3, h4⟩ := List.cons.inj h'
    rw [pairs_eq h2 h4]
    have e1 : a = c := h1
    have e2 : b = d := h3
    rw [e1, e2]
end

/-! ## sizes -/
mutual
def okS : PyData → Bool
  | .str x => x.cps.toList.all fun c => decide (c < 16 ^ 8)
  | .list xs => okSs xs
  | .tuple xs => okSs xs
  | .dict kvs => okSk kvs
  | .none => true
  | .bool _ => true
  | .int _ => true
def okSs : List PyData → Bool
  | [] => true
  | x :: xs => okS x && okSs xs
def okSk : List (PyData × PyData) → Bool
  | [] => true
  | (k, v) :: r => okS k && okS v && okSk r
end
theorem int_w {i : Int} {n : Nat} (h : (PyData.int i).weight ≤ n) : i.natAbs.log2 ≤ n := by
  simp only [PyData.weight] at h
  split at h
  · rename_i z
    have : i = 0 := eq_of_beq z
    subst this
    exact Nat.zero_le _
  · omega
theorem int_w_lt {i : Int} {k : Nat} (h : i.natAbs < 2 ^ k) : (PyData.int i).weight ≤ k := by
  simp only [PyData.weight]
  split
  · exact Nat.zero_le _
  · rename_i z
    have n0 : i ≠ 0 := fun e => z (by rw [e]; rfl)
    have : i.natAbs.log2 < k := (Nat.log2_lt (by omega)).mpr h
    omega
theorem int_lt_w {i : Int} {k : Nat} (h : (PyData.int i).weight ≤ k) : i.natAbs < 2 ^ k := by
  by_cases n0 : i = 0
  · subst n0; exact Nat.two_pow_pos k
  · simp only [PyData.weight] at h
    rw [if_neg (by simpa using n0)] at h
    have : i.natAbs.log2 < k := by omega
    exact (Nat.log2_lt (by omega)).mp this
theorem int_shown_le {i : Int} {n : Nat} (h : (PyData.int i).weight ≤ n) :
    (PyData.int i).shown.length ≤ n + 2 := by
  have h1 := int_w h
  have h2 := int_text_length_le (a := i) (k := n + 1) (by omega) (by omega)
  show (Str.ofString (toString i)).length ≤ n + 2
  rw [PySem.ofString_length]
  exact h2
mutual
theorem showable_of (n : Nat) (hn : n < 1920) : ∀ d : PyData, d.weight ≤ n → d.showable = true
  | .none, _ => rfl
  | .bool _, _ => rfl
  | .str _, _ => rfl
  | .int i, h => by
    have := int_w h
    simp only [PyData.showable]
    exact decide_eq_true (by omega)
  | .list xs, h => by
    simp only [PyData.weight] at h
    simp only [PyData.showable]
    exact showable_ofs n hn xs h
  | .tuple xs, h => by
    simp only [PyData.weight] at h
    simp only [PyData.showable]
    exact showable_ofs n hn xs h
  | .dict kvs, h => by
    simp only [PyData.weight] at h
    simp only [PyData.showable]
    exact showable_ofk n hn kvs h
theorem showable_ofs (n : Nat) (hn : n < 1920) : ∀ xs : List PyData, PyData.weightAll xs ≤ n →
    PyData.showableAll xs = true
  | [], _ => rfl
  | x :: xs, h => by
    simp only [PyData.weightAll] at h
    simp only [PyData.showableAll]
    rw [showable_of n hn x (by omega), showable_ofs n hn xs (by omega)]
    rfl
theorem showable_ofk (n : Nat) (hn : n < 1920) : ∀ xs : List (PyData × PyData),
    PyData.weightKv xs ≤ n → PyData.showableKv xs = true
  | [], _ => rfl
  | (k, v) :: xs, h => by
    simp only [PyData.weightKv] at h
    simp only [PyData.showableKv]
    rw [showable_of n hn k (by omega), showable_of n hn v (by omega),
      showable_ofk n hn xs (by omega)]
    rfl
end
mutual
theorem leaves_of (n : Nat) : ∀ d : PyData, d.weight ≤ n → okS d = true →
    d.leavesShort (n + 2) = true
  | .none, _, _ => rfl
  | .bool _, _, _ => rfl
  | .str x, _, o => by
    simp only [okS] at o
    simp only [PyData.leavesShort]
    exact o
  | .int i, h, _ => by
    simp only [PyData.leavesShort]
    exact decide_eq_true (int_shown_le h)
  | .list xs, h, o => by
    simp only [PyData.weight] at h
    simp only [okS] at o
    simp only [PyData.leavesShort]
    exact leaves_ofs n xs h o
  | .tuple xs, h, o => by
    simp only [PyData.weight] at h
    simp only [okS] at o
    simp only [PyData.leavesShort]
    exact leaves_ofs n xs h o
  | .dict kvs, h, o => by
    simp only [PyData.weight] at h
    simp only [okS] at o
    simp only [PyData.leavesShort]
    exact leaves_ofk n kvs h o
theorem leaves_ofs (n : Nat) : ∀ xs : List PyData, PyData.weightAll xs ≤ n → okSs xs = true →
    PyData.leavesShortAll (n + 2) xs = true
  | [], _, _ => rfl
  | x :: xs, h, o => by
    simp only [PyData.weightAll] at h
    simp only [okSs, Bool.and_eq_true] at o
    simp only [PyData.leavesShortAll]
    rw [leaves_of n x (by omega) o.1, leaves_ofs n xs (by omega) o.2]
    rfl
theorem leaves_ofk (n : Nat) : ∀ xs : List (PyData × PyData), PyData.weightKv xs ≤ n →
    okSk xs = true → PyData.leavesShortKv (n + 2) xs = true
  | [], _, _ => rfl
  | (k, v) :: xs, h, o => by
    simp only [PyData.weightKv] at h
    simp only [okSk, Bool.and_eq_true] at o
    simp only [PyData.leavesShortKv]
    rw [leaves_of n k (by omega) o.1.1, leaves_of n v (by omega) o.1.2,
      leaves_ofk n xs (by omega) o.2]
    rfl
end
/-- small data: its text is short and can be made -/
structure Gd (W D : Nat) (e : PyData) : Prop where
  w : e.weight ≤ W
  d : e.depth ≤ D
  s : okS e = true
theorem Gd.showable {W D : Nat} {d : PyData} (g : Gd W D d) (h : W ≤ 1900) : d.showable = true :=
  showable_of W (by omega) d g.w
theorem Gd.fits {W D : Nat} {d : PyData} (g : Gd W D d) (h : W ≤ 1900) :
    d.shown.length ≤ sizeLine := by
  have h1 : d.weight ≤ 1900 := Nat.le_trans g.w h
  have h2 := PyData.shown_le (1900 + 2) (by decide) d (leaves_of 1900 d h1 g.s)
  rw [sizeLine_eq]
  omega
theorem Gd.mono {W D W' D' : Nat} {d : PyData} (g : Gd W D d) (h : W ≤ W') (h' : D ≤ D') :
    Gd W' D' d := ⟨Nat.le_trans g.w h, Nat.le_trans g.d h', g.s⟩

/-! ## repr -/
section
variable {X : Cx} {pins : List (Addr × Obj)} {σ : L2.St} {H : Hp} {s : Shared}
theorem key_reads {h : Heap} {k : Key} {v : Value} (e : keyIs k v = true) :
    Reads h v (keyD k) [] := by
  rcases keyIs_shape e with ⟨i, t, rfl, rfl⟩ | ⟨x, t, rfl, rfl⟩
  · exact .int i t
  · exact .str x t
theorem pairs_read {h : Heap} {P : Program} {w : World} : ∀ {kvs : List (Key × V)}
    {vs : List (Key × Value)} {ents : List DictEntry}, KV kvs vs →
    Pairs (mixKind P w) ents vs →
    ReadsAll h (ents.map (·.key)) (kvs.map fun p => keyD p.1) []
      ∧ Vals (kvs.map (·.2)) (ents.map (·.val))
  | _, _, _, .nil, .nil => ⟨.nil, .nil⟩
  | (k, x) :: kvs, (k2, u) :: vs, e :: ents, .cons r rs, .cons p1 p2 ps => by
    obtain ⟨h1, h2⟩ := pairs_read rs ps
    have ek : k = k2 := r.1
    subst ek
    have rv : RelV x u := r.2
    have ev : e.val = u := p2
    have kr : Reads h e.key (keyD k) [] := key_reads p1
    refine ⟨ReadsAll.cons (as := []) (bs := []) kr h1, .cons ?_ h2⟩
    show L2.RelV x e.val
    rw [ev]
    exact rv

mutual
theorem DV.reads {z : Prop} {B : Addr → Prop} (I : Inv X pins σ H s) : ∀ (d : PyData) (v : V)
    (u : Value), DV z B H v d → RelV v u →
    ∃ as, Reads s.heap u d as ∧ (z → ∀ a ∈ as, a ≠ sysModules)
  | .none, _, _, .non, r => by
    cases r
    exact ⟨[], .none, fun _ _ m => nomatch m⟩
  | .bool b, _, _, .bl _, r => by
    cases r
    exact ⟨[], .bool b, fun _ _ m => nomatch m⟩
  | .int i, _, _, .int _, r => by
    obtain ⟨t, rfl⟩ := r
    exact ⟨[], .int i t, fun _ _ m => nomatch m⟩
  | .str x, _, _, .str _, r => by
    obtain ⟨t, rfl⟩ := r
    exact ⟨[], .str x t, fun _ _ m => nomatch m⟩
  | .list ds, _, _, .lst (a := a) (xs := xs) n y e h, r => by
    cases r
    obtain ⟨_, its, m, rv, ho⟩ := (show ObjOk X.prog X.w H s.heap a (.lst xs) from I.hok a _ e)
    obtain ⟨as, q, hq⟩ := DVs.reads I ds _ its h rv
    refine ⟨a :: as, .list ho rfl rfl (by simpa using q), fun hz b hb => ?_⟩
    rcases List.mem_cons.mp hb with rfl | hb
    · exact y hz
    · exact hq hz b hb
  | .tuple ds, _, _, .tup (a := a) (xs := xs) n e h, r => by
    cases r
    obtain ⟨_, its, rv, o, ho, hc, m, hd⟩ :=
      (show ObjOk X.prog X.w H s.heap a (.tup xs) from I.hok a _ e)
    obtain ⟨as, q, hq⟩ := DVs.reads I ds _ its h rv
    exact ⟨as, .tuple ho hc hd (by simpa using q), hq⟩
  | .dict es, _, _, .dic (a := a) (kvs := kvs) n e q h, r => by
    cases r
    obtain ⟨_, ns, vs, rel, o, ents, ep, ho, hx, hd, hK, hP, _⟩ :=
      (show ObjOk X.prog X.w H s.heap a (.dK kvs) from I.hok a _ e)
    obtain ⟨k1, k2⟩ := pairs_read (h := s.heap) rel hP
    obtain ⟨bs, q1, hq⟩ := DVs.reads I (es.map (·.2)) _ _ h k2
    rw [← q] at k1
    refine ⟨a :: [] ++ bs, .dict ho hx.1 hd k1 q1, fun hz b hb => ?_⟩
    rcases List.mem_cons.mp hb with rfl | hb
    · exact beq_eq_false_iff_ne.mp ns
    · exact hq hz b hb
theorem DVs.reads {z : Prop} {B : Addr → Prop} (I : Inv X pins σ H s) : ∀ (ds : List PyData)
    (vs : List V) (us : List Value), DVs z B H vs ds → Vals vs us →
    ∃ as, ReadsAll s.heap us ds as ∧ (z → ∀ a ∈ as, a ≠ sysModules)
  | [], _, _, .nil, r => by
    cases r
    exact ⟨[], .nil, fun _ _ m => nomatch m⟩
  | d :: ds, _, _, .cons h t, .cons r rs => by
    obtain ⟨as, q, hq⟩ := DV.reads I d _ _ h r
    obtain ⟨bs, q1, hq1⟩ := DVs.reads I ds _ _ t rs
    exact ⟨as ++ bs, .cons q q1, fun hz a ha => (List.mem_append.mp ha).elim (hq hz a) (hq1 hz a)⟩
end

/-- repr(x) of small data -/
def rRepr (n : Nat) : List V → Hp → VK → Prop := fun xs H Q => ∃ (x : V) (d : PyData) (z : Prop)
  (B : Addr → Prop), xs = [x] ∧ DV z B H x d ∧ (d.hasDict = true → z) ∧ Gd 1900 n d ∧
  Q (.str d.shown) H
theorem call_repr {n : Nat} (hg : X.A.guards = some []) (hu : X.A.units + (n + 1) < cLine) :
    CallR X (.builtin "repr") (rRepr n) := by
  intro pins s σ H xs us Q I r h
  obtain ⟨x, d, z, B, rfl, hd, hB, g, q⟩ := h
  obtain ⟨u, rfl, ru⟩ := vals1 r
  obtain ⟨as, rd, hq⟩ := DV.reads I d x u hd ru
  have hs := g.showable (Nat.le_refl _)
  have hz := g.fits (Nat.le_refl _)
  have hsm : d.hasDict = true → sysModules ∉ as := fun y m => hq (hB y) _ m rfl
  have hn := g.d
  cases rd with
  | none => exact PySem.P.repr_of_none ⟨.str _, H, I.tok _, ⟨_, rfl⟩, q⟩
  | bool b => exact PySem.P.repr_of_bool ⟨.str _, H, I.tok _, ⟨_, rfl⟩, q⟩
  | int i t =>
    refine PySem.P.repr_of_int ?_ ⟨.str _, H, I.tok _, ⟨_, rfl⟩, q⟩
    simpa [PyData.showable] using hs
  | str y t =>
    exact PySem.P.repr_of_str ⟨.str _, H, I.tok _, ⟨_, rfl⟩, q⟩ (by simpa only [PyData.shown] using hz)
  | list a1 a2 a3 a4 =>
    refine repr_of_reads' (.list a1 a2 a3 a4) hs hsm hg (by omega) (fun _ _ e => e)
      (fun h' y tk hk => ?_) hz
    exact ⟨.str _, H, I.kept hk, ⟨_, rfl⟩, q⟩
  | tuple a1 a2 a3 a4 =>
    refine repr_of_reads' (.tuple a1 a2 a3 a4) hs hsm hg (by omega) (fun _ _ e => e)
      (fun h' y tk hk => ?_) hz
    exact ⟨.str _, H, I.kept hk, ⟨_, rfl⟩, q⟩
  | dict a1 a2 a3 a4 a5 =>
    refine repr_of_reads' (.dict a1 a2 a3 a4 a5) hs hsm hg (by omega) (fun _ _ e => e)
      (fun h' y tk hk => ?_) hz
    exact ⟨.str _, H, I.kept hk, ⟨_, rfl⟩, q⟩
/-- repr of a bool, wherever it stands -/
theorem call_reprB : CallR X (.builtin "repr") (fun xs H Q => ∃ b, xs = [.bl b] ∧
    Q (.str (PyData.bool b).shown) H) := by
  intro pins s σ H xs us Q I r h
  obtain ⟨b, rfl, q⟩ := h
  obtain ⟨u, rfl, ru⟩ := vals1 r
  cases ru
  exact PySem.P.repr_of_bool ⟨.str _, H, I.tok _, ⟨_, rfl⟩, q⟩
end
end Wr

namespace Wr
open PySem PySem.Spec PyProof.Rows L2

section
variable {X : Cx} {e : Expr} {es : List Expr} {te : TE} {t : TA} {pos : Pos}
theorem _root_.L2.PE.weak {t t' : TE} (h : PE X e t) (w : ∀ σ H Q, t' σ H Q → t σ H Q) : PE X e t' :=
  ⟨fun pins s σ H Q I q => h.run pins s σ H Q I (w _ _ _ q)⟩
theorem _root_.L2.PA.weak {t t' : TA} (h : PA X es t) (w : ∀ σ H Q, t' σ H Q → t σ H Q) : PA X es t' :=
  ⟨fun p pins s σ H Q I q => h.run p pins s σ H Q I (w _ _ _ q)⟩

/-! ## displays: the new object lies apart from the table of modules -/
def tTupS (t : TA) : TE := fun σ H Q => t σ H fun xs H1 => xs.length ≤ sizeLine ∧
  ∀ p, H1 p = none → p ≠ sysModules → Q (.ref p) (upd H1 p (.tup xs))
def tLstS (t : TA) : TE := fun σ H Q => t σ H fun xs H1 => xs.length ≤ sizeLine ∧
  ∀ p, H1 p = none → p ≠ sysModules → Q (.ref p) (upd H1 p (.lst xs))
theorem pe_tupS {k} (h : PA X es t) : PE X (.Tuple es k pos) (tTupS t) := by
  refine ⟨fun pins s σ H Q I hq => ?_⟩
  refine wpAny_Tuple_spliced (thn (h.run pos pins s σ H _ I hq) ?_)
  rintro us s1 ⟨xs, H1, I1, r, z, q⟩
  refine ⟨by rw [← r.length]; exact z, ?_⟩
  have hf : H1 s1.heap.objs.size = none := I1.hok.fresh (Nat.le_refl _)
  refine ⟨.ref s1.heap.objs.size, _, I1.laid (t' := s1.toks) (o := .tup xs)
    (fun b u e => Heap.get?_push_of_some _ e) (Nat.le_refl _) ?_, rfl, q _ hf (Nat.ne_of_gt I1.big)⟩
  exact ⟨z, us, r, ⟨_, Heap.get?_push_size _ rfl, rfl, _, rfl⟩⟩
theorem pe_lstS (h : PA X es t) : PE X (.List es pos) (tLstS t) := by
  refine ⟨fun pins s σ H Q I hq => ?_⟩
  refine wpAny_List_spliced (thn (h.run pos pins s σ H _ I hq) ?_)
  rintro us s1 ⟨xs, H1, I1, r, z, q⟩
  refine ⟨by rw [← r.length]; exact z, ?_⟩
  have hf : H1 s1.heap.objs.size = none := I1.hok.fresh (Nat.le_refl _)
  refine ⟨.ref s1.heap.objs.size, _, I1.laid (t' := s1.toks) (o := .lst xs)
    (fun b u e => Heap.get?_push_of_some _ e) (Nat.le_refl _) ?_, rfl, q _ hf (Nat.ne_of_gt I1.big)⟩
  exact ⟨z, us, 0, r, Heap.get?_push_size _ rfl⟩

/-! ## written data -/
def litBy (f : Expr → Option PyData) : List Expr → Option (List PyData)
  | [] => some []
  | e :: es => match f e with
    | some d => match litBy f es with
      | some ds => some (d :: ds)
      | none => none
    | none => none
def lit : Nat → Expr → Option PyData
  | 0, _ => none
  | n + 1, e => match e with
    | .Constant (.int i) _ _ => some (.int i)
    | .Constant (.bool b) _ _ => some (.bool b)
    | .Constant .none _ _ => some .none
    | .Constant (.str x) _ _ => some (.str x)
    | .UnaryOp .USub (.Constant (.int i) _ _) _ => some (.int (-i))
    | .BinOp (.Constant (.int i) _ _) .Pow (.Constant (.int j) _ _) _ =>
      if 0 ≤ j ∧ j ≤ 100 ∧ i.natAbs < 2 ^ 64 then some (.int (i ^ j.toNat)) else none
    | .Tuple es _ _ => if es.length ≤ 1000 then (litBy (lit n) es).map .tuple else none
    | .List es _ => if es.length ≤ 1000 then (litBy (lit n) es).map .list else none
    | .Dict [] [] _ => some (.dict [])
    | .Dict [some (.Constant (.int k) _ _)] [.Constant (.int v) _ _] _ =>
      some (.dict [(.int k, .int v)])
    | _ => none

/-- what is tracked -/
abbrev Tr (H : Hp) : Addr → Prop := fun a => H a ≠ none
def tLit (d : PyData) : TE := fun _ H Q => ∀ v H', Same H H' → DV True (Tr H) H' v d → Q v H'
def tLits (ds : List PyData) : TA := fun _ H Q =>
  ∀ vs H', Same H H' → DVs True (Tr H) H' vs ds → Q vs H'
theorem _root_.L2.Same.tr {H H1 : Hp} (s : Same H H1) : ∀ a, Tr H a → Tr H1 a := fun a h => by
  cases e : H a with
  | none => exact absurd e h
  | some o =>
    have := s a o e
    exact fun z => by rw [this] at z; cases z
theorem DV.back {z : Prop} {H H1 H2 : Hp} {v : V} {d : PyData} (s : Same H H1)
    (h : DV z (Tr H1) H2 v d) : DV z (Tr H) H2 v d :=
  h.less (fun y => y) fun a _ _ n m => n (s.tr a m)
theorem DVs.back {z : Prop} {H H1 H2 : Hp} {v : List V} {d : List PyData} (s : Same H H1)
    (h : DVs z (Tr H1) H2 v d) : DVs z (Tr H) H2 v d :=
  h.less (fun y => y) fun a _ _ n m => n (s.tr a m)
theorem litBy_len {f : Expr → Option PyData} : ∀ {es : List Expr} {ds : List PyData},
    litBy f es = some ds → ds.length = es.length
  | [], ds, h => by
    have : ([] : List PyData) = ds := Option.some.inj h
    subst this
    rfl
  | e :: es, ds, h => by
    unfold litBy at h
    cases q : f e with
    | none => rw [q] at h; cases h
    | some d =>
      rw [q] at h
      cases q2 : litBy f es with
      | none => rw [q2] at h; cases h
      | some r =>
        rw [q2] at h
        have : d :: r = ds := Option.some.inj h
        subst this
        rw [List.length_cons, List.length_cons, litBy_len q2]

theorem lit_star {n : Nat} {env : Env} {d : PyData} (h : lit n e = some d) :
    starEach (e :: es) env = (false, eval e env) :: starEach es env := by
  cases e with
  | Starred v p =>
    cases n with
    | zero => cases h
    | succ n => cases h
  | _ => rfl
theorem pa_lits {n : Nat} (one : ∀ (e : Expr) (d : PyData), lit n e = some d → PE X e (tLit d)) :
    ∀ (es : List Expr) (ds : List PyData), litBy (lit n) es = some ds → PA X es (tLits ds)
  | [], ds, h => by
    have : ([] : List PyData) = ds := Option.some.inj h
    subst this
    exact pa_nil.weak fun σ H Q q => q [] H (Same.refl H) .nil
  | e :: es, ds, h => by
    unfold litBy at h
    cases q : lit n e with
    | none => rw [q] at h; cases h
    | some d =>
      rw [q] at h
      cases q2 : litBy (lit n) es with
      | none => rw [q2] at h; cases h
      | some r =>
        rw [q2] at h
        have : d :: r = ds := Option.some.inj h
        subst this
        refine (pa_cons (one e d q) (pa_lits one es r q2) (lit_star q)).weak fun σ H Q w => ?_
        intro v H1 s1 h1 vs H2 s2 h2
        exact w (v :: vs) H2 (s1.trans s2) (.cons (h1.keep (Keep.same s2)) (h2.back s1))
theorem DV.newTup {z : Prop} {H H1 : Hp} {p : Addr} {xs : List V} {ds : List PyData}
    (s : Same H H1) (np : H1 p = none) (h : DVs z (Tr H) H1 xs ds) :
    DV z (Tr H) (upd H1 p (.tup xs)) (.ref p) (.tuple ds) :=
  .tup (fun m => s.tr p m np) upd_same (h.keep (Keep.new np))
theorem DV.newLst {z : Prop} {H H1 : Hp} {p : Addr} {xs : List V} {ds : List PyData}
    (s : Same H H1) (np : H1 p = none) (ns : z → p ≠ sysModules) (h : DVs z (Tr H) H1 xs ds) :
    DV z (Tr H) (upd H1 p (.lst xs)) (.ref p) (.list ds) :=
  .lst (fun m => s.tr p m np) ns upd_same (h.keep (Keep.new np))
theorem pe_lit : ∀ (n : Nat) (e : Expr) (d : PyData), lit n e = some d → PE X e (tLit d)
  | 0, _, _, h => by cases h
  | n + 1, e, d, h => by
    unfold lit at h
    split at h
    · cases h
      exact pe_int.weak fun σ H Q q => q _ H (Same.refl H) (.int _)
    · cases h
      exact pe_bl.weak fun σ H Q q => q _ H (Same.refl H) (.bl _)
    · cases h
      exact pe_non.weak fun σ H Q q => q _ H (Same.refl H) .non
    · cases h
      exact pe_str.weak fun σ H Q q => q _ H (Same.refl H) (.str _)
    · cases h
      exact (pe_un un_neg pe_int).weak fun σ H Q q => ⟨_, rfl, q _ H (Same.refl H) (.int _)⟩
    · split at h
      · rename_i c
        cases h
        refine (pe_op op_pow pe_int pe_int).weak fun σ H Q q => ?_
        exact ⟨_, _, rfl, rfl, ⟨c.1, by omega, c.2.2⟩, q _ H (Same.refl H) (.int _)⟩
      · cases h
    · rename_i es _ _
      split at h
      · rename_i c
        cases q : litBy (lit n) es with
        | none => rw [q] at h; cases h
        | some ds =>
          rw [q] at h
          cases h
          refine (pe_tupS (pa_lits (pe_lit n) es ds q)).weak fun σ H Q w => ?_
          intro xs H1 s1 h1
          have hl := litBy_len q
          have hl2 := h1.length
          refine ⟨by rw [hl2, hl, sizeLine_eq]; omega, fun p np ns => ?_⟩
          exact w _ _ (s1.trans (Same.new np)) (.newTup s1 np h1)
      · cases h
    · rename_i es _
      split at h
      · rename_i c
        cases q : litBy (lit n) es with
        | none => rw [q] at h; cases h
        | some ds =>
          rw [q] at h
          cases h
          refine (pe_lstS (pa_lits (pe_lit n) es ds q)).weak fun σ H Q w => ?_
          intro xs H1 s1 h1
          have hl := litBy_len q
          have hl2 := h1.length
          refine ⟨by rw [hl2, hl, sizeLine_eq]; omega, fun p np ns => ?_⟩
          exact w _ _ (s1.trans (Same.new np)) (.newLst s1 np (fun _ => ns) h1)
      · cases h
    · cases h
      refine pe_dnewK.weak fun σ H Q w => ?_
      intro p np
      exact w _ _ (Same.new np) (.dic (fun m => m np) upd_same rfl .nil)
    · cases h
      rename_i k _ _ v _ _ _
      refine (pe_disp (pps_cons pe_int pe_int pps_nil) rfl rfl (fun z => by cases z)
        (by show 1 ≤ 15; decide)).weak fun σ H Q w => ?_
      intro p np
      refine ⟨upd_same, [(.inl k, .int v)], rfl, by show 1 ≤ 15; decide, ?_⟩
      rw [upd_upd]
      exact w _ _ (Same.new np) (.dic (fun m => m np) upd_same rfl (.cons (.int v) .nil))
    · cases h
end
end Wr

local macro_rules | `(tactic| walk_at "rs") => `(tactic| first
  | refine ⟨_, rfl, ?_⟩
  | refine ⟨_, _, rfl, rfl, ?_⟩
  | refine iteT ?_
  | refine iteF ?_)
namespace Wr
open PySem PySem.Spec PyProof.Rows L2

/-! ## kinds -/
def tyN : PyData → String
  | .none => "NoneType"
  | .bool _ => "bool"
  | .int _ => "int"
  | .str _ => "str"
  | .list _ => "list"
  | .tuple _ => "tuple"
  | .dict _ => "dict"
def isI : PyData → Bool
  | .int _ => true
  | .bool _ => true
  | _ => false
def isB : PyData → Bool
  | .bool _ => true
  | _ => false
def isT : PyData → Bool
  | .tuple _ => true
  | _ => false
def isL : PyData → Bool
  | .list _ => true
  | _ => false
def isS : PyData → Bool
  | .str _ => true
  | _ => false
/-- an int that is no bool -/
def isW : PyData → Bool
  | .int _ => true
  | _ => false
theorem DV.ty {z : Prop} {B : Addr → Prop} {K : PySem.W.Frag} {H : Hp} :
    ∀ {v : V} {d : PyData}, DV z B H v d → TyX K H v (.type (tyN d))
  | _, _, .non => .base .non
  | _, _, .bl b => .base (.bl b)
  | _, _, .int i => .base (.int i)
  | _, _, .str x => .base (.str x)
  | _, _, .lst _ _ e _ => .base (.lst e)
  | _, _, .tup _ e _ => .base (.tup e)
  | _, _, .dic _ e _ _ => .base (.dK e)
/-- isinstance(x, T) of data -/
def rIsD (T : String) (f : PyData → Bool) : List V → Hp → VK → Prop := fun xs H Q =>
  ∃ (v : V) (d : PyData) (z : Prop) (B : Addr → Prop), xs = [v, .ty T] ∧ DV z B H v d ∧ Q (.bl (f d)) H
section
variable {X : Cx}
theorem call_isD {T : String} {f : PyData → Bool}
    (h : ∀ d, kitB (tyN d) T = some (f d)) : CallR X (.builtin "isinstance") (rIsD T f) := by
  intro pins s σ H xs us Q I r q
  obtain ⟨v, d, z, B, rfl, hd, q⟩ := q
  exact call_isi pins s σ H _ us Q I r ⟨v, .ty T, _, _, f d, rfl, .ty T, hd.ty, kit_ty (h d), q⟩
theorem isI_kit (d : PyData) : kitB (tyN d) "int" = some (isI d) := by
  cases d <;> simp only [tyN, isI] <;> decide +kernel
theorem isB_kit (d : PyData) : kitB (tyN d) "bool" = some (isB d) := by
  cases d <;> simp only [tyN, isB] <;> decide +kernel
theorem isT_kit (d : PyData) : kitB (tyN d) "tuple" = some (isT d) := by
  cases d <;> simp only [tyN, isT] <;> decide +kernel
theorem isL_kit (d : PyData) : kitB (tyN d) "list" = some (isL d) := by
  cases d <;> simp only [tyN, isL] <;> decide +kernel
theorem isS_kit (d : PyData) : kitB (tyN d) "str" = some (isS d) := by
  cases d <;> simp only [tyN, isS] <;> decide +kernel
theorem is_int : CallR X (.builtin "isinstance") (rIsD "int" isI) := call_isD isI_kit
theorem is_bool : CallR X (.builtin "isinstance") (rIsD "bool" isB) := call_isD isB_kit
theorem is_tuple : CallR X (.builtin "isinstance") (rIsD "tuple" isT) := call_isD isT_kit
theorem is_list : CallR X (.builtin "isinstance") (rIsD "list" isL) := call_isD isL_kit
theorem is_str : CallR X (.builtin "isinstance") (rIsD "str" isS) := call_isD isS_kit
end
/-- is_whole, is_integer -/
def sp_whole : Sp := fun vs H Q _ => ∃ (v : V) (d : PyData) (z : Prop) (B : Addr → Prop),
  vs = [v] ∧ DV z B H v d ∧ Q (.bl (isW d)) H
theorem whole_of {Q : VK} {H : Hp} {d : PyData} (q : Q (.bl (isW d)) H) :
    if isI d = true then Q (.bl (!isB d)) H else Q (.bl false) H := by
  cases d <;> exact q

/-! ## greatest common divisors -/
theorem gcd_fmod (a b : Int) : Int.gcd b (a.fmod b) = Int.gcd a b := by
  have e : a.fmod b = a - b * a.fdiv b := by
    have := Int.fmod_add_mul_fdiv a b
    omega
  rw [e, Int.gcd_comm a b]
  have e2 : a - b * a.fdiv b = a + b * (-(a.fdiv b)) := by rw [Int.mul_neg]; omega
  rw [e2]
  exact Int.gcd_add_mul_left_right b a (-(a.fdiv b))
theorem nb_int {a b : Int} (e : (!decide (V.int a = V.int b)) = true) : a ≠ b := fun z => by
  subst z
  simp at e
theorem nb_int' {a b : Int} (e : ¬ (!decide (V.int a = V.int b)) = true) : a = b := by
  by_cases h : a = b
  · exact h
  · have : (!decide (V.int a = V.int b)) = true := by simp [h]
    exact absurd this e
theorem yb_int {a b : Int} (e : decide (V.int a = V.int b) = true) : a = b :=
  V.int.inj (of_decide_eq_true e)
theorem yb_int' {a b : Int} (e : ¬ decide (V.int a = V.int b) = true) : a ≠ b := fun z =>
  e (by rw [z]; exact decide_eq_true rfl)
theorem fmod_small (t : Int) {u : Int} (h : u ≠ 0) : (t.fmod u).natAbs < u.natAbs := by
  rcases Int.lt_or_gt_of_ne h with n | p
  · have e := Int.neg_fmod_neg (-t) (-u)
    rw [Int.neg_neg, Int.neg_neg] at e
    have h1 := Int.fmod_nonneg_of_pos (-t) (b := -u) (by omega)
    have h2 := Int.fmod_lt_of_pos (-t) (b := -u) (by omega)
    omega
  · rw [Int.fmod_eq_emod_of_nonneg t (by omega)]
    have h1 := Int.emod_nonneg t h
    have h2 := Int.emod_lt_of_pos t p
    omega
/-- the two ways of reckoning a divisor -/
theorem gcd_zero_abs (a : Int) : (if a < 0 then -a else a) = (Int.gcd a 0 : Nat) := by
  rw [Int.gcd_zero_right]
  split <;> omega
def sp_gcdP : Sp := fun vs H Q _ => ∃ a b : Int, vs = [.int a, .int b] ∧ 0 < b ∧
  Q (.int (Int.gcd a b : Nat)) H
def sp_gcd : Sp := fun vs H Q _ => ∃ a b : Int, vs = [.int a, .int b] ∧
  Q (.int (Int.gcd a b : Nat)) H

/-! ## fractions as data -/
def isFr2 : PyData → PyData → Bool
  | .int t, .int b => decide (1 ≤ b) && decide (Int.gcd t b = 1)
  | _, _ => false
def isFrs : List PyData → Bool
  | [a, b] => isFr2 a b
  | _ => false
def isFrac : PyData → Bool
  | .tuple ds => isFrs ds
  | _ => false
theorem isFrac_len {ds : List PyData} (h : ds.length ≠ 2) : isFrac (.tuple ds) = false := by
  match ds, h with
  | [], _ => rfl
  | [_], _ => rfl
  | [_, _], h => exact absurd rfl h
  | _ :: _ :: _ :: _, _ => rfl
theorem isFrac_no {d : PyData} (h : ¬ isT d = true) : isFrac d = false := by
  cases d <;> first | rfl | exact absurd rfl h
theorem isFrac_w {a b : PyData} (h : isW a = false ∨ isW b = false) :
    isFrac (.tuple [a, b]) = false := by
  cases a <;> cases b <;> first | rfl | (rcases h with h | h <;> cases h)
theorem isW_int {d : PyData} (h : ¬ isW d = false) : ∃ i, d = .int i := by
  cases d <;> first | exact ⟨_, rfl⟩ | exact absurd rfl h
theorem isT_tup {d : PyData} (h : isT d = true) : ∃ ds, d = .tuple ds := by
  cases d <;> first | exact ⟨_, rfl⟩ | cases h
theorem DV.tupI {z : Prop} {B : Addr → Prop} {H : Hp} {v : V} {ds : List PyData}
    (h : DV z B H v (.tuple ds)) : ∃ a xs, v = .ref a ∧ ¬ B a ∧ H a = some (.tup xs) ∧
      DVs z B H xs ds := by
  cases h with
  | tup n e h => exact ⟨_, _, rfl, n, e, h⟩
theorem DV.intI {z : Prop} {B : Addr → Prop} {H : Hp} {v : V} {i : Int}
    (h : DV z B H v (.int i)) : v = .int i := by
  cases h
  rfl
theorem two_of {α : Type} {xs : List α} (h : xs.length = 2) : ∃ a b, xs = [a, b] := by
  match xs, h with
  | [a, b], _ => exact ⟨a, b, rfl⟩
theorem DVs.twoI {z : Prop} {B : Addr → Prop} {H : Hp} {xs : List V} {a b : PyData}
    (h : DVs z B H xs [a, b]) : ∃ x y, xs = [x, y] ∧ DV z B H x a ∧ DV z B H y b := by
  cases h with
  | cons h t => cases t with
    | cons h2 t2 =>
      cases t2
      exact ⟨_, _, rfl, h, h2⟩
def sp_isfrac : Sp := fun vs H Q _ => ∃ (v : V) (d : PyData) (z : Prop) (B : Addr → Prop),
  vs = [v] ∧ DV z B H v d ∧ Q (.bl (isFrac d)) H

/-! ## the supply -/
def Sup (S : Addr) (H : Hp) : Prop := ∃ a b c : Int, H S = some (.lst [.int a, .int b, .int c]) ∧
  0 ≤ a ∧ 0 ≤ b ∧ b < 2147483648
abbrev At (S : Addr) : Addr → Prop := fun a => a = S
theorem Sup.tr {S : Addr} {H : Hp} (h : Sup S H) : H S ≠ none := by
  obtain ⟨a, b, c, e, _⟩ := h
  rw [e]
  exact fun z => nomatch z
theorem Sup.same {S : Addr} {H H' : Hp} (h : Sup S H) (s : Same H H') : Sup S H' := by
  obtain ⟨a, b, c, e, r⟩ := h
  exact ⟨a, b, c, s _ _ e, r⟩
theorem Sup.keep {S : Addr} {B : Addr → Prop} {H H' : Hp} (h : Sup S H) (s : Keep B H H')
    (n : ¬ B S) : Sup S H' := by
  obtain ⟨a, b, c, e, r⟩ := h
  exact ⟨a, b, c, s _ _ n e, r⟩
def sp_cell (K : PySem.W.Frag) : Sp := fun vs H Q _ => ∃ (a : Addr) (ns : List Int) (k : Int),
  vs = [.ref a, .int k] ∧ SqL K H a (ns.map V.int) ∧ 0 ≤ k ∧ ∀ c : Int, Q (.int c) H
def sp_source : Sp := fun vs H Q _ => ∃ c : Int, vs = [.int c] ∧
  ∀ S H', Same H H' → H S = none → Sup S H' → Q (.ref S) H'
def sp_draw : Sp := fun vs H Q _ => ∃ (S : Addr) (m : Int), vs = [.ref S, .int m] ∧ Sup S H ∧
  0 < m ∧ m < 2 ^ 70 ∧
  ∀ r H', Keep (At S) H H' → Sup S H' → 0 ≤ r → r < m → Q (.int r) H'
theorem divW {m : Int} (h0 : 0 < m) (h : m < 2 ^ 70) (i : Int) : CDivW i m :=
  wide_div (b := 70) h0 (by omega) (by decide) (by decide)
/-- an item of a list, by a draw -/
def sp_choose : Sp := fun vs H Q _ => ∃ (S L : Addr) (xs : List V), vs = [.ref S, .ref L] ∧
  Sup S H ∧ H L = some (.lst xs) ∧ 0 < xs.length ∧ xs.length < 1000000 ∧ L ≠ S ∧
  ∀ (i : Nat) (v : V) (H' : Hp), Keep (At S) H H' → Sup S H' → xs[i]? = some v → Q v H'
/-- two data alike -/
def sp_eqB : Sp := fun vs H Q _ => ∃ a b : Bool, vs = [.bl a, .bl b] ∧ Q (.bl (decide (a = b))) H
theorem shown_bool (a b : Bool) :
    decide (V.str (PyData.bool a).shown = V.str (PyData.bool b).shown) = decide (a = b) := by
  cases a <;> cases b <;> decide +kernel
theorem at_int {α : Type} {xs : List α} {k : Int} {v : α} (h0 : 0 ≤ k)
    (h : xs[k.toNat]? = some v) : atI xs k = some v := by
  obtain ⟨n, rfl⟩ : ∃ n : Nat, k = n := ⟨k.toNat, by omega⟩
  exact atI_nat h
theorem Keep.sup {S : Addr} {H : Hp} {o : HO} : Keep (At S) H (upd H S o) :=
  Keep.at (B := At S) rfl

/-! ## fractions reckoned -/
section
variable {X : Cx}
def CDivG (_ j : Int) : Prop := j ≠ 0 ∧ j.natAbs.log2 < 9000
theorem op_fdivG : OpR X (binaryOp .FloorDiv) (rI CDivG fun i j => .int (i.fdiv j)) :=
  opI fun _ _ _ _ _ _ _ hc q => floordiv_int hc.1 q (.inl (PyProof.noPylong_of_log2 hc.2))
end
theorem divG {m : Int} (h0 : m ≠ 0) (h : m.natAbs < 2 ^ 4000) (i : Int) : CDivG i m := by
  refine ⟨h0, ?_⟩
  have : m.natAbs.log2 < 4000 := (Nat.log2_lt (by omega)).mpr h
  omega
def frT (t b : Int) : Int := (if b < 0 then -t else t) / ((Int.gcd t b : Nat) : Int)
def frB (t b : Int) : Int := (if b < 0 then -b else b) / ((Int.gcd t b : Nat) : Int)
theorem gcd_posR {t b : Int} (h : b ≠ 0) : 0 < Int.gcd t b := Int.gcd_pos_of_ne_zero_right t h
theorem gcd_leR {t b : Int} (h : b ≠ 0) : Int.gcd t b ≤ b.natAbs :=
  Nat.le_of_dvd (by omega) (by rw [Int.gcd_comm]; exact Int.gcd_dvd_natAbs_left b t)
theorem fdiv_neg' (a : Int) {g : Int} (h : 0 < g) : a.fdiv (0 - g) = (-a) / g := by
  have e := Int.neg_fdiv_neg (-a) g
  rw [Int.neg_neg] at e
  rw [Int.zero_sub, e, Int.fdiv_eq_ediv_of_nonneg _ (by omega)]
theorem fr_ways {t b g : Int} (h : b ≠ 0) (hg : g = if b < 0 then 0 - ((Int.gcd t b : Nat) : Int)
    else ((Int.gcd t b : Nat) : Int)) : t.fdiv g = frT t b ∧ b.fdiv g = frB t b := by
  have p := gcd_posR (t := t) h
  unfold frT frB
  subst hg
  by_cases n : b < 0
  · rw [if_pos n, if_pos n, if_pos n]
    exact ⟨fdiv_neg' t (by omega), fdiv_neg' b (by omega)⟩
  · rw [if_neg n, if_neg n, if_neg n]
    exact ⟨Int.fdiv_eq_ediv_of_nonneg _ (by omega), Int.fdiv_eq_ediv_of_nonneg _ (by omega)⟩
theorem natAbs_ediv_le (a : Int) {g : Int} (h : 0 < g) : (a / g).natAbs ≤ a.natAbs := by
  rcases Int.lt_or_le a 0 with n | p
  · have h1 : a ≤ a / g := by
      have := Int.mul_ediv_add_emod a g
      have e0 := Int.emod_nonneg a (show g ≠ 0 by omega)
      have e1 := Int.emod_lt_of_pos a h
      rcases Int.lt_or_le (a / g) a with x | x
      · exfalso
        have : g * (a / g) ≤ g * (a - 1) := Int.mul_le_mul_of_nonneg_left (by omega) (by omega)
        have h3 : g * (a - 1) = g * a - g := by rw [Int.mul_sub, Int.mul_one]
        have h4 : g * a ≤ 1 * a := Int.mul_le_mul_of_nonpos_right (by omega) (by omega)
        omega
      · exact x
    have h2 : a / g ≤ 0 := Int.ediv_nonpos_of_nonpos_of_neg (by omega) h
    omega
  · have h1 : 0 ≤ a / g := Int.ediv_nonneg p (by omega)
    have h2 : a / g ≤ a := Int.ediv_le_self g p
    omega
theorem frT_le {t b : Int} (h : b ≠ 0) : (frT t b).natAbs ≤ t.natAbs := by
  have p := gcd_posR (t := t) h
  unfold frT
  refine Nat.le_trans (natAbs_ediv_le _ (by omega)) ?_
  split <;> omega
theorem frB_le {t b : Int} (h : b ≠ 0) : (frB t b).natAbs ≤ b.natAbs := by
  have p := gcd_posR (t := t) h
  unfold frB
  refine Nat.le_trans (natAbs_ediv_le _ (by omega)) ?_
  split <;> omega
def sp_lfrac : Sp := fun vs H Q _ => ∃ t b : Int, vs = [.int t, .int b] ∧ b ≠ 0 ∧
  b.natAbs < 2 ^ 4000 ∧ ∀ p H', Same H H' → H p = none →
    H' p = some (.tup [.int (frT t b), .int (frB t b)]) → Q (.ref p) H'
theorem DVs.pick {z : Prop} {B : Addr → Prop} {H : Hp} {xs : List V} {ds : List PyData} {i : Nat}
    {v : V} {p : PyData → Prop} (h : DVs z B H xs ds) (e : xs[i]? = some v) (a : ∀ d ∈ ds, p d) :
    ∃ d, p d ∧ DV z B H v d := by
  obtain ⟨d, h1, h2⟩ := h.at e
  exact ⟨d, a d (List.mem_of_getElem? h1), h2⟩
/-- the heap stays, but for what is new -/
def sp_isfracL : Sp := fun vs H Q _ => ∃ (v : V) (d : PyData) (z : Prop) (B : Addr → Prop),
  vs = [v] ∧ DV z B H v d ∧ ∀ H', Same H H' → Q (.bl (isFrac d)) H'
def gdB (W D : Nat) (d : PyData) : Bool := decide (d.weight ≤ W) && decide (d.depth ≤ D) && okS d
theorem gd_of {W D : Nat} {d : PyData} (h : gdB W D d = true) : Gd W D d := by
  unfold gdB at h
  simp only [Bool.and_eq_true, decide_eq_true_eq] at h
  exact ⟨h.1.1, h.1.2, h.2⟩
theorem gd_all {W D : Nat} {ds : List PyData} (h : ds.all (gdB W D) = true) : ∀ d ∈ ds, Gd W D d :=
  fun d m => gd_of (List.all_eq_true.mp h d m)
/-- some odd thing -/
def sp_odd : Sp := fun vs H Q _ => ∃ S : Addr, vs = [.ref S] ∧ Sup S H ∧
  ∀ (v : V) (d : PyData) (H' : Hp), Keep (At S) H H' → Sup S H' → DV True (Tr H) H' v d →
    Gd 60 5 d → Q v H'
theorem DV.lstI {z : Prop} {B : Addr → Prop} {H : Hp} {v : V} {ds : List PyData}
    (h : DV z B H v (.list ds)) : ∃ a xs, v = .ref a ∧ ¬ B a ∧ H a = some (.lst xs) ∧
      DVs z B H xs ds := by
  cases h with
  | lst n m e h => exact ⟨_, _, rfl, n, e, h⟩
theorem small1000' {n : Nat} (h : n ≤ 1000) : n ≤ sizeLine := Nat.le_of_lt (small1000 h)
mutual
theorem DV.keepS {z : Prop} {B C : Addr → Prop} {H H' : Hp} (k : Keep C H H')
    (c : ∀ a, C a → B a) : ∀ {v : V} {d : PyData}, DV z B H v d → DV z B H' v d
  | _, _, .non => .non
  | _, _, .bl b => .bl b
  | _, _, .int i => .int i
  | _, _, .str x => .str x
  | _, _, .lst n m e h => .lst n m (k _ _ (fun y => n (c _ y)) e) (DVs.keepS k c h)
  | _, _, .tup n e h => .tup n (k _ _ (fun y => n (c _ y)) e) (DVs.keepS k c h)
  | _, _, .dic n e q h => .dic n (k _ _ (fun y => n (c _ y)) e) q (DVs.keepS k c h)
theorem DVs.keepS {z : Prop} {B C : Addr → Prop} {H H' : Hp} (k : Keep C H H')
    (c : ∀ a, C a → B a) : ∀ {vs : List V} {ds : List PyData}, DVs z B H vs ds → DVs z B H' vs ds
  | _, _, .nil => .nil
  | _, _, .cons h t => .cons (DV.keepS k c h) (DVs.keepS k c t)
end
end Wr

namespace Wr
open PySem PySem.Spec PyProof.Rows L2

/-! ## t[::-1] of a tuple -/
section
variable {prog : Program} {w : World} {A : Around} {E : Value → Shared → Prop} {s : Shared}
theorem places_back (n : Nat) : Builtin.Slice.slicePlaces ((n : Int) - 1) (-1) (-1) = n := by
  unfold Builtin.Slice.slicePlaces
  have z : ¬ ((-1 : Int) > 0) := by decide
  simp only [z, if_false]
  split
  · rw [show (- -1 : Int) = 1 by decide, Int.ediv_one]
    omega
  · omega
theorem adjust_back (n : Nat) :
    Builtin.Slice.sliceAdjust none none (-1) (n : Int) = ((n : Int) - 1, -1) := by
  unfold Builtin.Slice.sliceAdjust
  have z : (-1 : Int) < 0 := by decide
  simp only [z, if_true]
theorem applied_back {sl : Addr} {vk : Value} {n : Nat} {Q : Int × Int × Nat → Shared → Prop}
    (hs : s.heap.IsSliceOf sl .none .none vk) (pk : IsPart vk (some (-1)))
    (h : Q ((n : Int) - 1, -1, n) s) :
    wpAny (model prog w) A (Builtin.Slice.sliceApplied (.ref sl) (pure (n : Int))) Q E s := by
  obtain ⟨ob, hob, hc, hd⟩ := id hs
  unfold Builtin.Slice.sliceApplied Builtin.Slice.sliceFields
  have q : wpAny (model prog w) A (pure (Value.none, Value.none, vk))
      (fun r s' => r = (Value.none, Value.none, vk) ∧ s' = s) E s := wpAny_pure ⟨rfl, rfl⟩
  refine wpAny_bind (wpAny_bind (wpAny_field hob hd (x := .none) rfl ?_))
  refine wpAny_bind (wpAny_field hob hd (x := .none) rfl ?_)
  refine wpAny_bind (wpAny_field hob hd (x := vk) rfl (wpAny_pure ?_))
  refine wpAny_bind (HT.slicePart_ pk ?_)
  show wpAny _ _ (if ((-1 : Int) == 0) = true then _ else _) _ _ s
  rw [if_neg (by decide)]
  refine wpAny_bind (slicePart_none (wpAny_bind (slicePart_none ?_)))
  refine wpAny_bind (wpAny_pure ?_)
  show wpAny _ _ (match Builtin.Slice.sliceAdjust none none (-1) (n : Int) with
    | (lo, hi) => pure (lo, (-1 : Int), Builtin.Slice.slicePlaces lo hi (-1))) _ _ s
  rw [adjust_back n]
  show wpAny _ _ (pure ((n : Int) - 1, (-1 : Int),
    Builtin.Slice.slicePlaces ((n : Int) - 1) (-1) (-1))) _ _ s
  rw [places_back]
  exact wpAny_pure h
theorem fm_congr {α β : Type} {f g : α → Option β} : ∀ {l : List α}, (∀ x ∈ l, f x = g x) →
    l.filterMap f = l.filterMap g
  | [], _ => rfl
  | x :: l, h => by
    rw [List.filterMap_cons, List.filterMap_cons, h x (List.mem_cons_self ..),
      fm_congr fun y hy => h y (List.mem_cons_of_mem _ hy)]
theorem pick_back (xs : Array Value) : ((List.range xs.size).filterMap fun (m : Nat) =>
    xs[(((xs.size : Int) - 1) + (m : Int) * (-1)).toNat]?).toArray = xs.toList.reverse.toArray := by
  have e : ∀ m ∈ List.range xs.size, xs[(((xs.size : Int) - 1) + (m : Int) * (-1)).toNat]?
      = xs[xs.size - 1 - m]? := fun m hm => by
    have := List.mem_range.mp hm
    have h : (((xs.size : Int) - 1) + (m : Int) * (-1)).toNat = xs.size - 1 - m := by omega
    rw [h]
  rw [fm_congr e]
  have e2 : (fun m => xs[xs.size - 1 - m]?) = (fun x => xs[x]?) ∘ (fun k => xs.size - 1 - k) := rfl
  rw [e2, ← List.filterMap_map, PySem.W.krv_range, List.filterMap_reverse, PySem.W.krv_all]
theorem getItem_tuple_back {t sl : Addr} {items : Array Value} {vk : Value}
    {Q : Value → Shared → Prop} (ht : IsTup s.heap t items)
    (hs : s.heap.IsSliceOf sl .none .none vk) (pk : IsPart vk (some (-1)))
    (h : Q (.ref s.heap.objs.size) { s with heap := (s.heap.push
        { cls := .type "tuple", data := .seq items.toList.reverse.toArray }) })
    (hz : items.size ≤ sizeLine) : wpAny (model prog w) A (getItem (.ref t) (.ref sl)) Q E s := by
  have fits : sizeOk (.seq items.toList.reverse.toArray) := by
    show items.toList.reverse.toArray.size ≤ sizeLine
    rw [List.size_toArray, List.length_reverse, Array.length_toList]
    exact hz
  obtain ⟨ob, hob, hc, hd⟩ := id hs
  have hT : s.TypeIs (.ref sl) "slice" := ⟨ob, hob, hc⟩
  unfold getItem
  try with_reducible refine wpAny_holding ?_
  first | refine wpAny_bind (wpAny_pure ?_) | skip
  refine wpAny_bind (wpAny_sequenceKey ht.typeIs (by decide) ?_)
  refine wpAny_bind (wpAny_callSpecial?_slot (name := Str.ofString "__getitem__") ht.typeIs
    PyProof.Rows.slot_tuple_getitem (wpAny_call_entry PyProof.Rows.slot_tuple_getitem ht.typeIs
      entry_tuple_getitem ?_ (args_tuple_getitem _ _)))
  show wpAny _ _ (Builtin.Tuple.tupleItemsOf (.ref t) >>= _) _ _ s
  refine wpAny_bind (tupleItemsOf_ ht (wpAny_bind (wpAny_typeOf hT ?_)))
  rw [if_pos (by decide)]
  refine wpAny_bind (applied_back (n := items.size) hs pk ?_)
  have hno : ¬ ((((items.size : Int) - 1) == 0 && (-1 : Int) == 1 && items.size == items.size) = true) := by
    intro q
    rw [Bool.and_eq_true, Bool.and_eq_true] at q
    exact absurd q.1.2 (by decide)
  show wpAny _ _ (if (((items.size : Int) - 1) == 0 && (-1 : Int) == 1 && items.size == items.size) = true then _ else _) _ _ s
  rw [if_neg hno, pick_back]
  first
    | exact wpAny_bind (m := Builtin.Tuple.tupleExact _)
        (wpAny_newObj_type (wpAny_pure ⟨_, rfl, wpAny_pure h⟩) fits)
    | exact wpAny_bind (m := Builtin.Tuple.tupleExact _)
        (wpAny_newObj_type (wpAny_bind (wpAny_pure (wpAny_pure ⟨_, rfl, wpAny_pure h⟩))) fits)
    | exact wpAny_bind (wpAny_bind (m := Builtin.Tuple.tupleExact _)
        (wpAny_newObj_type (wpAny_pure (wpAny_pure ⟨_, rfl, wpAny_pure h⟩)) fits))
    | exact wpAny_bind (wpAny_bind (m := Builtin.Tuple.tupleExact _)
        (wpAny_newObj_type (wpAny_pure ⟨_, rfl, wpAny_pure h⟩) fits))
end
section
variable {X : Cx}
def tRevT (K : PySem.W.Frag) (te : TE) : TE := fun σ H Q => te σ H fun x H1 => ∃ a xs,
  x = .ref a ∧ SqT K H1 a xs ∧ ∀ p, H1 p = none → Q (.ref p) (upd H1 p (.tup xs.reverse))
theorem pe_revS {e : Expr} {te : TE} {k : Nat} {p1 p2 p3 pos : Pos} (he : PE X e te) :
    PE X (.Subscript e (.Slice none none (some (.UnaryOp .USub (.Constant (.int 1) k p1) p2)) p3) pos)
      (tRevT X.K te) := by
  refine ⟨fun pins s σ H Q I h => Subscript_ (thn (he.run pins s σ H _ I h) ?_)⟩
  rintro v s1 ⟨x, H1, I1, r1, a, xs, rfl, hx, q⟩
  cases r1
  have one : PO X (some (.UnaryOp .USub (.Constant (.int 1) k p1) p2))
      (tPart (tUn (rU fun i => .int (-i)) (tC (.int 1)))) := po_some (pe_un un_neg pe_int)
  refine wpAny_Slice (thn (po_none.run pins s1 σ H1 (fun o H2 => o = none ∧ H2 = H1) I1 ⟨rfl, rfl⟩) ?_)
  rintro vl s2 ⟨l, H2, I2, pl, rfl, rfl⟩
  refine thn (po_none.run pins s2 σ H2 (fun o H3 => o = none ∧ H3 = H2) I2 ⟨rfl, rfl⟩) ?_
  rintro vu s3 ⟨u, H3, I3, pu, rfl, rfl⟩
  refine thn (one.run pins s3 σ H3 (fun o H4 => o = some (-1) ∧ H4 = H3) I3 ⟨1, rfl, -1, rfl, rfl, rfl⟩) ?_
  rintro vs s4 ⟨o, H4, I4, ps, rfl, rfl⟩
  have I5 : Inv X pins σ H4 { s4 with heap := (s4.heap.push
        { cls := .type "slice", data := .fields #[vl, vu, vs] }) } :=
    I4.kept (t' := s4.toks) fun b ob q => Heap.get?_push_of_some _ q
  obtain ⟨its, r, ht, hz⟩ := I5.tuple hx
  have hlen := r.length
  cases pl
  cases pu
  show wpAny (model X.prog X.w) X.A (subscriptTail e (.Slice none none (some (.UnaryOp .USub
    (.Constant (.int 1) k p1) p2)) p3) (.ref a) (.ref s4.heap.objs.size)) (EP X pins σ Q) X.xe _
  refine tail_any (ops := [.ref a, .ref s4.heap.objs.size]) ht.typeIs
    PyProof.Rows.slot_tuple_getitem.lookup ?_ (by with_unfolding_all rfl)
  refine getItem_tuple_back ht (Heap.IsSliceOf.new _ .none .none vs) ps ?_
    (by rw [List.size_toArray]; omega)
  refine ⟨.ref _, _, I5.laid (t' := s4.toks) (o := .tup xs.reverse)
    (fun b ob q => Heap.get?_push_of_some _ q) (Nat.le_refl _) ?_, rfl, q _ (I5.hok.fresh (Nat.le_refl _))⟩
  refine ⟨by rw [List.length_reverse]; exact hz, its.reverse, r.reverse, ⟨_, Heap.get?_push_size _ rfl, rfl, _, rfl⟩⟩
end
end Wr

namespace Wr
open PySem PySem.Spec PyProof.Rows L2

/-! ## sizes of rows -/
theorem wAll_app : ∀ xs ys : List PyData,
    PyData.weightAll (xs ++ ys) = PyData.weightAll xs + PyData.weightAll ys
  | [], ys => by simp only [List.nil_append, PyData.weightAll, Nat.zero_add]
  | x :: xs, ys => by
    rw [List.cons_append]
    simp only [PyData.weightAll, wAll_app xs ys]
    omega
theorem dAll_app : ∀ xs ys : List PyData,
    PyData.depthAll (xs ++ ys) = max (PyData.depthAll xs) (PyData.depthAll ys)
  | [], ys => by simp only [List.nil_append, PyData.depthAll, Nat.zero_max]
  | x :: xs, ys => by
    rw [List.cons_append]
    simp only [PyData.depthAll, dAll_app xs ys]
    omega
theorem okAll_app : ∀ xs ys : List PyData, okSs (xs ++ ys) = (okSs xs && okSs ys)
  | [], ys => by simp only [List.nil_append, okSs, Bool.true_and]
  | x :: xs, ys => by
    rw [List.cons_append]
    simp only [okSs, okAll_app xs ys, Bool.and_assoc]
structure Gs (W D : Nat) (es : List PyData) : Prop where
  w : PyData.weightAll es ≤ W
  d : PyData.depthAll es ≤ D
  s : okSs es = true
theorem Gs.mono {W D W' D' : Nat} {es : List PyData} (g : Gs W D es) (h : W ≤ W') (h' : D ≤ D') :
    Gs W' D' es := ⟨Nat.le_trans g.w h, Nat.le_trans g.d h', g.s⟩
theorem Gs.nil {W D : Nat} : Gs W D [] := ⟨Nat.zero_le _, Nat.zero_le _, rfl⟩
theorem Gs.app {W D W' : Nat} {xs ys : List PyData} (g : Gs W D xs) (h : Gs W' D ys) :
    Gs (W + W') D (xs ++ ys) := by
  refine ⟨?_, ?_, ?_⟩
  · rw [wAll_app]
    exact Nat.add_le_add g.w h.w
  · rw [dAll_app]
    exact Nat.max_le.mpr ⟨g.d, h.d⟩
  · rw [okAll_app, g.s, h.s]
    rfl
theorem Gs.of_app {W D : Nat} {xs ys : List PyData} (g : Gs W D (xs ++ ys)) :
    Gs W D xs ∧ Gs W D ys := by
  have h1 := g.w
  have h2 := g.d
  have h3 := g.s
  rw [wAll_app] at h1
  rw [dAll_app] at h2
  rw [okAll_app, Bool.and_eq_true] at h3
  exact ⟨⟨by omega, by omega, h3.1⟩, ⟨by omega, by omega, h3.2⟩⟩
theorem Gs.take {W D : Nat} {xs : List PyData} (g : Gs W D xs) (n : Nat) : Gs W D (xs.take n) := by
  rw [← List.take_append_drop n xs] at g
  exact g.of_app.1
theorem Gs.drop {W D : Nat} {xs : List PyData} (g : Gs W D xs) (n : Nat) : Gs W D (xs.drop n) := by
  rw [← List.take_append_drop n xs] at g
  exact g.of_app.2
theorem Gs.one {W D : Nat} {x : PyData} (g : Gd W D x) : Gs (W + 1) D [x] := by
  refine ⟨?_, ?_, ?_⟩
  · simp only [PyData.weightAll]
    have := g.w
    omega
  · simp only [PyData.depthAll]
    have := g.d
    omega
  · simp only [okSs, g.s, Bool.and_true]
theorem Gs.rev {W D : Nat} : ∀ {xs : List PyData}, Gs W D xs → Gs W D xs.reverse
  | [], g => g
  | x :: xs, g => by
    have h := Gs.of_app (xs := [x]) (ys := xs) g
    have hw : PyData.weightAll (x :: xs) ≤ W := g.w
    have h2 : Gs (W - PyData.weightAll [x]) D xs := by
      refine ⟨?_, h.2.d, h.2.s⟩
      simp only [PyData.weightAll] at hw ⊢
      omega
    have h3 := Gs.rev h2
    have h1 : Gs (PyData.weightAll [x]) D [x] := ⟨Nat.le_refl _, h.1.d, h.1.s⟩
    rw [List.reverse_cons]
    refine (h3.app h1).mono ?_ (Nat.le_refl _)
    simp only [PyData.weightAll] at hw ⊢
    omega
theorem Gd.tup {W D : Nat} {es : List PyData} (g : Gs W D es) : Gd W (D + 1) (.tuple es) :=
  ⟨by simp only [PyData.weight]; exact g.w, by simp only [PyData.depth]; have := g.d; omega,
    by simp only [okS]; exact g.s⟩
theorem Gd.lst {W D : Nat} {es : List PyData} (g : Gs W D es) : Gd W (D + 1) (.list es) :=
  ⟨by simp only [PyData.weight]; exact g.w, by simp only [PyData.depth]; have := g.d; omega,
    by simp only [okS]; exact g.s⟩
theorem Gd.tupI {W D : Nat} {es : List PyData} (g : Gd W D (.tuple es)) :
    1 ≤ D ∧ Gs W (D - 1) es := by
  have h1 := g.w
  have h2 := g.d
  have h3 := g.s
  simp only [PyData.weight] at h1
  simp only [PyData.depth] at h2
  simp only [okS] at h3
  exact ⟨by omega, h1, by omega, h3⟩
theorem Gd.int {W D : Nat} {i : Int} (h : i.natAbs < 2 ^ W) : Gd W D (.int i) :=
  ⟨int_w_lt h, by simp only [PyData.depth]; exact Nat.zero_le _, rfl⟩
theorem Gd.bool {W D : Nat} {b : Bool} : Gd W D (.bool b) :=
  ⟨by simp only [PyData.weight]; exact Nat.zero_le _, by simp only [PyData.depth]; exact Nat.zero_le _, rfl⟩
/-- the place of an item: what is ahead, what is behind -/
theorem split_at {α : Type} {xs : List α} {i : Nat} {x : α} (h : xs[i]? = some x) :
    xs = xs.take i ++ x :: xs.drop (i + 1) := by
  obtain ⟨hl, e⟩ := List.getElem?_eq_some_iff.mp h
  rw [← e, List.getElem_cons_drop, List.take_append_drop]
theorem Gs.item {W D : Nat} {xs : List PyData} {i : Nat} {x : PyData} (g : Gs W D xs)
    (h : xs[i]? = some x) : Gd W D x ∧ x.weight + 1 + PyData.weightAll (xs.take i)
      + PyData.weightAll (xs.drop (i + 1)) ≤ W := by
  have e := split_at h
  have h1 := g.w
  have g2 := g
  rw [e] at g2
  have g3 := Gs.of_app (xs := [x]) g2.of_app.2
  have g4 := g3.1
  rw [e, wAll_app] at h1
  simp only [PyData.weightAll] at h1
  refine ⟨⟨?_, ?_, ?_⟩, ?_⟩
  · have := g4.w
    simp only [PyData.weightAll] at this
    omega
  · have := g4.d
    simp only [PyData.depthAll] at this
    omega
  · have := g4.s
    simp only [okSs, Bool.and_true] at this
    exact this
  · omega
/-- the text of a number -/
theorem int_text_w {i : Int} {W : Nat} (h : i.natAbs < 2 ^ W) :
    Gd (W + 2) 0 (.str (toString i)) := by
  have h1 := int_shown_le (int_w_lt h)
  refine ⟨?_, by simp only [PyData.depth]; exact Nat.zero_le _, ?_⟩
  · simp only [PyData.weight]
    simp only [PyData.shown] at h1
    exact h1
  · simp only [okS]
    rw [List.all_eq_true]
    intro c hc
    have d : ¬ (c ≠ 45 ∧ (c < 48 ∨ 57 < c)) := fun k => int_text_free' c k i hc
    exact decide_eq_true (by omega)

/-! ## plain data -/
mutual
theorem DV.dp {z : Prop} {B : Addr → Prop} {K : PySem.W.Frag} {H : Hp} : ∀ (d : PyData) (v : V),
    DV z B H v d → d.canLay0 = true → Dp K H v d
  | .none, _, .non, _ => .non
  | .bool b, _, .bl _, _ => .bl b
  | .int i, _, .int _, _ => .int i
  | .str x, _, .str _, _ => .str x
  | .list ds, _, .lst _ _ e h, c => by
    simp only [PyData.canLay0] at c
    exact .lst (.inl (.inl e)) (DVs.dp ds _ h c)
  | .tuple ds, _, .tup _ e h, c => by
    simp only [PyData.canLay0] at c
    exact .tup (.inl (.inl e)) (DVs.dp ds _ h c)
  | .dict es, _, _, c => by simp only [PyData.canLay0] at c; cases c
theorem DVs.dp {z : Prop} {B : Addr → Prop} {K : PySem.W.Frag} {H : Hp} : ∀ (ds : List PyData)
    (vs : List V), DVs z B H vs ds → PyData.canLayAll0 ds = true → DpAll K H vs ds
  | [], _, .nil, _ => .nil
  | d :: ds, _, .cons h t, c => by
    simp only [PyData.canLayAll0, Bool.and_eq_true] at c
    exact .cons (DV.dp d _ h c.1) (DVs.dp ds _ t c.2)
end
theorem shaped_of {d : PyData} (h : d.canLay0 = true) (h' : d.depth ≤ 64) : SeqAt.shaped d = true := by
  unfold SeqAt.shaped
  rw [h, decide_eq_true h']
  rfl
mutual
theorem ok_of_lay : ∀ d : PyData, d.canLay0 = true → okS d = true
  | .none, _ => rfl
  | .bool _, _ => rfl
  | .int _, _ => rfl
  | .str x, h => by
    simp only [PyData.canLay0, PyData.strOk] at h
    simp only [okS]
    rw [List.all_eq_true]
    intro c hc
    have := Array.all_eq_true_iff_forall_mem.mp h c (by simpa using hc)
    have := of_decide_eq_true this
    exact decide_eq_true (by omega)
  | .list xs, h => by
    simp only [PyData.canLay0] at h
    simp only [okS]
    exact ok_of_lays xs h
  | .tuple xs, h => by
    simp only [PyData.canLay0] at h
    simp only [okS]
    exact ok_of_lays xs h
  | .dict _, h => by simp only [PyData.canLay0] at h; cases h
theorem ok_of_lays : ∀ ds : List PyData, PyData.canLayAll0 ds = true → okSs ds = true
  | [], _ => rfl
  | d :: ds, h => by
    simp only [PyData.canLayAll0, Bool.and_eq_true] at h
    simp only [okSs, ok_of_lay d h.1, ok_of_lays ds h.2, Bool.and_self]
end
theorem layAll_at : ∀ {ds : List PyData} {i : Nat} {d : PyData}, PyData.canLayAll0 ds = true →
    ds[i]? = some d → d.canLay0 = true
  | d :: ds, 0, e, h, q => by
    simp only [PyData.canLayAll0, Bool.and_eq_true] at h
    rw [List.getElem?_cons_zero] at q
    cases q
    exact h.1
  | d :: ds, i + 1, e, h, q => by
    simp only [PyData.canLayAll0, Bool.and_eq_true] at h
    rw [List.getElem?_cons_succ] at q
    exact layAll_at h.2 q
theorem eqv_empty (ds : List PyData) : PyData.eqv (.tuple ds) (.tuple []) = ds.isEmpty := by
  cases ds <;> simp only [PyData.eqv, PyData.eqvAll, List.isEmpty]

/-! ## rules over data -/
section
variable {X : Cx}
def cutP (ds : List PyData) (lo hi : Option Int) : List PyData :=
  (ds.drop (HT.sIx ds.length 0 lo)).take (HT.sIx ds.length ds.length hi - HT.sIx ds.length 0 lo)
def rSlD : V → Option Int → Option Int → Hp → VK → Prop := fun x lo hi H Q =>
  ∃ (a : Addr) (xs : List V) (ds : List PyData) (z : Prop) (B : Addr → Prop), x = .ref a ∧ ¬ B a ∧
    H a = some (.tup xs) ∧ DVs z B H xs ds ∧ (∀ b, B b → Tr H b) ∧
    ∀ b ys H', Same H H' → ¬ B b → H' b = some (.tup ys) → DVs z B H' ys (cutP ds lo hi) →
      Q (.ref b) H'
theorem sl_dat : SlR X rSlD := by
  intro pins s σ H x v vl vu lo hi sl Q I rx hs pl pu h
  obtain ⟨a, xs, ds, z, B, rfl, na, e, hx, hB, q⟩ := h
  have hl := hx.length
  refine sl_tupA pins s σ H _ v vl vu lo hi sl Q I rx hs pl pu ⟨a, xs, rfl, .inl (.inl e), fun hw => ?_,
    fun hw p np => ?_⟩
  · refine q a xs H (Same.refl H) na e ?_
    have : cutP ds lo hi = ds := by
      unfold cutP
      rw [← hl, hw.1, hw.2, List.drop_zero, Nat.sub_zero, hl]
      exact List.take_of_length_le (Nat.le_refl _)
    rw [this]
    exact hx
  · refine q p _ _ (Same.new np) (fun m => hB p m np) upd_same ?_
    unfold cutP
    rw [← hl]
    exact ((hx.drop _).take _).keep (Keep.new np)
def rCatD : R2 := fun x y H Q => ∃ (a b : Addr) (xs ys : List V) (ds es : List PyData) (z : Prop)
  (B : Addr → Prop), x = .ref a ∧ y = .ref b ∧ ¬ B a ∧ ¬ B b ∧ H a = some (.tup xs) ∧
    H b = some (.tup ys) ∧ DVs z B H xs ds ∧ DVs z B H ys es ∧ (∀ b, B b → Tr H b) ∧
    ds.length + es.length ≤ sizeLine ∧
    ∀ c zs H', Same H H' → ¬ B c → H' c = some (.tup zs) → DVs z B H' zs (ds ++ es) →
      Q (.ref c) H'
theorem op_catD : OpR X (binaryOp .Add) rCatD := by
  intro pins s σ H x y v u Q I rx ry h
  obtain ⟨a, b, xs, ys, ds, es, z, B, rfl, rfl, na, nb, ea, eb, hx, hy, hB, hz, q⟩ := h
  have l1 := hx.length
  have l2 := hy.length
  refine op_catA pins s σ H _ _ v u Q I rx ry ⟨a, b, xs, ys, rfl, rfl, .inl (.inl ea),
    .inl (.inl eb), by omega, fun e => ?_, fun _ e => ?_, fun _ _ p np => ?_⟩
  · subst e
    cases hx
    exact q b ys H (Same.refl H) nb eb hy
  · subst e
    cases hy
    refine q a xs H (Same.refl H) na ea ?_
    rw [List.append_nil]
    exact hx
  · exact q p _ _ (Same.new np) (fun m => hB p m np) upd_same
      ((hx.app hy).keep (Keep.new np))
theorem call_listS : CallR X (.type "list") (fun xs H Q => ∃ p ys, xs = [.ref p] ∧
    SqT X.K H p ys ∧ ∀ l, H l = none → l ≠ sysModules → Q (.ref l) (upd H l (.lst ys))) := by
  intro pins s σ H xs us Q I r h
  obtain ⟨p, ys, rfl, hq, q⟩ := h
  obtain ⟨u, rfl, rx⟩ := vals1 r
  cases rx
  obtain ⟨its, r2, pl, hz⟩ := I.tuple hq
  have hlen := r2.length
  obtain ⟨o, ho, hc, n, hd⟩ := pl
  refine call_list_seq p (.inr rfl) ho hc hd (fun h2 c2 kp e => ?_)
    (by simp only [List.size_toArray]; omega)
  refine ⟨.ref s.heap.objs.size, _, I.laid (t' := s.toks) (o := .lst ys) kp (Nat.le_refl _) ?_, rfl,
    q _ (I.hok.fresh (Nat.le_refl _)) (Nat.ne_of_gt I.big)⟩
  exact ⟨hz, its, c2, r2, e⟩
end
/-! ## a word between two statements -/
section
variable {X : Cx}
def tMid (t u : TS) : TS := fun D σ H => ∃ R : L2.St → Hp → Prop,
  t { nx := R, rt := D.rt, bk := D.bk, ct := D.ct } σ H ∧ ∀ τ G, R τ G → u D τ G
theorem pss_mid {a : Stmt} {more : List Stmt} {t u : TS} (ha : PS X a t) (hm : PSs X more u) :
    PSs X (a :: more) (tMid t u) := by
  refine ⟨fun pins s σ H D I ⟨R, h1, h2⟩ => wpAny_execs_cons (thn (ha.run pins s σ H _ I h1) ?_)⟩
  intro fl s1 q
  match fl, q with
  | .next, ⟨τ, G, J, r⟩ => exact hm.run pins s1 τ G D J (h2 τ G r)
  | .ret _, q => exact q
  | .brk, q => exact q
  | .cont, q => exact q
end
theorem cutP_to (ds : List PyData) (i : Int) (h : 0 ≤ i) : cutP ds none (some i) = ds.take i.toNat := by
  unfold cutP
  obtain ⟨n, rfl⟩ : ∃ n : Nat, i = n := ⟨i.toNat, by omega⟩
  rw [HT.sIx_none, HT.sIx_nat, List.drop_zero, Nat.sub_zero, Int.toNat_natCast]
  by_cases h : n ≤ ds.length
  · rw [Nat.min_eq_left h]
  · rw [Nat.min_eq_right (by omega), List.take_of_length_le (Nat.le_refl _),
      List.take_of_length_le (by omega)]
theorem cutP_from (ds : List PyData) (i : Int) (h : 0 ≤ i) : cutP ds (some i) none = ds.drop i.toNat := by
  unfold cutP
  obtain ⟨n, rfl⟩ : ∃ n : Nat, i = n := ⟨i.toNat, by omega⟩
  rw [HT.sIx_none, HT.sIx_nat, Int.toNat_natCast]
  by_cases h : n ≤ ds.length
  · rw [Nat.min_eq_left h]
    exact List.take_of_length_le (by rw [List.length_drop]; exact Nat.le_refl _)
  · rw [Nat.min_eq_right (by omega), Nat.sub_self, List.take_zero, List.drop_eq_nil_of_le (by omega)]
/-- a value bent somewhere -/
def sp_bent (n : Nat) : Sp := fun vs H Q _ => ∃ (S : Addr) (v : V) (d : PyData) (W D : Nat)
  (B : Addr → Prop), vs = [.ref S, v, .int n] ∧ Sup S H ∧ (∀ a, B a → Tr H a) ∧ B S ∧
  DV True B H v d ∧ d.canLay0 = true ∧ Gd W D d ∧ W ≤ 1000 ∧ D ≤ 20 ∧
  ∀ (v' : V) (d' : PyData) (H' : Hp), Keep (At S) H H' → Sup S H' → DV True B H' v' d' →
    Gd (2 * W + 70) (D + 6) d' → Q v' H'
/-- a pair of numbers -/
def sp_pair : Sp := fun vs H Q _ => ∃ S : Addr, vs = [.ref S] ∧ Sup S H ∧
  ∀ (p : Addr) (x y : Int) (H' : Hp), Keep (At S) H H' → Sup S H' → H p = none →
    H' p = some (.tup [.int x, .int y]) → x.natAbs < 2 ^ 60 → y.natAbs < 2 ^ 60 → Q (.ref p) H'
theorem Keep.free {S p : Addr} {H H' : Hp} (k : Keep (At S) H H') (h : H' p = none) (n : p ≠ S) :
    H p = none := by
  cases e : H p with
  | none => rfl
  | some o =>
    rw [k p o n e] at h
    cases h
theorem Sup.ne {S p : Addr} {H : Hp} (h : Sup S H) (n : H p = none) : p ≠ S := fun e => h.tr (e ▸ n)
theorem sql_keep {K : PySem.W.Frag} {H H' : Hp} {S a : Addr} {xs : List V} (h : SqL K H a xs)
    (n : H S = none) (k : Keep (At S) H H') : SqL K H' a xs := by
  rcases h with (h | ⟨o, h⟩) | h
  · exact .inl (.inl (k _ _ (ne_of_none h n) h))
  · exact .inl (.inr ⟨o, k _ _ (ne_of_none h n) h⟩)
  · exact .inr h
/-- the law: from the script -/
def sp_law (K : PySem.W.Frag) : Sp := fun vs H Q _ => ∃ (a : Addr) (ns : List Int),
  vs = [.ref a] ∧ SqL K H a (ns.map V.int) ∧ ns.length ≤ 63 ∧ ∀ H', Q (.bl true) H'
theorem law_start (K : PySem.W.Frag) (H : Hp) (a : Addr) (ns : List Int) (hl : ns.length ≤ 63)
    (_ : Only H) (hS : SqL K H a (ns.map V.int)) :
    sp_law K [.ref a] H (fun v _ => v = .bl true) fun _ _ _ => False :=
  ⟨a, ns, rfl, hS, hl, fun _ => rfl⟩

/-! ## errors -/
abbrev veT : List Value := [.type "ValueError", .type "Exception", .type "BaseException", .type "object"]
/-- whether an error of the class at c is one that «except o» names -/
theorem exm_is {K : PySem.W.Frag} {c o : Addr} {r : Bool}
    (h1 : PySem.W.subIn K (.ref o) (.type "BaseException") = some true)
    (h2 : PySem.W.isClsIn K o = true) (h3 : PySem.W.typeIn K (.ref o) = some (.type "type"))
    (h4 : PySem.W.subIn K (.ref c) (.ref o) = some r) :
    PySem.W.exmOne K (.ref c) (.ref o) = some r := by
  have a1 : (PySem.W.subIn K (.ref o) (.type "BaseException") == some true) = true := by rw [h1]; rfl
  have a2 : (PySem.W.clsIn K o).isSome = true := h2
  have a3 : ((PySem.W.clsIn K o).isSome && PySem.W.typeIn K (.ref o) == some (.type "type")) = true := by
    rw [a2, h3]
    rfl
  unfold PySem.W.exmOne
  rw [if_pos a1]
  show (if ((PySem.W.clsIn K o).isSome && PySem.W.typeIn K (.ref o) == some (.type "type")) = true
    then PySem.W.subIn K (.ref c) (.ref o) else none) = some r
  rw [if_pos a3]
  exact h4
/-- two integers, the second not 0 -/
def frOk : PyData → PyData → Bool
  | .int _, .int b => decide (b ≠ 0)
  | _, _ => false
def sp_fraction (C : Addr) : Sp := fun vs H Q E => ∃ (v1 v2 : V) (d1 d2 : PyData) (z1 z2 : Prop)
  (B1 B2 : Addr → Prop), vs = [v1, v2] ∧ DV z1 B1 H v1 d1 ∧ DV z2 B2 H v2 d2 ∧
  (frOk d1 d2 = false → E (.ref C) none H) ∧
  ∀ t b, d1 = .int t → d2 = .int b → b ≠ 0 → b.natAbs < 2 ^ 4000 ∧ ∀ p H', Same H H' → H p = none →
    H' p = some (.tup [.int (frT t b), .int (frB t b)]) → Q (.ref p) H'
def sp_tryfrac : Sp := fun vs H Q _ => ∃ (v1 v2 : V) (d1 d2 : PyData) (z1 z2 : Prop)
  (B1 B2 : Addr → Prop), vs = [v1, v2] ∧ DV z1 B1 H v1 d1 ∧ DV z2 B2 H v2 d2 ∧
  (frOk d1 d2 = false → Q (.str "refused") H) ∧
  ∀ t b, d1 = .int t → d2 = .int b → b ≠ 0 → b.natAbs < 2 ^ 4000 ∧ ∀ p H', Same H H' → H p = none →
    H' p = some (.tup [.int (frT t b), .int (frB t b)]) → Q (.ref p) H'
/-- two readings of one datum -/
def sp_eqR (n : Nat) : Sp := fun vs H Q _ => ∃ (x y : V) (d : PyData) (z1 z2 : Prop)
  (B1 B2 : Addr → Prop), vs = [x, y] ∧ DV z1 B1 H x d ∧ DV z2 B2 H y d ∧
  (d.hasDict = true → z1 ∧ z2) ∧ Gd 1900 n d ∧ Q (.bl true) H
end Wr

namespace Wr
open PySem PySem.Spec PyProof.Rows L2

/-! ## comprehensions that make data -/
abbrev No : Addr → Prop := fun _ => False
theorem DV.no {z z' : Prop} {B : Addr → Prop} {H : Hp} {v : V} {d : PyData} (h : DV z B H v d)
    (hz : z' → z) : DV z' No H v d := h.less hz fun _ _ _ _ n => n
theorem DVs.no {z z' : Prop} {B : Addr → Prop} {H : Hp} {v : List V} {d : List PyData}
    (h : DVs z B H v d) (hz : z' → z) : DVs z' No H v d := h.less hz fun _ _ _ _ n => n
theorem _root_.L2.Same.at {G H : Hp} {D : Addr} {o : HO} (s : Same G H) (n : G D = none) :
    Same G (upd H D o) := fun a u e => by
  rw [upd_ne (ne_of_none e n)]
  exact s a u e
/-- one item more -/
theorem grow {G H2 H3 : Hp} {D : Addr} {acc : List V} {ds : List PyData} {y : V} {d : PyData}
    (nD : G D = none) (s2 : Same G H2) (e2 : H2 D = some (.lst acc))
    (h2 : DVs False (At D) H2 acc ds) (s3 : Same H2 H3) (h3 : DV False (At D) H3 y d) :
    Same G (upd H3 D (.lst (acc ++ [y]))) ∧
      (upd H3 D (.lst (acc ++ [y]))) D = some (.lst (acc ++ [y])) ∧
      DVs False (At D) (upd H3 D (.lst (acc ++ [y]))) (acc ++ [y]) (ds ++ [d]) := by
  have k : Keep (At D) H3 (upd H3 D (.lst (acc ++ [y]))) := Keep.sup
  exact ⟨(s2.trans s3).at nD, upd_same,
    ((h2.keep (Keep.same s3)).keep k).app (.cons (h3.keep k) .nil)⟩
section
variable {te : TE} {vs : List Nat} {σ : L2.St} {G : Hp} {D : Addr} {Qd : Hp → Prop} {k : Nat}
theorem lc_rangeD {lo : Int} {n : Nat} (f : Nat → PyData) (nD : G D = none) (hn : n ≤ 1000)
    (hw : ∀ x, wipe ((wipe σ vs).set k (some x)) vs = wipe σ vs)
    (hel : ∀ (i : Nat) (H2 : Hp) (Q : VK), i < n → Same G H2 → Tr H2 D →
      (∀ y H3, Same H2 H3 → DV False (At D) H3 y (f i) → Q y H3) →
      te ((wipe σ vs).set k (some (.int (lo + i)))) H2 Q)
    (hd : ∀ H' acc, Same G H' → H' D = some (.lst acc) →
      DVs False (At D) H' acc ((List.range n).map f) → Qd H') :
    ∃ W : Nat → Nat → Hp → Prop, (∃ m, W 0 m (upd G D (.lst []))) ∧ ∀ i m H, W i m H →
      ((Itr lo n).stop i H ∧ Qd H) ∨ ((Itr lo n).go i H ∧ ∃ Nx : Hp → Prop,
        (∀ H', Nx H' → ∃ m', m' < m ∧ W (i + 1) m' H') ∧ ∀ x H', (Itr lo n).yld i H x H' →
        gName k x (wipe σ vs) H' fun σ2 H2 => wipe σ2 vs = wipe σ vs ∧ tYes σ2 H2 fun b H3 =>
          if b = true then te σ2 H3 fun y H4 => ∃ acc, H4 D = some (.lst acc) ∧ acc.length < sizeLine ∧
            Nx (upd H4 D (.lst (acc ++ [y]))) else Nx H3) := by
  refine lc_range (fun i H => ∃ acc, Same G H ∧ H D = some (.lst acc) ∧
    DVs False (At D) H acc ((List.range i).map f)) ⟨[], (Same.refl G).at nD, upd_same, .nil⟩
    (fun i H2 hi h => ?_) (fun H2 h => ?_)
  · obtain ⟨acc, s2, e2, h2⟩ := h
    have la := h2.length
    rw [List.length_map, List.length_range] at la
    refine ⟨hw _, hel i H2 _ hi s2 (by rw [Tr, e2]; exact fun z => nomatch z) fun y H3 s3 h3 => ?_⟩
    refine ⟨acc, s3 _ _ e2, small1000 (by omega), acc ++ [y], ?_⟩
    have g := grow nD s2 e2 h2 s3 h3
    refine ⟨g.1, g.2.1, ?_⟩
    rw [List.range_succ, List.map_append]
    exact g.2.2
  · obtain ⟨acc, s2, e2, h2⟩ := h
    exact hd H2 acc s2 e2 h2
end

/-! ## fractions checked -/
def sp_check (C : Addr) : Sp := fun vs H Q E => ∃ (a : Addr) (xs : List V) (ds : List PyData)
  (z : Prop) (B : Addr → Prop), vs = [.ref a] ∧ H a = some (.tup xs) ∧ DVs z B H xs ds ∧
  (ds.all isFrac = false → E (.ref C) none H) ∧ (ds.all isFrac = true → Q .non H)
theorem isFrac_two {d : PyData} (h : isFrac d = true) : ∃ t b : Int, d = .tuple [.int t, .int b] ∧
    1 ≤ b ∧ Int.gcd t b = 1 := by
  cases d with
  | tuple ds =>
    match ds, h with
    | [a, b], h =>
      have h : isFr2 a b = true := h
      match a, b, h with
      | .int t, .int u, h =>
        simp only [isFr2, Bool.and_eq_true, decide_eq_true_eq] at h
        exact ⟨t, u, rfl, h.1, h.2⟩
      | .int _, .none, h => cases h
      | .int _, .bool _, h => cases h
      | .int _, .str _, h => cases h
      | .int _, .list _, h => cases h
      | .int _, .tuple _, h => cases h
      | .int _, .dict _, h => cases h
      | .none, _, h => cases h
      | .bool _, _, h => cases h
      | .str _, _, h => cases h
      | .list _, _, h => cases h
      | .tuple _, _, h => cases h
      | .dict _, _, h => cases h
    | [], h => cases h
    | [_], h => cases h
    | _ :: _ :: _ :: _, h => cases h
  | none => cases h
  | bool _ => cases h
  | int _ => cases h
  | str _ => cases h
  | list _ => cases h
  | dict _ => cases h
theorem Gd.two {W D : Nat} {t b : Int} (g : Gd W D (.tuple [.int t, .int b])) :
    t.natAbs < 2 ^ W ∧ b.natAbs < 2 ^ W := by
  have h := g.w
  simp only [PyData.weight, PyData.weightAll] at h
  have h1 : (PyData.int t).weight ≤ W := by simp only [PyData.weight]; omega
  have h2 : (PyData.int b).weight ≤ W := by simp only [PyData.weight]; omega
  exact ⟨int_lt_w h1, int_lt_w h2⟩
theorem DVs.two {z : Prop} {B : Addr → Prop} {H : Hp} {t b : Int} {v : V}
    (h : DV z B H v (.tuple [.int t, .int b])) :
    ∃ a, v = .ref a ∧ ¬ B a ∧ H a = some (.tup [.int t, .int b]) := by
  obtain ⟨a, xs, rfl, n, e, hx⟩ := h.tupI
  obtain ⟨x, y, rfl, h1, h2⟩ := hx.twoI
  obtain rfl := h1.intI
  obtain rfl := h2.intI
  exact ⟨a, rfl, n, e⟩
/-- a flat datum as a value -/
def toV : PyData → V
  | .bool b => .bl b
  | .int i => .int i
  | .str x => .str x
  | _ => .non
def cmpI (a b c d : Int) : Int := if a * d < c * b then -1 else if c * b < a * d then 1 else 0
def cmpF : PyData → PyData → PyData
  | .tuple [.int a, .int b], .tuple [.int c, .int d] => .int (cmpI a b c d)
  | _, _ => .none
def cmpD (x y : PyData) : PyData := if isFrac x = true ∧ isFrac y = true then cmpF x y else .str "refused"
def sp_compare (C : Addr) : Sp := fun vs H Q E => ∃ (v1 v2 : V) (d1 d2 : PyData) (z1 z2 : Prop)
  (B1 B2 : Addr → Prop), vs = [v1, v2] ∧ DV z1 B1 H v1 d1 ∧ DV z2 B2 H v2 d2 ∧ Gd 400 20 d1 ∧
  Gd 400 20 d2 ∧
  (∀ H', Same H H' → ¬ (isFrac d1 = true ∧ isFrac d2 = true) → E (.ref C) none H') ∧
  (∀ H', Same H H' → isFrac d1 = true ∧ isFrac d2 = true → Q (toV (cmpD d1 d2)) H')
def sp_cmpD : Sp := fun vs H Q _ => ∃ (v1 v2 : V) (d1 d2 : PyData) (z1 z2 : Prop)
  (B1 B2 : Addr → Prop), vs = [v1, v2] ∧ DV z1 B1 H v1 d1 ∧ DV z2 B2 H v2 d2 ∧ Gd 400 20 d1 ∧
  Gd 400 20 d2 ∧ ∀ H', Same H H' → Q (toV (cmpD d1 d2)) H'
theorem cmpD_no {x y : PyData} (h : ¬ (isFrac x = true ∧ isFrac y = true)) :
    cmpD x y = .str "refused" := if_neg h
theorem cmpD_yes {a b c d : Int} (h : isFrac (.tuple [.int a, .int b]) = true ∧
    isFrac (.tuple [.int c, .int d]) = true) :
    cmpD (.tuple [.int a, .int b]) (.tuple [.int c, .int d]) = .int (cmpI a b c d) := if_pos h
theorem sign_of {x y : Int} : (if x < y then (-1 : Int) else if y < x then 1 else 0)
    = if x - y = 0 then 0 else (x - y) / (if x - y < 0 then -(x - y) else x - y) := by
  rcases Int.lt_trichotomy x y with h | h | h
  · rw [if_pos h, if_neg (by omega), if_pos (by omega)]
    have e : x - y = (-(x - y)) * (-1) := by omega
    rw [show (x - y) / -(x - y) = ((-(x - y)) * (-1)) / -(x - y) by rw [← e]]
    rw [Int.mul_ediv_cancel_left _ (by omega)]
  · subst h
    rw [if_neg (Int.lt_irrefl x), if_neg (Int.lt_irrefl x), if_pos (by omega)]
  · rw [if_neg (by omega), if_pos h, if_neg (by omega), if_neg (by omega)]
    rw [Int.ediv_self (by omega)]
theorem cmpD_flat (x y : PyData) : (∃ i : Int, cmpD x y = .int i ∧ (i = -1 ∨ i = 0 ∨ i = 1)) ∨
    cmpD x y = .str "refused" := by
  unfold cmpD
  split
  · rename_i h
    obtain ⟨a, b, rfl, _⟩ := isFrac_two h.1
    obtain ⟨c, d, rfl, _⟩ := isFrac_two h.2
    refine .inl ⟨cmpI a b c d, rfl, ?_⟩
    unfold cmpI
    split
    · exact .inl rfl
    · split
      · exact .inr (.inr rfl)
      · exact .inr (.inl rfl)
  · exact .inr rfl
theorem cmpD_dv {z : Prop} {B : Addr → Prop} {H : Hp} (x y : PyData) :
    DV z B H (toV (cmpD x y)) (cmpD x y) := by
  rcases cmpD_flat x y with ⟨i, e, _⟩ | e
  · rw [e]; exact .int i
  · rw [e]; exact .str _
theorem cmpD_gd (x y : PyData) : Gd 1900 10 (cmpD x y) ∧ (cmpD x y).hasDict = false := by
  rcases cmpD_flat x y with ⟨i, e, h⟩ | e
  · rw [e]
    refine ⟨(Gd.int (W := 2) (D := 0) ?_).mono (by decide) (by decide), rfl⟩
    rcases h with rfl | rfl | rfl <;> decide
  · rw [e]
    exact ⟨gd_of (by decide +kernel), rfl⟩
/-- a value near a fraction -/
def sp_near : Sp := fun vs H Q _ => ∃ (S : Addr) (v : V) (d : PyData) (W D : Nat)
  (B : Addr → Prop), vs = [.ref S, v] ∧ Sup S H ∧ (∀ a, B a → Tr H a) ∧ B S ∧
  DV True B H v d ∧ d.canLay0 = true ∧ Gd W D d ∧ W ≤ 150 ∧ D ≤ 20 ∧
  ∀ (v' : V) (d' : PyData) (H' : Hp), Keep (At S) H H' → Sup S H' → DV True B H' v' d' →
    Gd (2 * W + 70) (D + 6) d' → Q v' H'
theorem pow_big {x : Int} {n : Nat} (h : x.natAbs < n) (hn : n < 2 ^ 60) : x.natAbs < 2 ^ 4000 :=
  Nat.lt_trans (Nat.lt_trans h hn) (Nat.pow_lt_pow_right (by decide) (by decide))
theorem frB_pos {t b : Int} (h : b ≠ 0) : 0 < frB t b := by
  have p := gcd_posR (t := t) h
  have l := gcd_leR (t := t) h
  unfold frB
  refine Int.ediv_pos_of_pos_of_dvd ?_ (by omega) ?_
  · split <;> omega
  · have d : ((Int.gcd t b : Nat) : Int) ∣ b := Int.gcd_dvd_right t b
    split
    · exact Int.dvd_neg.mpr d
    · exact d
end Wr

namespace Wr
open PySem PySem.Spec PyProof.Rows L2

/-! ## labels -/
/-- the number of labels known behind the row -/
def labK : Int → List Int → Int
  | k, [] => k
  | k, x :: xs => labK (max k (x + 1)) xs
def labI : Int → List Int → Bool
  | _, [] => true
  | k, x :: xs => decide (0 ≤ x) && decide (x ≤ k) && labI (max k (x + 1)) xs
def labG : Int → List PyData → Bool
  | _, [] => true
  | k, .int x :: ds => decide (0 ≤ x) && decide (x ≤ k) && labG (max k (x + 1)) ds
  | _, _ :: _ => false
def isLabD : PyData → Bool
  | .tuple ds => decide (1 ≤ ds.length ∧ ds.length ≤ 12) && labG 0 ds
  | _ => false
theorem labG_ints : ∀ (k : Int) (ns : List Int), labG k (ns.map PyData.int) = labI k ns
  | _, [] => rfl
  | k, x :: ns => by
    rw [List.map_cons]
    simp only [labG, labI, labG_ints]
theorem labG_w : ∀ (k : Int) (ds : List PyData), labG k ds = true → ds.all isW = true
  | _, [], _ => rfl
  | k, d :: ds, h => by
    cases d with
    | int x =>
      simp only [labG, Bool.and_eq_true] at h
      rw [List.all_cons, labG_w _ ds h.2]
      rfl
    | _ => simp only [labG] at h; cases h
theorem ints_of : ∀ {ds : List PyData}, ds.all isW = true → ∃ ns : List Int, ds = ns.map PyData.int
  | [], _ => ⟨[], rfl⟩
  | d :: ds, h => by
    rw [List.all_cons, Bool.and_eq_true] at h
    obtain ⟨ns, rfl⟩ := ints_of h.2
    obtain ⟨i, rfl⟩ := isW_int (d := d) (by rw [h.1]; exact fun z => nomatch z)
    exact ⟨i :: ns, rfl⟩
theorem DVs.intsI {z : Prop} {B : Addr → Prop} {H : Hp} : ∀ {xs : List V} {ns : List Int},
    DVs z B H xs (ns.map PyData.int) → xs = ns.map V.int
  | _, [], .nil => rfl
  | _, n :: ns, .cons h t => by
    obtain rfl := h.intI
    rw [DVs.intsI t]
    rfl
theorem labK_le : ∀ (k : Int) (ns : List Int), k ≤ labK k ns
  | k, [] => Int.le_refl k
  | k, x :: ns => by
    have := labK_le (max k (x + 1)) ns
    simp only [labK]
    omega
theorem labK_mem : ∀ (k : Int) (ns : List Int) (y : Int), y ∈ ns → y + 1 ≤ labK k ns
  | k, x :: ns, y, h => by
    simp only [labK]
    rcases List.mem_cons.mp h with rfl | h
    · have := labK_le (max k (y + 1)) ns
      omega
    · exact labK_mem _ ns y h
theorem labI_snoc : ∀ (k : Int) (ns : List Int) (x : Int), labI k ns = true → 0 ≤ x → x ≤ labK k ns →
    labI k (ns ++ [x]) = true
  | k, [], x, _, h0, h1 => by
    simp only [labK] at h1
    simp only [List.nil_append, labI, decide_eq_true h0, decide_eq_true h1, Bool.and_self]
  | k, y :: ns, x, h, h0, h1 => by
    simp only [labI, Bool.and_eq_true] at h
    simp only [labK] at h1
    rw [List.cons_append]
    simp only [labI, h.1.1, h.1.2, labI_snoc _ ns x h.2 h0 h1, Bool.and_self]
theorem labI_mem : ∀ (k : Int) (ns : List Int), labI k ns = true → ∀ y ∈ ns, 0 ≤ y ∧ y < k + ns.length
  | k, x :: ns, h, y, hy => by
    simp only [labI, Bool.and_eq_true, decide_eq_true_eq] at h
    rw [List.length_cons]
    rcases List.mem_cons.mp hy with rfl | hy
    · omega
    · have := labI_mem (max k (x + 1)) ns h.2 y hy
      omega
/-! the row written by first places -/
section
variable {α : Type} [DecidableEq α]
def plc (x : α) : List α → Nat
  | [] => 0
  | y :: ys => if y = x then 0 else plc x ys + 1
def sn (seen : List α) (x : α) : List α := if x ∈ seen then seen else seen ++ [x]
def canL : List α → List α → List Int
  | _, [] => []
  | seen, x :: xs => (plc x (sn seen x) : Int) :: canL (sn seen x) xs
theorem canL_snoc : ∀ (xs : List α) (seen : List α) (x : α),
    canL seen (xs ++ [x]) = canL seen xs ++ [(plc x (sn (xs.foldl sn seen) x) : Int)]
  | [], _, _ => rfl
  | y :: xs, seen, x => by
    rw [List.cons_append]
    simp only [canL, canL_snoc xs, List.foldl_cons, List.cons_append]
theorem canL_len : ∀ (xs seen : List α), (canL seen xs).length = xs.length
  | [], _ => rfl
  | y :: xs, seen => by simp only [canL, List.length_cons, canL_len xs]
theorem sn_len (seen : List α) (x : α) : (sn seen x).length ≤ seen.length + 1 := by
  unfold sn
  split
  · omega
  · rw [List.length_append]; exact Nat.le_refl _
theorem sns_len : ∀ (xs seen : List α), (xs.foldl sn seen).length ≤ seen.length + xs.length
  | [], _ => Nat.le_refl _
  | x :: xs, seen => by
    rw [List.foldl_cons, List.length_cons]
    have h1 := sns_len xs (sn seen x)
    have h2 := sn_len seen x
    omega
theorem sn_mem (seen : List α) (x : α) : x ∈ sn seen x := by
  unfold sn
  split
  · assumption
  · exact List.mem_append_right _ (List.mem_singleton.mpr rfl)
theorem plc_lt {x : α} : ∀ {l : List α}, x ∈ l → plc x l < l.length
  | y :: ys, h => by
    simp only [plc, List.length_cons]
    split
    · omega
    · rename_i n
      rcases List.mem_cons.mp h with rfl | h
      · exact absurd rfl n
      · have := plc_lt h; omega
theorem plc_at {x : α} : ∀ {l : List α}, x ∈ l → l[plc x l]? = some x
  | y :: ys, h => by
    simp only [plc]
    split
    · rename_i e; rw [e]; rfl
    · rename_i n
      rcases List.mem_cons.mp h with rfl | h
      · exact absurd rfl n
      · rw [List.getElem?_cons_succ]; exact plc_at h
theorem plc_no {x : α} : ∀ {l : List α} {m : Nat} {z : α}, m < plc x l → l[m]? = some z → z ≠ x
  | y :: ys, m, z, h, e => by
    simp only [plc] at h
    split at h
    · omega
    · rename_i n
      cases m with
      | zero => rw [List.getElem?_cons_zero] at e; cases e; exact n
      | succ m => rw [List.getElem?_cons_succ] at e; exact plc_no (by omega) e
theorem plc_end {x : α} : ∀ {l : List α}, x ∉ l → plc x (l ++ [x]) = l.length
  | [], _ => by simp only [List.nil_append, plc, if_true, List.length_nil]
  | y :: ys, h => by
    rw [List.cons_append]
    simp only [plc, List.length_cons]
    rw [if_neg (fun e => h (by rw [e]; exact List.mem_cons_self ..)),
      plc_end fun m => h (List.mem_cons_of_mem _ m)]
end
def rng (k : Nat) : List Int := (List.range k).map Int.ofNat
theorem mem_rng {k : Nat} {x : Int} : x ∈ rng k ↔ 0 ≤ x ∧ x < k := by
  unfold rng
  rw [List.mem_map]
  constructor
  · rintro ⟨n, hn, rfl⟩
    have := List.mem_range.mp hn
    exact ⟨Int.natCast_nonneg n, by show (n : Int) < k; omega⟩
  · rintro ⟨h0, h1⟩
    exact ⟨x.toNat, List.mem_range.mpr (by omega), by show ((x.toNat : Nat) : Int) = x; omega⟩
theorem rng_len (k : Nat) : (rng k).length = k := by unfold rng; rw [List.length_map, List.length_range]
theorem rng_succ (k : Nat) : rng (k + 1) = rng k ++ [(k : Int)] := by
  unfold rng; rw [List.range_succ, List.map_append]; rfl
theorem rng_at {k n : Nat} (h : n < k) : (rng k)[n]? = some (n : Int) := by
  unfold rng; rw [List.getElem?_map, List.getElem?_range h]; rfl
theorem plc_rng {k : Nat} {x : Int} (h0 : 0 ≤ x) (h1 : x < k) : (plc x (rng k) : Int) = x := by
  have m := mem_rng.mpr ⟨h0, h1⟩
  have e := plc_at m
  have l := plc_lt m
  rw [rng_len] at l
  rw [rng_at l] at e
  exact Option.some.inj e
/-- a row is written by first places exactly if it is labels -/
theorem can_lab : ∀ (ns : List Int) (k : Nat), canL (rng k) ns = ns ↔ labI k ns = true
  | [], _ => ⟨fun _ => rfl, fun _ => rfl⟩
  | x :: ns, k => by
    simp only [canL, labI, Bool.and_eq_true, decide_eq_true_eq, List.cons.injEq]
    by_cases h : 0 ≤ x ∧ x < k
    · have es : sn (rng k) x = rng k := if_pos (mem_rng.mpr h)
      rw [es, plc_rng h.1 h.2, can_lab ns k]
      have em : max (k : Int) (x + 1) = k := by omega
      rw [em]
      constructor
      · rintro ⟨_, q⟩; exact ⟨⟨h.1, by omega⟩, q⟩
      · rintro ⟨_, q⟩; exact ⟨rfl, q⟩
    · have nm : x ∉ rng k := fun m => h (mem_rng.mp m)
      have es : sn (rng k) x = rng k ++ [x] := if_neg nm
      rw [es, plc_end nm, rng_len]
      by_cases e : x = k
      · subst e
        rw [← rng_succ, can_lab ns (k + 1)]
        have em : max (k : Int) ((k : Int) + 1) = ((k + 1 : Nat) : Int) := by omega
        rw [em]
        constructor
        · rintro ⟨_, q⟩; exact ⟨⟨by omega, by omega⟩, q⟩
        · rintro ⟨_, q⟩; exact ⟨rfl, q⟩
      · constructor
        · rintro ⟨q, _⟩; exact absurd q.symm e
        · rintro ⟨⟨q0, q1⟩, _⟩; exact absurd ⟨q0, by omega⟩ h
theorem eqv_ints : ∀ ms ns : List Int,
    PyData.eqvAll (ms.map PyData.int) (ns.map PyData.int) = decide (ms = ns)
  | [], [] => by simp only [List.map_nil, PyData.eqvAll, decide_true]
  | [], n :: ns => by simp [PyData.eqvAll]
  | m :: ms, [] => by simp [PyData.eqvAll]
  | m :: ms, n :: ns => by
    rw [List.map_cons, List.map_cons]
    simp only [PyData.eqvAll, PyData.eqv, eqv_ints ms ns, List.cons.injEq]
    by_cases h : m = n
    · subst h; simp
    · simp [h]
theorem lay_ints : ∀ ns : List Int, PyData.canLayAll0 (ns.map PyData.int) = true
  | [] => rfl
  | n :: ns => by rw [List.map_cons]; simp only [PyData.canLayAll0, PyData.canLay0, lay_ints ns, Bool.and_self]
theorem depth_ints : ∀ ns : List Int, PyData.depthAll (ns.map PyData.int) = 0
  | [] => rfl
  | n :: ns => by rw [List.map_cons]; simp only [PyData.depthAll, PyData.depth, depth_ints ns, Nat.max_self]
theorem okSs_ints : ∀ ns : List Int, okSs (ns.map PyData.int) = true
  | [] => rfl
  | n :: ns => by rw [List.map_cons]; simp only [okSs, okS, okSs_ints ns, Bool.and_self]
theorem weight_ints {k : Nat} : ∀ ns : List Int, (∀ n ∈ ns, n.natAbs < 2 ^ k) →
    PyData.weightAll (ns.map PyData.int) ≤ ns.length * (k + 1)
  | [], _ => Nat.zero_le _
  | n :: ns, h => by
    have h1 := weight_ints ns fun m hm => h m (List.mem_cons_of_mem _ hm)
    have h2 := int_w_lt (h n (List.mem_cons_self ..))
    rw [List.map_cons, List.length_cons, Nat.succ_mul]
    simp only [PyData.weightAll]
    omega
theorem Gd.ints {k m : Nat} {ns : List Int} (h : ∀ n ∈ ns, n.natAbs < 2 ^ k) (hl : ns.length ≤ m) :
    Gd (m * (k + 1)) 1 (.tuple (ns.map PyData.int)) := by
  refine Gd.tup (D := 0) ⟨Nat.le_trans (weight_ints ns h) (Nat.mul_le_mul_right _ hl), ?_, okSs_ints ns⟩
  rw [depth_ints]
  exact Nat.le_refl _
theorem isLab_ints {ns : List Int} (h : 1 ≤ ns.length ∧ ns.length ≤ 12) :
    isLabD (.tuple (ns.map PyData.int)) = decide (canL [] ns = ns) := by
  show (decide (1 ≤ (ns.map PyData.int).length ∧ (ns.map PyData.int).length ≤ 12) &&
    labG 0 (ns.map PyData.int)) = _
  rw [List.length_map, decide_eq_true h, Bool.true_and, labG_ints]
  have := can_lab ns 0
  rw [show rng 0 = [] from rfl] at this
  by_cases q : canL [] ns = ns
  · rw [decide_eq_true q]; exact this.mp q
  · rw [decide_eq_false q]
    cases e : labI 0 ns with
    | false => rfl
    | true => exact absurd (this.mpr e) q
/-! ## promises -/
def sp_islab : Sp := fun vs H Q _ => ∃ (v : V) (d : PyData) (z : Prop) (B : Addr → Prop),
  vs = [v] ∧ DV z B H v d ∧ Q (.bl (isLabD d)) H
def sp_islabL : Sp := fun vs H Q _ => ∃ (v : V) (d : PyData) (z : Prop) (B : Addr → Prop),
  vs = [v] ∧ DV z B H v d ∧ ∀ H', Same H H' → Q (.bl (isLabD d)) H'
def sp_labels : Sp := fun vs H Q _ => ∃ (S : Addr) (n m : Int), vs = [.ref S, .int n, .int m] ∧
  Sup S H ∧ n ≤ 1000 ∧ 1 ≤ m ∧ m < 2 ^ 60 ∧
  ∀ (p : Addr) (ns : List Int) (H' : Hp), Keep (At S) H H' → Sup S H' → H p = none →
    H' p = some (.tup (ns.map V.int)) → labI 0 ns = true → ns.length = max 1 n.toNat →
    (∀ x ∈ ns, x < m ∨ x = 0) → Q (.ref p) H'
def sp_canT : Sp := fun vs H Q _ => ∃ (a : Addr) (ns : List Int), vs = [.ref a] ∧
  H a = some (.tup (ns.map V.int)) ∧ ns.length ≤ 1000 ∧
  ∀ (p : Addr) (H' : Hp), Same H H' → H p = none →
    H' p = some (.tup ((canL [] ns).map V.int)) → Q (.ref p) H'
theorem Keep.off {B : Addr → Prop} {H G : Hp} {F : Addr} {o : HO} (k : Keep B H G) (n : H F = none) :
    Keep B H (upd G F o) := fun a u nb e => by
  rw [upd_ne (ne_of_none e n)]
  exact k a u nb e
theorem Sup.off {S F : Addr} {G : Hp} {o : HO} (h : Sup S G) (n : F ≠ S) : Sup S (upd G F o) := by
  obtain ⟨a, b, c, e, r⟩ := h
  exact ⟨a, b, c, by rw [upd_ne (Ne.symm n)]; exact e, r⟩
theorem inV_ints {x : Int} : ∀ {l : List Int}, inV (.int x) (l.map V.int) = decide (x ∈ l)
  | [] => by simp [inV]
  | y :: l => by
    have ih := inV_ints (x := x) (l := l)
    unfold inV at ih ⊢
    rw [List.map_cons, List.any_cons, ih]
    show ((y == x) || decide (x ∈ l)) = decide (x ∈ y :: l)
    by_cases h : y = x
    · subst h; simp
    · have : (y == x) = false := beq_eq_false_iff_ne.mpr h
      rw [this, Bool.false_or]
      by_cases m : x ∈ l
      · rw [decide_eq_true m, decide_eq_true (List.mem_cons_of_mem _ m)]
      · rw [decide_eq_false m, decide_eq_false (fun z => (List.mem_cons.mp z).elim (fun e => h e.symm) m)]
theorem flat_ints (l : List Int) : (l.map V.int).all flatV = true := by
  rw [List.all_map, List.all_eq_true]
  intro x _
  rfl
theorem isLab_no {d : PyData} (h : ¬ isT d = true) : isLabD d = false := by
  cases d <;> first | rfl | exact absurd rfl h
theorem isLab_len {ds : List PyData} (h : ¬ (1 ≤ ds.length ∧ ds.length ≤ 12)) :
    isLabD (.tuple ds) = false := by
  show (decide _ && _) = false
  rw [decide_eq_false h]
  rfl
theorem isLab_yes {ds : List PyData} (h : 1 ≤ ds.length ∧ ds.length ≤ 12) :
    isLabD (.tuple ds) = labG 0 ds := by
  show (decide _ && _) = _
  rw [decide_eq_true h]
  rfl
theorem labG_no {d : PyData} {k : Int} {ds : List PyData} (h : isW d = false) : labG k (d :: ds) = false := by
  cases d <;> first | rfl | cases h
theorem _root_.L2.Same.off {H G : Hp} {F : Addr} {o : HO} (k : Same H G) (n : H F = none) :
    Same H (upd G F o) := fun a u e => by
  rw [upd_ne (ne_of_none e n)]
  exact k a u e
theorem DVs.ofInts {z : Prop} {B : Addr → Prop} {H : Hp} : ∀ ns : List Int,
    DVs z B H (ns.map V.int) (ns.map PyData.int)
  | [] => .nil
  | n :: ns => .cons (.int n) (DVs.ofInts ns)
theorem DV.ofInts {z : Prop} {B : Addr → Prop} {H : Hp} {a : Addr} {ns : List Int} (nb : ¬ B a)
    (e : H a = some (.tup (ns.map V.int))) : DV z B H (.ref a) (.tuple (ns.map PyData.int)) :=
  .tup nb e (DVs.ofInts ns)
theorem shaped_ints (ns : List Int) : SeqAt.shaped (.tuple (ns.map PyData.int)) = true :=
  shaped_of (lay_ints ns) (by simp only [PyData.depth, depth_ints]; decide)
theorem dp_ints {K : PySem.W.Frag} {H : Hp} {a : Addr} {ns : List Int}
    (e : H a = some (.tup (ns.map V.int))) : Dp K H (.ref a) (.tuple (ns.map PyData.int)) :=
  (DV.ofInts (z := False) (B := fun _ => False) (fun h => h) e).dp _ _ (lay_ints ns)
end Wr

/-! enumerate and max of a tuple -/
namespace PySem
open Sem (wp)
theorem wr_meets_enum {v : Value} {o : Obj} {H : Heap → Prop} (B : Begins v o H) :
    Meets (Builtin.«enumerate.__new__» ⟨[.type "enumerate", v], []⟩) (fun _ R s => H s.heap ∧
      R (.ok (.ret (.ref (s.heap.push o).objs.size)))
        { s with heap := (s.heap.push o).push { cls := .type "enumerate", data := .fields #[.none, .bool false, .ref s.heap.objs.size, rawInt 0, .none, .none] } }) :=
  .of_wp fun prog w A R s h => by
    obtain ⟨hp, g, d, tk, os⟩ := s; obtain ⟨h1, h⟩ := h
    have hsub := sub_enumerate
    have q1 : ∀ {A' : Around} {E : Value → Shared → Prop} {Q : Value → Shared → Prop},
        Q (.ref hp.objs.size) ⟨hp.push o, g, d, tk, os⟩ → wpAny (model prog w) A' (pyIter v) Q E ⟨hp, g, d, tk, os⟩ :=
      fun q => B.iter prog w _ _ ⟨hp, g, d, tk, os⟩ _ h1 q
    wp_walk using q1
    refine wpAny_stack_any fun st => wpAny_pure ?_
    split
    · rename_i c _ _ _ _ _
      cases (c == Value.type "enumerate")
      · wp_walk using q1
        exact ⟨_, rfl, h⟩
      · wp_walk using q1
        exact ⟨_, rfl, h⟩
    · wp_walk using q1
      exact ⟨_, rfl, h⟩
section
variable {prog : Program} {w : World} {A : Around} {E : Value → Shared → Prop} {s : Shared}
theorem wr_call_enum {v : Value} {o : Obj} {H : Heap → Prop} {Q : Value → Shared → Prop}
    (B : Begins v o H) (h1 : H s.heap)
    (h : ∀ h', IsEnum h' (s.heap.objs.size + 1) s.heap.objs.size 0 .none → h'.get? s.heap.objs.size = some o →
      h'.objs.size = s.heap.objs.size + 2 →
      (∀ b o, s.heap.get? b = some o → h'.get? b = some o) → Q (.ref (s.heap.objs.size + 1)) { s with heap := h' }) :
    wpAny (model prog w) A (call (.type "enumerate") [v]) Q E s := by
  refine callType_new F.called_enumerate (by decide) (F.typeCall_enumerate_1 _) (F.newCall_enumerate_1 _)
    (fun obj => F.args_object_init_2 obj _) F.entry_enumerate_new (wr_meets_enum B) ⟨h1, ?_⟩
  have hz : (s.heap.push o).objs.size = s.heap.objs.size + 1 := Heap.size_push ..
  show _ ∧ _
  rw [hz]
  have he : IsEnum ((s.heap.push o).push { cls := .type "enumerate", data := .fields #[.none, .bool false, .ref s.heap.objs.size, rawInt 0, .none, .none] }) (s.heap.objs.size + 1) s.heap.objs.size 0 .none := by
    have := Heap.get?_push_size (s.heap.push o) (o := { cls := .type "enumerate", data := .fields #[.none, .bool false, .ref s.heap.objs.size, rawInt 0, .none, .none] }) rfl
    rw [hz] at this; exact this
  exact ⟨⟨_, he, rfl⟩, h _ he (Heap.get?_push_of_some _ (Heap.get?_push_size _ B.free)) (by rw [Heap.size_push, hz])
    fun b o x => Heap.get?_push_of_some _ (Heap.get?_push_of_some _ x)⟩
theorem wr_enum_end {e it l : Addr} {c : Int} {i : Nat} {items : Array Value} {old : Value} {Q : Option Value → Shared → Prop}
    (hh : A.handled = none) (he : IsEnum s.heap e it c old) (hit : s.heap.IsTupleIter it l i) (hl : s.heap.IsTuple l items)
    (hx : items[i]? = none)
    (hQ : ∀ h', Heap.ExtBut it s.heap h' → Q none { s with heap := h' }) : wpAny (model prog w) A (pyNext (.ref e)) Q E s := by
  have hT : s.TypeIs (.ref e) "enumerate" := ⟨_, he, rfl⟩
  unfold pyNext
  refine wpAny_bind (wpAny_attempt (wpAny_callSpecial?_slot (name := Str.ofString "__next__") hT F.slot_enumerate_next
    (wpAny_call_entry F.slot_enumerate_next hT F.entry_enumerate_next ?_ (F.args_enumerate_next_1 _))))
  show wpAny _ _ (field (.ref e) 2 >>= _) _ _ _
  refine wpAny_bind (wpAny_field he rfl (x := .ref it) rfl ?_)
  refine wpAny_bind (wpAny_nextOf_tuple_end hh hit hl hx fun h' x he' hx' => ?_)
  obtain ⟨o, ho, hc⟩ := hx'
  refine wpAny_bind (wpAny_isInstance (T := "StopIteration") (b := true) ⟨o, ho, hc⟩ isSubtype_stop ?_)
  exact wpAny_pure (hQ _ he')
theorem wr_max_tup {xs : Array (Int × Tok)} {l : Addr} {Q : Value → Shared → Prop} (hh : A.handled = none)
    (hl : s.heap.IsTuple l (intItems xs)) (hne : 0 < xs.size)
    (h : ∀ v h' tk, (intItems xs)[argBest (fun i j => decide (numAt xs i > numAt xs j)) (xs.size - 1)]? = some v →
      (∀ b o, s.heap.get? b = some o → h'.get? b = some o) → Q v { s with heap := h', toks := tk }) :
    wpAny (model prog w) A (call (.builtin "max") [.ref l]) Q E s := by
  have hlt : l < s.heap.objs.size := by obtain ⟨_, e, _⟩ := hl; exact Heap.lt_size e
  refine call_max_walk (wpAny_pyIter_tuple hl ?_)
  refine ⟨_, _, _, _, _, _, _, rfl, Walks.tuple (A := A.in1) hh _ l (Nat.ne_of_lt hlt) (intItems xs),
    ⟨⟨_, Heap.get?_push_size _ rfl, rfl, rfl⟩, hl.push _⟩, fun b hb => ?_, by simpa [intItems] using hne,
    CmpOf.ints_gt (numAt xs) (fun _ _ => intItems_at), fun v h' tk hP hk => ?_⟩
  · show b < (s.heap.push _).objs.size
    rw [Heap.size_push]
    rcases List.mem_cons.mp hb with rfl | hb
    · exact Nat.lt_succ_self _
    · rcases List.mem_cons.mp hb with rfl | hb
      · exact Nat.lt_succ_of_lt hlt
      · cases hb
  · refine h v h' tk (by simpa [intItems] using hP) fun b o e => ?_
    refine hk b o (fun hm => ?_) (Heap.get?_push_of_some _ e)
    rcases List.mem_cons.mp hm with e1 | hm
    · exact absurd (e1 ▸ Heap.lt_size e) (Nat.lt_irrefl _)
    · cases hm
end
end PySem
namespace Wr
open PySem PySem.Spec PyProof.Rows L2
section
variable {prog : Program} {w : World} {A : Around} {E : Value → Shared → Prop} {s : Shared} {l : Addr} {its : List Value} {ns : List Int} {Q : Value → Shared → Prop}
theorem max_rawT (hh : A.handled = none) (hl : s.heap.IsTuple l its.toArray) (hi : IntsAre its ns) (hne : 0 < ns.length)
    (h : ∀ h' tk M t', (∀ b o, s.heap.get? b = some o → h'.get? b = some o) → M ∈ ns → (∀ a, a ∈ ns → a ≤ M) →
      Q (.int M t') { s with heap := h', toks := tk }) : wpAny (model prog w) A (call (.builtin "max") [.ref l]) Q E s := by
  obtain ⟨xs, e⟩ := hi.allInts.items
  have hn : numsOf (intItems xs).toList = ns := by rw [← e]; exact hi.numsOf
  rw [nums_intItems] at hn
  subst hn
  rw [e] at hl
  have hsz : 0 < xs.size := by simpa using hne
  refine PySem.wr_max_tup hh hl hsz fun v h' tk hv hk => ?_
  obtain ⟨t, rfl⟩ := intItems_at hv
  obtain ⟨h1, h2⟩ := argBest_gt (numAt xs) (xs.size - 1)
  refine h h' tk _ t hk ?_ fun a ha => ?_
  · rw [numAt_eq]; exact PySem.getD_mem (by rw [List.length_map, Array.length_toList]; omega)
  · obtain ⟨j, hj, rfl⟩ := mem_getD ha
    rw [List.length_map, Array.length_toList] at hj
    rw [← numAt_eq]; exact h2 j (by omega)
end
section
variable {X : Cx}
def rMaxT (K : PySem.W.Frag) : List V → Hp → VK → Prop := fun vs H Q => ∃ (a : Addr) (ns : List Int),
  vs = [V.ref a] ∧ SqT K H a (ns.map V.int) ∧ 0 < ns.length ∧
  ∀ m, m ∈ ns → (∀ y, y ∈ ns → y ≤ m) → Q (.int m) H
theorem cr_maxT (hc : X.calm = true) : CallR X (.builtin "max") (rMaxT X.K) := by
  intro pins s σ H vs us Q I r h
  obtain ⟨a, ns, rfl, hs, hne, q⟩ := h
  obtain ⟨its, rv, hl, _⟩ := I.tuple hs
  rw [Vals.ref1 r]
  exact max_rawT (I.ok.hd hc) (show s.heap.IsTuple a its.toArray from hl) rv.ints hne fun h' tk m t' hk h1 h2 =>
    ⟨.int _, H, I.kept hk, ⟨_, rfl⟩, q m h1 h2⟩
end
/-- the tuple at a, each item in a new pair -/
def IteT (K : PySem.W.Frag) (a : Addr) : It :=
  ⟨fun i H => ∃ (xs : List V) (x : V), SqT K H a xs ∧ xs[i]? = some x,
   fun i H v H' => ∃ T x, v = .ref T ∧ H T = none ∧ H' = upd H T (.tup [.int (i : Nat), x]) ∧
     ∀ xs, SqT K H a xs → xs[i]? = some x,
   fun i H => ∃ xs : List V, SqT K H a xs ∧ xs.length ≤ i⟩
theorem tup_ne {h : Heap} {a it : Addr} {items : Array Value} {t : Addr} {i : Nat} (x : h.IsTuple a items)
    (y : h.IsTupleIter it t i) : a ≠ it := fun e => by
  subst e
  obtain ⟨o, ho, hc, _⟩ := x
  obtain ⟨o', ho', hc', _⟩ := y
  rw [ho] at ho'
  cases ho'
  exact absurd (Value.type.inj (hc.symm.trans hc')) (by decide)
theorem tup_ne' {h : Heap} {a e it : Addr} {items : Array Value} {c : Int} {old : Value} (x : h.IsTuple a items)
    (y : IsEnum h e it c old) : e ≠ a := fun z => by
  subst z
  obtain ⟨o, ho, hc, _⟩ := x
  have y' : h.get? e = some _ := y
  rw [ho] at y'
  rw [Option.some.inj y'] at hc
  exact absurd (Value.type.inj hc) (by decide)
theorem turn_enumT {P : Program} {w : World} {K : PySem.W.Frag} {elts : List Expr} {kk : Nat} {tpos : Pos}
    (a e it : Addr) :
    Turn P w K (.Tuple elts kk tpos) (IteT K a) [e, it] e (fun i h => (∃ old, IsEnum h e it ((i : Nat) : Int) old) ∧
      h.IsTupleIter it a i ∧ e ≠ it) where
  mem := by simp
  obj := fun i h st b hb => by
    obtain ⟨⟨old, he⟩, ⟨o, ho, hc, hd⟩, _⟩ := st
    have e' : b = e ∨ b = it := by simpa using hb
    rcases e' with z | z
    · rw [z]; exact ⟨_, he, fun v q => nomatch q⟩
    · rw [z]; exact ⟨o, ho, fun v q => by rw [hd] at q; cases q⟩
  keep := fun i h h' st k => let ⟨⟨old, he⟩, hi, hne⟩ := st; ⟨⟨old, k e (by simp) _ he⟩, hi.at fun o q => k it (by simp) o q, hne⟩
  item := by
    intro X hP hw hK hc i pins s σ H E I hf st hg
    subst hP hw hK
    obtain ⟨⟨old, he⟩, hit, hne⟩ := st
    obtain ⟨xs, x, hq, hx⟩ := hg
    obtain ⟨its, rv, p, hz⟩ := I.tuple hq
    obtain ⟨u, hu, ru⟩ := rv.get hx
    have p' : s.heap.IsTuple a its.toArray := p
    have n1 := tup_ne p' hit
    have n2 := tup_ne' p' he
    have hel : e < s.heap.objs.size := Heap.lt_size he
    have hil : it < s.heap.objs.size := by obtain ⟨_, q, _⟩ := hit; exact Heap.lt_size q
    have hlt : i < its.toArray.size := by
      have := (List.getElem?_eq_some_iff.mp hu).1
      simpa using this
    refine wpAny_pyNext_enum_itemC (Draws.tuple (A := X.A.in1) (I.ok.hd hc) it a n1 its.toArray) he ⟨hit, p'⟩ hlt hne
      (by simp [hne, n2]) fun u' h' tk hu' ho hst' hT hsz hk => ?_
    have eu : u' = u := by
      have : its.toArray[i]? = some u := by simpa using hu
      rw [this] at hu'
      exact (Option.some.inj hu').symm
    subst eu
    have hit' := hst'.1
    refine ⟨_, rfl, wpAny_letOwnedTupleGo_enum (s := { s with heap := h', toks := tk + 1 }) ho fun h'' he' sb => ?_⟩
    have hT2 : h''.get? s.heap.objs.size = some { cls := .type "tuple", data := .seq #[.int i tk, u'] } := (sb.2 _ (Nat.ne_of_gt hel)).trans hT
    have new : ObjOk X.prog X.w (upd H s.heap.objs.size (.tup [.int (i : Nat), x])) h'' s.heap.objs.size (.tup [.int (i : Nat), x]) :=
      ⟨by show 2 ≤ sizeLine; decide, [.int i tk, u'], .cons ⟨_, rfl⟩ (.cons ru .nil), ⟨_, hT2, rfl, _, rfl⟩⟩
    have I1 : Inv X pins σ (upd H s.heap.objs.size (.tup [.int (i : Nat), x])) { s with heap := h'', toks := tk + 1 } :=
      I.turnedNew (ch := [e, it]) (fun b ob hb q => (sb.2 b (fun z => hb (by simp [z]))).trans (hk b ob (fun z => hb (by simp [z])) (fun z => hb (by simp [z])) q)) hf (Nat.le_refl _) new
    refine ⟨.ref s.heap.objs.size, _, I1, rfl, ⟨_, x, rfl, I.hok.fresh (Nat.le_refl _), rfl, fun ys hy => ?_⟩, ⟨⟨u', ?_⟩, hit'.at fun o q => (sb.2 it (Ne.symm hne)).trans q, hne⟩, fun b hb => ?_⟩
    · rw [I.tuple_inj hy hq]; exact hx
    · have e1 : ((i + 1 : Nat) : Int) = (i : Int) + 1 := by omega
      rw [e1]; exact he'
    · have hb' : b < s.heap.objs.size := by
        have e' : b = e ∨ b = it := by simpa using hb
        rcases e' with z | z
        · rw [z]; exact hel
        · rw [z]; exact hil
      rw [upd_ne (Nat.ne_of_lt hb')]
      exact (hf b hb).1
  done := by
    intro X hP hw hK hc i pins s σ H E I hf st hg
    subst hP hw hK
    obtain ⟨⟨old, he⟩, hit, hne⟩ := st
    obtain ⟨xs, hq, hx⟩ := hg
    obtain ⟨its, rv, p, hz⟩ := I.tuple hq
    obtain ⟨f0, f1, f2, f3, f4, f5⟩ := hf it (by simp)
    have hl := rv.length
    have p' : s.heap.IsTuple a its.toArray := p
    exact PySem.wr_enum_end (I.ok.hd hc) he hit p' (by simp; omega) fun h' eb => ⟨rfl, I.turned (t' := s.toks) (fun b o hb q => eb b o hb q) f0 f1 f3 f4 f5⟩
  self := fun A i s Q E st h => let ⟨⟨_, he⟩, _⟩ := st; wpAny_pyIter_enum he h
def iEnumT (K : PySem.W.Frag) (ta : TA) : TI := fun σ H R => ta σ H fun vs H1 =>
  ∃ a xs, vs = [.ref a] ∧ SqT K H1 a xs ∧ R (IteT K a) H1
theorem pi_enumT {X : Cx} {e : Expr} {ta : TA} {p pos tpos : Pos} {elts : List Expr} {kk : Nat} (hg : Gl X "enumerate")
    (hm : X.mg "enumerate" = none) (ha : PA X [e] ta) (hs : starEach [e] X.env = [(false, eval e X.env)] := by rfl) :
    PI X (.Tuple elts kk tpos) (.Call (.Name "enumerate" p) [e] [] pos) (iEnumT X.K ta) := by
  refine ⟨fun pins s σ H R I h => ?_⟩
  refine Call_ (ld_blt I hg hm boot_enumerate (PyProof.Rows.callWith_type1 (thn (ha.run pos pins s σ H _ I h) fun us s1 ⟨vs, H1, I1, r1, q1⟩ => ?_) hs rfl))
  obtain ⟨a, xs, ex, hq, q⟩ := q1
  subst ex
  cases r1 with
  | cons r rr =>
    cases rr
    cases r
    obtain ⟨its, rv, p', hz⟩ := I1.tuple hq
    have p2 : s1.heap.IsTuple a its.toArray := p'
    refine PySem.wr_call_enum (begins_tuple a its.toArray) p2 fun h' he ho hsz hk => wpAny_pyIter_enum he ?_
    have hit : h'.IsTupleIter s1.heap.objs.size a 0 := ⟨_, ho, rfl, rfl⟩
    have I2 : Inv X pins σ H1 { s1 with heap := h' } := I1.kept (t' := s1.toks) hk
    refine ⟨s1.heap.objs.size + 1, [s1.heap.objs.size + 1, s1.heap.objs.size], _, _, H1, rfl, I2, turn_enumT a (s1.heap.objs.size + 1) s1.heap.objs.size, ⟨⟨.none, he⟩, hit, Nat.succ_ne_self _⟩, fun b hb => ?_, q⟩
    have e' : b = s1.heap.objs.size + 1 ∨ b = s1.heap.objs.size := by simpa using hb
    have hle : s1.heap.objs.size ≤ b := by
      rcases e' with z | z
      · rw [z]; exact Nat.le_add_right _ _
      · rw [z]; exact Nat.le_refl _
    exact I1.fpOk hle (I1.hok.fresh hle)
theorem for_enumT {K : PySem.W.Frag} {a : Addr} {xs : List V} {g : TG} {tb : TS} {D : Ends} {σ : L2.St} {H : Hp}
    (Pv : Nat → L2.St → Hp → Prop) (h0 : Pv 0 σ H) (hl : ∀ i σ H, i ≤ xs.length → Pv i σ H → SqT K H a xs)
    (hs : ∀ i x σ H T, xs[i]? = some x → Pv i σ H → H T = none →
      g (.ref T) σ (upd H T (.tup [.int (i : Nat), x])) fun σ2 H2 => tb { D with nx := Pv (i + 1), ct := Pv (i + 1), bk := D.nx } σ2 H2)
    (hd : ∀ σ H, Pv xs.length σ H → D.nx σ H) :
    ∃ W : Nat → Nat → L2.St → Hp → Prop, (∃ m, W 0 m σ H) ∧ ∀ i m σ H, W i m σ H →
      ((IteT K a).stop i H ∧ D.nx σ H) ∨ ((IteT K a).go i H ∧ ∃ N : L2.St → Hp → Prop, (∀ σ' H', N σ' H' → ∃ m', m' < m ∧ W (i + 1) m' σ' H') ∧
        ∀ x H', (IteT K a).yld i H x H' → g x σ H' fun σ2 H2 => tb { D with nx := N, ct := N, bk := D.nx } σ2 H2) := by
  refine ⟨fun i m σ H => m = xs.length - i ∧ i ≤ xs.length ∧ Pv i σ H, ⟨xs.length, by simp, Nat.zero_le _, h0⟩, ?_⟩
  rintro i m σ H ⟨rfl, hi, p⟩
  have q := hl i σ H hi p
  by_cases hlt : i < xs.length
  · refine .inr ⟨⟨xs, xs[i], q, by simp [hlt]⟩, Pv (i + 1), fun σ' H' p' => ⟨xs.length - (i + 1), by omega, rfl, hlt, p'⟩, fun x H' y => ?_⟩
    obtain ⟨T, z, rfl, nT, rfl, hz⟩ := y
    exact hs i z σ H T (hz xs q) p nT
  · exact .inl ⟨⟨xs, q, by omega⟩, hd σ H (by rw [show xs.length = i by omega]; exact p)⟩
end Wr

namespace Wr
open PySem PySem.Spec PyProof.Rows L2

/-! ## parts of labels -/
def partL (ns : List Int) (i : Nat) (k : Int) : List Int :=
  ((List.range i).filter fun m => decide (ns[m]? = some k)).map Int.ofNat
theorem partL_succ {ns : List Int} {i : Nat} {x k : Int} (h : ns[i]? = some x) :
    partL ns (i + 1) k = if x = k then partL ns i k ++ [(i : Int)] else partL ns i k := by
  unfold partL
  rw [List.range_succ, List.filter_append, List.map_append]
  by_cases e : x = k
  · rw [if_pos e, show (List.filter (fun m => decide (ns[m]? = some k)) [i]) = [i] from by
      rw [List.filter_cons, h, e]; simp]
    rfl
  · rw [if_neg e, show (List.filter (fun m => decide (ns[m]? = some k)) [i]) = [] from by
      rw [List.filter_cons, h]; simp [e]]
    simp
theorem partL_len (ns : List Int) (i : Nat) (k : Int) : (partL ns i k).length ≤ i := by
  unfold partL
  rw [List.length_map]
  exact Nat.le_trans (List.length_filter_le _ _) (by rw [List.length_range]; exact Nat.le_refl _)
theorem partL_mem {ns : List Int} {i : Nat} {k y : Int} (h : y ∈ partL ns i k) : 0 ≤ y ∧ y < i := by
  unfold partL at h
  obtain ⟨m, hm, rfl⟩ := List.mem_map.mp h
  have := List.mem_range.mp (List.mem_filter.mp hm).1
  exact ⟨Int.natCast_nonneg m, by show (m : Int) < i; omega⟩
theorem labK_from : ∀ (k : Int) (ns : List Int), labK k ns = k ∨ ∃ y ∈ ns, labK k ns = y + 1
  | _, [] => .inl rfl
  | k, x :: ns => by
    simp only [labK]
    rcases labK_from (max k (x + 1)) ns with e | ⟨y, m, e⟩
    · rw [e]
      by_cases h : x + 1 ≤ k
      · exact .inl (by omega)
      · exact .inr ⟨x, List.mem_cons_self .., by omega⟩
    · exact .inr ⟨y, List.mem_cons_of_mem _ m, e⟩
theorem labK_max {ns : List Int} {m : Int} (h : labI 0 ns = true) (hm : m ∈ ns) (hle : ∀ y, y ∈ ns → y ≤ m) :
    m + 1 = labK 0 ns := by
  have h1 := labK_mem 0 ns m hm
  have h0 := (labI_mem 0 ns h m hm).1
  rcases labK_from 0 ns with e | ⟨y, hy, e⟩
  · omega
  · have := hle y hy
    omega
theorem labK_small {ns : List Int} (h : labI 0 ns = true) : labK 0 ns ≤ ns.length := by
  rcases labK_from 0 ns with e | ⟨y, hy, e⟩
  · omega
  · have := (labI_mem 0 ns h y hy).2
    omega
def partsD (ns : List Int) : PyData :=
  .tuple ((List.range (labK 0 ns).toNat).map fun (k : Nat) => PyData.tuple ((partL ns ns.length (k : Int)).map PyData.int))
def numsD : PyData → List Int
  | .tuple ds => ds.map fun d => match d with | .int i => i | _ => 0
  | _ => []
theorem numsD_ints (ns : List Int) : numsD (.tuple (ns.map PyData.int)) = ns := by
  show (ns.map PyData.int).map _ = ns
  rw [List.map_map]
  exact (List.map_congr_left (fun x _ => rfl)).trans (List.map_id ns)
def partsX (d : PyData) : PyData := if isLabD d = true then partsD (numsD d) else .str "refused"
theorem partsX_yes {ns : List Int} (h : isLabD (.tuple (ns.map PyData.int)) = true) :
    partsX (.tuple (ns.map PyData.int)) = partsD ns := by
  unfold partsX
  rw [if_pos h, numsD_ints]
theorem partsX_no {d : PyData} (h : isLabD d = false) : partsX d = .str "refused" := by
  unfold partsX
  rw [h]
  rfl
/-- labels are a row of numbers -/
theorem isLab_form {d : PyData} (h : isLabD d = true) : ∃ ns : List Int, d = .tuple (ns.map PyData.int) ∧
    1 ≤ ns.length ∧ ns.length ≤ 12 ∧ labI 0 ns = true := by
  cases d with
  | tuple ds =>
    have h' : (decide (1 ≤ ds.length ∧ ds.length ≤ 12) && labG 0 ds) = true := h
    rw [Bool.and_eq_true, decide_eq_true_eq] at h'
    obtain ⟨ns, rfl⟩ := ints_of (labG_w 0 ds h'.2)
    rw [List.length_map, labG_ints] at h'
    exact ⟨ns, rfl, h'.1.1, h'.1.2, h'.2⟩
  | _ => cases h
theorem hasDict_ints : ∀ ns : List Int, PyData.hasDictAll (ns.map PyData.int) = false
  | [] => rfl
  | n :: ns => by rw [List.map_cons]; simp only [PyData.hasDictAll, PyData.hasDict, hasDict_ints ns, Bool.or_self]
theorem hasDict_all {α : Type} (f : α → PyData) : ∀ l : List α, (∀ x ∈ l, (f x).hasDict = false) → PyData.hasDictAll (l.map f) = false
  | [], _ => rfl
  | x :: l, h => by
    rw [List.map_cons]
    simp only [PyData.hasDictAll, h x (List.mem_cons_self ..), hasDict_all f l fun y m => h y (List.mem_cons_of_mem _ m), Bool.or_self]
theorem partsD_flat (ns : List Int) : (partsD ns).hasDict = false :=
  hasDict_all _ _ fun k _ => hasDict_ints _
theorem partsX_flat (d : PyData) : (partsX d).hasDict = false := by
  unfold partsX
  split
  · exact partsD_flat _
  · rfl
theorem Gs.map {α : Type} {W D : Nat} {f : α → PyData} : ∀ {l : List α}, (∀ x ∈ l, Gd W D (f x)) → Gs (l.length * (W + 1)) D (l.map f)
  | [], _ => Gs.nil
  | x :: l, h => by
    have h1 := Gs.one (h x (List.mem_cons_self ..))
    have h2 := Gs.map (l := l) fun y m => h y (List.mem_cons_of_mem _ m)
    refine (h1.app h2).mono ?_ (Nat.le_refl _)
    rw [List.length_cons, Nat.succ_mul]
    omega
theorem partsD_gd {ns : List Int} (h : labI 0 ns = true) (hl : ns.length ≤ 12) : Gd 800 2 (partsD ns) := by
  have hk := labK_small h
  have g : Gs ((List.range (labK 0 ns).toNat).length * (60 + 1)) 1
      ((List.range (labK 0 ns).toNat).map fun (k : Nat) => PyData.tuple ((partL ns ns.length (k : Int)).map PyData.int)) := by
    refine Gs.map fun k _ => ?_
    have l := partL_len ns ns.length (k : Int)
    exact Gd.ints (k := 4) (m := 12) (fun y hy => by have := partL_mem hy; omega) (by omega)
  refine (Gd.tup g).mono ?_ (Nat.le_refl _)
  rw [List.length_range]
  have : (labK 0 ns).toNat ≤ 12 := by omega
  exact Nat.le_trans (Nat.mul_le_mul_right _ this) (by decide)
theorem partsX_gd (d : PyData) : Gd 800 2 (partsX d) := by
  by_cases h : isLabD d = true
  · obtain ⟨ns, rfl, h1, h2, h3⟩ := isLab_form h
    rw [partsX_yes h]
    exact partsD_gd h3 h2
  · rw [partsX_no (by simpa using h)]
    exact gd_of (by decide +kernel)

/-! ## rows made anew -/
theorem growF {G H2 H3 : Hp} {D : Addr} {acc : List V} {ds : List PyData} {y : V} {d : PyData} (nD : G D = none)
    (s2 : Same G H2) (e2 : H2 D = some (.lst acc)) (h2 : DVs False (fun a => Tr G a ∨ a = D) H2 acc ds) (s3 : Same H2 H3)
    (h3 : DV False (Tr H2) H3 y d) :
    Same G (upd H3 D (.lst (acc ++ [y]))) ∧ (upd H3 D (.lst (acc ++ [y]))) D = some (.lst (acc ++ [y])) ∧
      DVs False (fun a => Tr G a ∨ a = D) (upd H3 D (.lst (acc ++ [y]))) (acc ++ [y]) (ds ++ [d]) := by
  have k : Keep (fun a => Tr G a ∨ a = D) H3 (upd H3 D (.lst (acc ++ [y]))) := Keep.at (.inr rfl)
  refine ⟨(s2.trans s3).off nD, upd_same, ?_⟩
  have a1 := (h2.keep (Keep.same s3)).keep k
  have a2 : DV False (fun a => Tr G a ∨ a = D) H3 y d := h3.less (fun z => z) fun a _ _ n m => n (by
    rcases m with m | m
    · exact s2.tr a m
    · rw [m, Tr, e2]; exact fun z => nomatch z)
  exact a1.app (.cons (a2.keep k) .nil)
section
variable {G : Hp} {D : Addr} {σ : L2.St} {vs : List Nat} {k : Nat} {te : TE} {Qd : Hp → Prop}
theorem lc_rangeF {lo : Int} {n : Nat} (f : Nat → PyData) (nD : G D = none) (hn : n ≤ 1000)
    (hw : ∀ x, wipe ((wipe σ vs).set k (some x)) vs = wipe σ vs)
    (hel : ∀ (i : Nat) (H2 : Hp) (Q : VK), i < n → Same G H2 → Tr H2 D →
      (∀ y H3, Same H2 H3 → DV False (Tr H2) H3 y (f i) → Q y H3) →
      te ((wipe σ vs).set k (some (.int (lo + i)))) H2 Q)
    (hd : ∀ H' acc, Same G H' → H' D = some (.lst acc) →
      DVs False (fun a => Tr G a ∨ a = D) H' acc ((List.range n).map f) → Qd H') :
    ∃ W : Nat → Nat → Hp → Prop, (∃ m, W 0 m (upd G D (.lst []))) ∧ ∀ i m H, W i m H →
      ((Itr lo n).stop i H ∧ Qd H) ∨ ((Itr lo n).go i H ∧ ∃ Nx : Hp → Prop,
        (∀ H', Nx H' → ∃ m', m' < m ∧ W (i + 1) m' H') ∧ ∀ x H', (Itr lo n).yld i H x H' →
        gName k x (wipe σ vs) H' fun σ2 H2 => wipe σ2 vs = wipe σ vs ∧ tYes σ2 H2 fun b H3 =>
          if b = true then te σ2 H3 fun y H4 => ∃ acc, H4 D = some (.lst acc) ∧ acc.length < sizeLine ∧
            Nx (upd H4 D (.lst (acc ++ [y]))) else Nx H3) := by
  refine lc_range (fun i H => ∃ acc, Same G H ∧ H D = some (.lst acc) ∧
    DVs False (fun a => Tr G a ∨ a = D) H acc ((List.range i).map f)) ⟨[], (Same.refl G).off nD, upd_same, .nil⟩
    (fun i H2 hi h => ?_) (fun H2 h => ?_)
  · obtain ⟨acc, s2, e2, h2⟩ := h
    have la := h2.length
    rw [List.length_map, List.length_range] at la
    refine ⟨hw _, hel i H2 _ hi s2 (by rw [Tr, e2]; exact fun z => nomatch z) fun y H3 s3 h3 => ?_⟩
    refine ⟨acc, s3 _ _ e2, small1000 (by omega), acc ++ [y], ?_⟩
    have g := growF nD s2 e2 h2 s3 h3
    refine ⟨g.1, g.2.1, ?_⟩
    rw [List.range_succ, List.map_append]
    exact g.2.2
  · obtain ⟨acc, s2, e2, h2⟩ := h
    exact hd H2 acc s2 e2 h2
end

/-! ## promises -/
def sp_checkL (C : Addr) : Sp := fun vs H Q E => ∃ (v : V) (d : PyData) (z : Prop) (B : Addr → Prop),
  vs = [v] ∧ DV z B H v d ∧ (isLabD d = false → E (.ref C) none H) ∧ (isLabD d = true → Q .non H)
def sp_parts (C : Addr) : Sp := fun vs H Q E => ∃ (v : V) (d : PyData) (z : Prop) (B : Addr → Prop),
  vs = [v] ∧ DV z B H v d ∧ (isLabD d = false → E (.ref C) none H) ∧
  (isLabD d = true → ∀ v' H', Same H H' → DV False (Tr H) H' v' (partsX d) → Q v' H')
def sp_partsX : Sp := fun vs H Q _ => ∃ (v : V) (d : PyData) (z : Prop) (B : Addr → Prop),
  vs = [v] ∧ DV z B H v d ∧ ∀ v' H', Same H H' → DV False (Tr H) H' v' (partsX d) → Q v' H'
def sp_partsL : Sp := fun vs H Q _ => ∃ (v : V) (d : PyData) (z : Prop) (B : Addr → Prop),
  vs = [v] ∧ DV z B H v d ∧ isLabD d = true ∧
  ∀ v' H', Same H H' → DV False (Tr H) H' v' (partsX d) → Q v' H'
section
variable {X : Cx} {K : PySem.W.Frag}
def rTupK (K : PySem.W.Frag) : List V → Hp → VK → Prop := fun xs H Q => ∃ p ys, xs = [.ref p] ∧
  ((SqL K H p ys ∧ ∀ l, H l = none → Q (.ref l) (upd H l (.tup ys))) ∨ (SqT K H p ys ∧ Q (.ref p) H))
def rLenK (K : PySem.W.Frag) : List V → Hp → VK → Prop := fun xs H Q => ∃ p ys, xs = [.ref p] ∧
  (SqL K H p ys ∨ SqT K H p ys) ∧ Q (.int ys.length) H
theorem call_tupK (h : X.K = K) : CallR X (.type "tuple") (rTupK K) := by
  subst h
  exact call_tuple_of
theorem call_lenK (h : X.K = K) : CallR X (.builtin "len") (rLenK K) := by
  subst h
  exact call_len_seq
theorem ix_tupK (h : X.K = K) : IxR X (rIxT K) := by
  subst h
  exact ix_tup
theorem ix_listK (h : X.K = K) : IxR X (rIxL K) := by
  subst h
  exact ix_list
end
def Uniq (as : List Addr) : Prop := ∀ (i j : Nat) (x : Addr), as[i]? = some x → as[j]? = some x → i = j
theorem uniq_nil : Uniq [] := fun i j x h => by cases h
theorem uniq_snoc {as : List Addr} {p : Addr} (u : Uniq as) (h : p ∉ as) : Uniq (as ++ [p]) := by
  intro i j x hi hj
  have key : ∀ m y, (as ++ [p])[m]? = some y → (m < as.length ∧ as[m]? = some y) ∨ (m = as.length ∧ y = p) := by
    intro m y e
    rw [List.getElem?_append] at e
    split at e
    · rename_i l
      exact .inl ⟨l, e⟩
    · rename_i l
      obtain ⟨l1, e1⟩ := List.getElem?_eq_some_iff.mp e
      have l2 : m - as.length < 1 := l1
      refine .inr ⟨by omega, ?_⟩
      have z : m - as.length = 0 := by omega
      rw [z, List.getElem?_cons_zero] at e
      exact (Option.some.inj e).symm
  rcases key i x hi with ⟨_, e1⟩ | ⟨l1, e1⟩ <;> rcases key j x hj with ⟨_, e2⟩ | ⟨l2, e2⟩
  · exact u i j x e1 e2
  · subst e2; exact absurd (List.mem_of_getElem? e1) h
  · subst e1; exact absurd (List.mem_of_getElem? e2) h
  · omega
theorem none_of {H G : Hp} {T : Addr} (s : Same H G) (n : G T = none) : H T = none := by
  cases h : H T with
  | none => rfl
  | some o => rw [s T o h] at n; cases n
end Wr

/-! defs with *args -/
namespace Wr
open PySem PySem.Spec PyProof.Rows L2
def BindsV (fd : FuncData) (pv : Str) : Prop := ∀ rest : List Value,
  bindArgs fd ⟨rest, []⟩ = (newTuple rest >>= fun t => pure [(pv, t)])
section
variable {P : Program} {w : World} {K : PySem.W.Frag} {mg : Str → Option Value} {base : Heap}
theorem Fun_bindsV {x qual : Str} {st : Stmt} {f : Addr} {fd : FuncData} {pv : Str} (F : L2.Fun K x qual st f fd)
    (h : ∀ (kV doc pm : Value) (an : Option Addr) (cdv ct : Value) (rest : List Value),
      bindArgs (PySem.W.fnOf x qual (defArgs st) (defBody st) (defScope st) .none kV doc pm an cdv ct) ⟨rest, []⟩ =
        (newTuple rest >>= fun t => pure [(pv, t)])) : BindsV fd pv := by
  obtain ⟨oc, od, kV, doc, pm, an, cdv, ct, osl, rfl, lk, hcd⟩ := F.ex
  exact h kV doc pm an cdv ct
theorem okV {x qual : Str} {st : Stmt} {f : Addr} {fd : FuncData} {N : List Str} {pv : Str} {k : Nat} {sp : Sp}
    (F : L2.Fun K x qual st f fd) (S : FnScope N [pv] (defScope st)) (hb : BindsV fd pv)
    (hbody : ∀ (cdv : Value) (A : Around) (outer : List Env) (s : Shared) (H : Hp) (vs : List V) (Q : VK) (E : XK),
      Room k (A.deeper (envOfC qual (defScope st) s.heap.objs.size f cdv)) → sp vs H Q E →
      ∃ t, PSs (cxOf (L2.CX P w) P w K mg base N qual (defScope st) f cdv A outer s H E) (defBody st) t ∧
        t { nx := fun _ H' => Q .non H', rt := Q } (start N vs) H) :
    FnR P w K mg base (L2.CX P w) (k + 1) f (fun vs H Q E => vs.length ≤ sizeLine ∧
      ∀ p, H p = none → sp [V.ref p] (upd H p (.tup vs)) Q E) := by
  obtain ⟨oc, od, kV, doc, pm, an, cdv, ct, osl, rfl, lk, hcd⟩ := F.ex
  have R := StX.fn_star (ps := []) (pv := pv) (sp := sp) lk hcd S StX.cxUp
    (fun us rest hl => by
      obtain rfl := List.length_eq_zero_iff.mp hl
      exact hb rest)
    (fun A outer s H vs Q E hr hsp => hbody cdv A outer s H vs Q E hr hsp)
  exact R.imp fun vs H Q E h => ⟨[], vs, rfl, rfl, h.1, h.2⟩
end
section
variable {X : Cx} {CX : CXT} {k : Nat} {f : Addr} {sp : Sp} {E : L2.St → XK} {x : Str} {e : Expr} {es : List Expr} {t : TA} {p pos : Pos}
theorem run_fnRS {pins : List (Addr × Obj)} {σ : L2.St} {H : Hp} {s : Shared} {Q : VK} {us : List Value} {vs : List V}
    (F : FnR X.prog X.w X.K X.mg X.base CX k f sp) (hr : Room k X.A) (hx : PassesAt CX X σ (E σ))
    (I : Inv X pins σ H s) (r : Vals vs us) (h : sp vs H Q (E σ)) :
    wpAny (model X.prog X.w) X.A (call (.ref f) us) (EP X pins σ Q) X.xe s := by
  refine wpAny_call (codeAny_mono (F X.A X.stack s H us vs Q (E σ) hr I.env0 r h) fun r s' hq => ?_)
  cases r with
  | error e => exact hx pins H s e s' I hq
  | ok fl =>
    cases fl with
    | ret u => exact I.after hq
    | next => exact False.elim hq
    | brk => exact False.elim hq
    | cont => exact False.elim hq
theorem pe_callRS (F : FnR X.prog X.w X.K X.mg X.base CX k f sp) (hr : Room k X.A) (hg : Gl X x) (hm : X.mg x = some (.ref f))
    (hk : PySem.W.keepIn X.K (.ref f) = true) (hx : ∀ σ, PassesAt CX X σ (E σ))
    (ha : PA X (e :: es) t) (hdb : (x == ("__debug__" : Str)) = false := by decide)
    (he : starEach (e :: es) X.env = (false, eval e X.env) :: starEach es X.env := by rfl)
    (hpl : (backTo pos (starEach es X.env)).any (·.1) = false := by rfl) :
    PE X (.Call (.Name x p) (e :: es) [] pos) (tCallS sp E t) := by
  refine ⟨fun pins s σ H Q I h => ?_⟩
  refine wpAny_Call_Name_kw (ld_glob I hg hm ?_ hdb)
  refine PySem.W.callWith_K (h₀ := X.base) I.ok.mod.kin hk (thn (ha.run pos pins s σ H _ I h) fun us s1 ⟨vs, H1, I1, r, q⟩ => ⟨I1.kIn, ?_⟩) he hpl
  exact run_fnRS F hr (hx σ) I1 r q
theorem pe_callRS0 (F : FnR X.prog X.w X.K X.mg X.base CX k f sp) (hr : Room k X.A) (hg : Gl X x) (hm : X.mg x = some (.ref f))
    (hk : PySem.W.keepIn X.K (.ref f) = true) (hx : ∀ σ, PassesAt CX X σ (E σ))
    (hdb : (x == ("__debug__" : Str)) = false := by decide) :
    PE X (.Call (.Name x p) [] [] pos) (tCallS sp E tNil) := by
  refine ⟨fun pins s σ H Q I h => ?_⟩
  refine wpAny_Call_Name_kw (ld_glob I hg hm ?_ hdb)
  exact PySem.W.callWith_K0 I.kIn hk (run_fnRS (us := []) F hr (hx σ) I .nil h)
end
section
variable {X : Cx}
def tRevL (K : PySem.W.Frag) (te : TE) : TE := fun σ H Q => te σ H fun x H1 => ∃ a xs,
  x = .ref a ∧ SqL K H1 a xs ∧ ∀ p, H1 p = none → Q (.ref p) (upd H1 p (.lst xs.reverse))
theorem pe_revL {e : Expr} {te : TE} {k : Nat} {p1 p2 p3 pos : Pos} (he : PE X e te) :
    PE X (.Subscript e (.Slice none none (some (.UnaryOp .USub (.Constant (.int 1) k p1) p2)) p3) pos)
      (tRevL X.K te) := by
  refine ⟨fun pins s σ H Q I h => Subscript_ (thn (he.run pins s σ H _ I h) ?_)⟩
  rintro v s1 ⟨x, H1, I1, r1, a, xs, rfl, hx, q⟩
  cases r1
  have one : PO X (some (.UnaryOp .USub (.Constant (.int 1) k p1) p2))
      (tPart (tUn (rU fun i => .int (-i)) (tC (.int 1)))) := po_some (pe_un un_neg pe_int)
  refine wpAny_Slice (thn (po_none.run pins s1 σ H1 (fun o H2 => o = none ∧ H2 = H1) I1 ⟨rfl, rfl⟩) ?_)
  rintro vl s2 ⟨l, H2, I2, pl, rfl, rfl⟩
  refine thn (po_none.run pins s2 σ H2 (fun o H3 => o = none ∧ H3 = H2) I2 ⟨rfl, rfl⟩) ?_
  rintro vu s3 ⟨u, H3, I3, pu, rfl, rfl⟩
  refine thn (one.run pins s3 σ H3 (fun o H4 => o = some (-1) ∧ H4 = H3) I3 ⟨1, rfl, -1, rfl, rfl, rfl⟩) ?_
  rintro vs s4 ⟨o, H4, I4, ps, rfl, rfl⟩
  have I5 : Inv X pins σ H4 { s4 with heap := (s4.heap.push
        { cls := .type "slice", data := .fields #[vl, vu, vs] }) } :=
    I4.kept (t' := s4.toks) fun b ob q => Heap.get?_push_of_some _ q
  obtain ⟨its, r, ht, hz⟩ := I5.list hx
  have hlen := r.length
  cases pl
  cases pu
  show wpAny (model X.prog X.w) X.A (subscriptTail e (.Slice none none (some (.UnaryOp .USub
    (.Constant (.int 1) k p1) p2)) p3) (.ref a) (.ref s4.heap.objs.size)) (EP X pins σ Q) X.xe _
  refine tail_any (ops := [.ref a, .ref s4.heap.objs.size]) ht.isList.typeIs
    slot_list_getitem.lookup ?_ (by with_unfolding_all rfl)
  refine wpAny_getItem_list_slice ht.isList (Heap.IsSliceOf.new _ .none .none vs) .none .none ps (by decide) ?_
    (by rw [List.size_toArray]; omega)
  rw [PySem.W.krv_pick]
  refine ⟨.ref _, _, I5.laid (t' := s4.toks) (o := .lst xs.reverse)
    (fun b ob q => Heap.get?_push_of_some _ q) (Nat.le_refl _) ?_, rfl, q _ (I5.hok.fresh (Nat.le_refl _))⟩
  refine ⟨by rw [List.length_reverse]; exact hz, its.reverse, _, r.reverse, Heap.get?_push_size _ rfl⟩
end
end Wr

namespace Wr
open PySem PySem.Spec PyProof.Rows L2
/-! ## rows of labels of one length -/
def lenD : PyData → Nat
  | .tuple es => es.length
  | _ => 0
def alikeL : List PyData → Bool
  | [] => false
  | d :: ds => (d :: ds).all fun e => decide (lenD e = lenD d)
def sp_alike (CI CM : Addr) : Sp := fun vs H Q E => ∃ (a : Addr) (xs : List V) (ds : List PyData)
  (z : Prop) (B : Addr → Prop), vs = [.ref a] ∧ H a = some (.tup xs) ∧ DVs z B H xs ds ∧
  (ds.all isLabD = false → E (.ref CI) none H) ∧ (ds.all isLabD = true → alikeL ds = false → E (.ref CM) none H) ∧
  (ds.all isLabD = true → alikeL ds = true → Q .non H)
theorem DV.tupLen {z : Prop} {B : Addr → Prop} {H : Hp} {v : V} {d : PyData} (h : DV z B H v d) (e : isLabD d = true) :
    ∃ (a : Addr) (xs : List V), v = .ref a ∧ H a = some (.tup xs) ∧ xs.length = lenD d := by
  obtain ⟨ns, rfl, _⟩ := isLab_form e
  obtain ⟨a, xs, rfl, _, ea, hx⟩ := h.tupI
  exact ⟨a, xs, rfl, ea, hx.length⟩
section
variable {P : Program} {w : World} {K : PySem.W.Frag} {mg : Str → Option Value} {base : Heap}
theorem cx_calm {P : Program} {w : World} {outer : List Env} {H : Hp} {s : Shared} {e : Value} {s' : Shared}
    (h : L2.CX P w outer H s E0 e s') : False := by
  obtain ⟨a, B, H', cls, d, ea, fl, hok, ub, na, os, ag, he⟩ := h
  exact he.elim
/-- a def that may raise, called where it does not -/
theorem FnOk_calm {k : Nat} {f : Addr} {fd : FuncData} {ps : List Str} {sp : Sp}
    (F : FnOk P w K mg base (L2.CX P w) k f fd ps sp) :
    FnOk P w K mg base CX0 k f fd ps (fun vs H Q _ => sp vs H Q E0) :=
  ⟨fun vs H Q E h => F.len vs H Q E0 h, fun A outer s H args us vs Q E hr e0 hb r h =>
    codeAny_mono (F.run A outer s H args us vs Q E0 hr e0 hb r h) fun r s' hq => by
      cases r with
      | error e => exact (cx_calm hq).elim
      | ok fl => cases fl <;> exact hq⟩
theorem FnR_calm {k : Nat} {f : Addr} {sp : Sp}
    (F : FnR P w K mg base (L2.CX P w) k f sp) :
    FnR P w K mg base CX0 k f (fun vs H Q _ => sp vs H Q E0) :=
  fun A outer s H us vs Q E hr e0 r h =>
    codeAny_mono (F A outer s H us vs Q E0 hr e0 r h) fun r s' hq => by
      cases r with
      | error e => exact (cx_calm hq).elim
      | ok fl => cases fl <;> exact hq
end
section
variable {X : Cx} {CX : CXT} {k : Nat} {f : Addr} {sp : Sp} {E : XK} {x : Str} {e : Expr} {es : List Expr} {t : TA} {p pos : Pos}
/-- a def with *args called with plain arguments -/
theorem pe_callR (F : FnR X.prog X.w X.K X.mg X.base CX k f sp) (hr : Room k X.A) (hg : Gl X x) (hm : X.mg x = some (.ref f))
    (hk : PySem.W.keepIn X.K (.ref f) = true) (hx : Passes CX X E)
    (ha : PA X (e :: es) t) (hdb : (x == ("__debug__" : Str)) = false := by decide)
    (he : starEach (e :: es) X.env = (false, eval e X.env) :: starEach es X.env := by rfl)
    (hpl : (backTo pos (starEach es X.env)).any (·.1) = false := by rfl) :
    PE X (.Call (.Name x p) (e :: es) [] pos) (fun σ H Q => t σ H fun vs H1 => sp vs H1 Q E) := by
  refine ⟨fun pins s σ H Q I h => ?_⟩
  refine wpAny_Call_Name_kw (ld_glob I hg hm ?_ hdb)
  refine PySem.W.callWith_K (h₀ := X.base) I.ok.mod.kin hk (thn (ha.run pos pins s σ H _ I h) fun us s1 ⟨vs, H1, I1, r, q⟩ => ⟨I1.kIn, ?_⟩) he hpl
  exact wpAny_call (run_fnR F hr hx I1 r q)
end
/-! ## a dict that numbers its keys by first places -/
section
variable {α κ : Type} [DecidableEq α] [DecidableEq κ]
def tblF (f : α → κ) : Nat → List α → List (κ × V)
  | _, [] => []
  | n, x :: xs => (f x, .int (n : Int)) :: tblF f (n + 1) xs
theorem tblF_len (f : α → κ) : ∀ (n : Nat) (xs : List α), (tblF f n xs).length = xs.length
  | _, [] => rfl
  | n, x :: xs => by simp only [tblF, List.length_cons, tblF_len f (n + 1) xs]
theorem tblF_snoc (f : α → κ) (x : α) : ∀ (n : Nat) (xs : List α),
    tblF f n (xs ++ [x]) = tblF f n xs ++ [(f x, .int ((n + xs.length : Nat) : Int))]
  | n, [] => rfl
  | n, y :: xs => by
    rw [List.cons_append]
    simp only [tblF, tblF_snoc f x (n + 1) xs, List.cons_append, List.length_cons]
    rw [show n + 1 + xs.length = n + (xs.length + 1) by omega]
theorem tblF_val {f : α → κ} (hf : ∀ a b, f a = f b → a = b) (x : α) : ∀ (n : Nat) (xs : List α),
    valV (tblF f n xs) (f x) = if x ∈ xs then some (.int ((n + plc x xs : Nat) : Int)) else none
  | n, [] => by
    rw [if_neg (fun h => nomatch h)]
    rfl
  | n, y :: xs => by
    simp only [tblF, plc]
    by_cases e : y = x
    · subst e
      rw [valV_pos rfl, if_pos (List.mem_cons_self ..), if_pos rfl]
      rfl
    · rw [valV_neg (fun h => e (hf _ _ h)), tblF_val hf x (n + 1) xs, if_neg e]
      by_cases m : x ∈ xs
      · rw [if_pos m, if_pos (List.mem_cons_of_mem _ m), show n + 1 + plc x xs = n + (plc x xs + 1) by omega]
      · rw [if_neg m, if_neg (fun h => (List.mem_cons.mp h).elim (fun h => e h.symm) m)]
theorem tblF_put {f : α → κ} (hf : ∀ a b, f a = f b → a = b) {x : α} {n : Nat} {xs : List α} (h : x ∉ xs) :
    putK (tblF f n xs) (f x) (.int ((n + xs.length : Nat) : Int)) = tblF f n (xs ++ [x]) := by
  unfold putK
  rw [valV_any, tblF_val hf, if_neg h, tblF_snoc]
  rfl
end
def rowK (r : List Int) : List Key := r.map Sum.inl
theorem rowK_inj (a b : List Int) (h : rowK a = rowK b) : a = b := by
  have e : ∀ r : List Int, (rowK r).map kV = r.map V.int := fun r => by
    unfold rowK
    rw [List.map_map]
    rfl
  have h2 := congrArg (List.map kV) h
  rw [e, e] at h2
  exact (List.map_inj_right (fun x y h => V.int.inj h)).mp h2
theorem rowK_kV (r : List Int) : (rowK r).map kV = r.map V.int := by
  unfold rowK
  rw [List.map_map]
  rfl
/-- labels of rows that stand in a list -/
def sp_labT : Sp := fun vs H Q _ => ∃ (L : Addr) (bs : List Addr) (rows : List (List Int)), vs = [.ref L] ∧
  H L = some (.lst (bs.map V.ref)) ∧ rows.length = bs.length ∧ bs.length ≤ 1000 ∧
  (∀ (i : Nat) b r, bs[i]? = some b → rows[i]? = some r → H b = some (.tup (r.map V.int))) ∧
  ∀ (p : Addr) (H' : Hp), Same H H' → H p = none →
    H' p = some (.tup ((canL [] rows).map V.int)) → Q (.ref p) H'
theorem hu65 {A : Around} {k : Nat} (hr : Room k A) : A.units + 65 < cLine := by
  have := hr.un
  omega
def rowD (r : List Int) : PyData := .tuple (r.map PyData.int)
theorem rowD_eqv (a b : List Int) : PyData.eqv (rowD a) (rowD b) = decide (a = b) := eqv_ints a b
theorem rowD_any (k : List Int) : ∀ seen : List (List Int), ((seen.map rowD).any fun z => PyData.eqv z (rowD k)) = decide (k ∈ seen)
  | [] => by simp
  | y :: seen => by
    rw [List.map_cons, List.any_cons, rowD_any k seen, rowD_eqv]
    by_cases h : y = k
    · subst h; simp
    · rw [decide_eq_false h, Bool.false_or]
      by_cases m : k ∈ seen
      · rw [decide_eq_true m, decide_eq_true (List.mem_cons_of_mem _ m)]
      · rw [decide_eq_false m, decide_eq_false (fun z => (List.mem_cons.mp z).elim (fun e => h e.symm) m)]
theorem rowD_lay : ∀ seen : List (List Int), PyData.canLayAll0 (seen.map rowD) = true
  | [] => rfl
  | y :: seen => by
    rw [List.map_cons]
    simp only [PyData.canLayAll0, rowD_lay seen, rowD, PyData.canLay0, lay_ints, Bool.and_self]
theorem rowD_depth : ∀ seen : List (List Int), PyData.depthAll (seen.map rowD) ≤ 1
  | [] => Nat.zero_le _
  | y :: seen => by
    rw [List.map_cons]
    have h1 := rowD_depth seen
    have h2 : (rowD y).depth ≤ 1 := by
      simp only [rowD, PyData.depth, depth_ints]
      decide
    simp only [PyData.depthAll]
    omega
theorem rowD_shaped (seen : List (List Int)) : SeqAt.shaped (.list (seen.map rowD)) = true :=
  shaped_of (rowD_lay seen) (by
    have := rowD_depth seen
    simp only [PyData.depth]
    omega)
end Wr

/-! zip of tuples, any number of them, taken by list() -/
namespace PySem
open Sem (wp)
section
variable {M : Model} {A : Around} {E : Value → Shared → Prop}
theorem wr_forIn {α β : Type} {f : α → β → Sem (ForInStep β)} {Q : β → Shared → Prop} (Inv : Nat → β → Shared → Prop) :
    ∀ (l : List α) (b : β) (s : Shared) (k : Nat), Inv k b s →
    (∀ j x b s, l[j]? = some x → Inv (k + j) b s → wpAny M A (f x b) (fun r s' => ∃ b', r = .yield b' ∧ Inv (k + j + 1) b' s') E s) →
    (∀ b s, Inv (k + l.length) b s → Q b s) → wpAny M A (forIn l b f) Q E s
  | [], b, s, k, h, _, q => by
    rw [List.forIn_nil]
    exact wpAny_pure (q b s h)
  | x :: l, b, s, k, h, step, q => by
    rw [List.forIn_cons]
    refine wpAny_bind (wpAny_mono (step 0 x b s rfl h) (fun r s' hr => ?_) fun _ _ z => z)
    obtain ⟨b', rfl, hb⟩ := hr
    refine wr_forIn Inv l b' s' (k + 1) hb (fun j y b s hj hi => ?_) fun b s hi => ?_
    · have := step (j + 1) y b s (by rw [List.getElem?_cons_succ]; exact hj) (by rw [show k + (j + 1) = k + 1 + j by omega]; exact hi)
      rw [show k + (j + 1) + 1 = k + 1 + j + 1 by omega] at this
      exact this
    · exact q b s (by rw [List.length_cons, show k + (l.length + 1) = k + 1 + l.length by omega]; exact hi)
end

/-- iterators over tuples, each at its own place -/
def Zn (h : Heap) (its ts : List Addr) (cols : List (Array Value)) (pos : Nat → Nat) : Prop :=
  ∀ j a, its[j]? = some a → ∃ t c, ts[j]? = some t ∧ cols[j]? = some c ∧ h.IsTupleIter a t (pos j) ∧ h.IsTuple t c
theorem Zn.keep {h h' : Heap} {its ts : List Addr} {cols : List (Array Value)} {pos : Nat → Nat} (Z : Zn h its ts cols pos)
    (k : ∀ b o, b ∈ its ∨ b ∈ ts → h.get? b = some o → h'.get? b = some o) : Zn h' its ts cols pos := fun j a e => by
  obtain ⟨t, c, e1, e2, h1, h2⟩ := Z j a e
  exact ⟨t, c, e1, e2, h1.at fun o q => k _ o (.inl (List.mem_of_getElem? e)) q, h2.at fun o q => k _ o (.inr (List.mem_of_getElem? e1)) q⟩
structure Za (z TI TO : Addr) (its ts : List Addr) : Prop where
  nd : ∀ (i j : Nat) (a : Addr), its[i]? = some a → its[j]? = some a → i = j
  zi : z ∉ its
  Ii : TI ∉ its
  Oi : TO ∉ its
  Iz : TI ≠ z
  Oz : TO ≠ z
  IO : TI ≠ TO
  ti : ∀ t ∈ ts, t ∉ its
  tz : z ∉ ts
  tO : TO ∉ ts
abbrev TupV (h : Heap) (a : Addr) (vs : List Value) : Prop := h.get? a = some { cls := .type "tuple", data := .seq vs.toArray }
def rowZ (cols : List (Array Value)) (i : Nat) : List Value := cols.map fun c => c.getD i .none
section
variable {prog : Program} {w : World} {A : Around} {E : Value → Shared → Prop} {s : Shared} {z TI TO T : Addr} {f : Bool} {oT : Obj}
  {its ts : List Addr} {cols : List (Array Value)} {i n : Nat}
theorem Zn.step {h h' : Heap} {pos : Nat → Nat} {j : Nat} {a : Addr} {t : Addr} (Z : Zn h its ts cols pos) (D : Za z TI TO its ts) (e : its[j]? = some a) (et : ts[j]? = some t)
    (hi : h'.IsTupleIter a t (pos j + 1)) (hs : Heap.SameBut a h h') : Zn h' its ts cols (fun m => if m = j then pos j + 1 else pos m) := fun m b eb => by
  obtain ⟨t', c, e1, e2, h1, h2⟩ := Z m b eb
  have tn : t' ≠ a := fun q => D.ti t' (List.mem_of_getElem? e1) (by rw [q]; exact List.mem_of_getElem? e)
  refine ⟨t', c, e1, e2, ?_, h2.extBut hs.extBut tn⟩
  show h'.IsTupleIter b t' (if m = j then pos j + 1 else pos m)
  by_cases q : m = j
  · subst q
    rw [eb] at e
    cases e
    rw [et] at e1
    cases e1
    rw [if_pos rfl]
    exact hi
  · rw [if_neg q]
    exact h1.extBut hs.extBut fun x => q (D.nd m j a (by rw [← x]; exact eb) e)
theorem wr_zip_held {Q : Value → Shared → Prop} (D : Za z TI TO its ts) (h0 : 0 < its.length) (hl : its.length = cols.length) (hc : ∀ c ∈ cols, i < c.size) (hsz : cols.length ≤ sizeLine)
    (hz : IsZipHeld s.heap z TI TO T f) (hT : s.heap.get? T = some oT) (hTI : TupV s.heap TI (its.map Value.ref)) (Z : Zn s.heap its ts cols fun _ => i)
    (hQ : ∀ h', IsZipHeld h' z TI TO T true → Zn h' its ts cols (fun _ => i + 1) → TupV h' s.heap.objs.size (rowZ cols i) → h'.objs.size = s.heap.objs.size + 1 →
      (∀ c o, c ≠ z → c ∉ its → s.heap.get? c = some o → h'.get? c = some o) → Q (.ref s.heap.objs.size) { s with heap := h' }) :
    wpAny (model prog w) A (Builtin.«zip.__next__» ⟨[.ref z], []⟩) (fun fin s' => ∃ v, fin = .done (.ret v) ∧ Q v s') E s := by
  show wpAny _ _ (field (.ref z) 2 >>= _) _ _ _
  refine wpAny_bind (wpAny_field hz rfl (x := .bool false) rfl ?_)
  show wpAny _ _ (field (.ref z) 3 >>= _) _ _ _
  refine wpAny_bind (wpAny_field hz rfl (x := .ref TI) rfl ?_)
  refine wpAny_bind (wpAny_seqItems hTI rfl ?_)
  have hne : ((its.map Value.ref).toArray.isEmpty) = false := by
    cases its with
    | nil => exact absurd h0 (by simp)
    | cons a l => rfl
  simp only [hne, Bool.false_eq_true, if_false]
  show wpAny _ _ (Builtin.SmallTypes.ownedTupleIsFree (.ref z) >>= _) _ _ _
  refine wpAny_bind (wpAny_tupleHeld_zip hz hT fun h₁ hz₁ hs₁ => ?_)
  simp only [Bool.false_eq_true, if_false]
  rw [← Array.forIn_toList]
  refine wpAny_bind (wr_forIn (fun j b s' => b = (none, ((rowZ cols i).take j).toArray) ∧ ∃ h', s' = { s with heap := h' } ∧ IsZipHeld h' z TI TO T true ∧
    Zn h' its ts cols (fun m => if m < j then i + 1 else i) ∧ h'.objs.size = s.heap.objs.size ∧ ∀ c o, c ≠ z → c ∉ its → s.heap.get? c = some o → h'.get? c = some o)
    (its.map Value.ref) _ _ 0 ⟨rfl, h₁, rfl, hz₁, ?_, hs₁.1, fun c o c1 _ e => hs₁.extBut _ _ c1 e⟩ (fun j x b s' hx hi => ?_) fun b s' hb => ?_)
  · refine (Z.keep (h' := h₁) fun b o hb e => hs₁.extBut _ _ (fun q => ?_) e)
    rw [q] at hb
    exact hb.elim D.zi D.tz
  · obtain ⟨rfl, h', rfl, hz', Z', hn, hk⟩ := hi
    rw [List.getElem?_map] at hx
    obtain ⟨a, ha, rfl⟩ := Option.map_eq_some_iff.mp hx
    obtain ⟨t, c, e1, e2, i1, i2⟩ := Z' j a ha
    rw [Nat.zero_add] at i1 ⊢
    have ci : i < c.size := hc c (List.mem_of_getElem? e2)
    have i1' : h'.IsTupleIter a t i := by
      have q := i1
      simp only [Nat.lt_irrefl, if_false] at q
      exact q
    have ga : c[i]? = some (c.getD i .none) := by simp [Array.getD, ci]
    refine wpAny_bind (wpAny_holding ?_)
    show wpAny _ _ (Builtin.SmallTypes.nextOf (.ref a) >>= _) _ _ _
    refine wpAny_bind (wpAny_nextOf_tuple_item (s := { s with heap := h' }) i1' i2 ga fun h'' it'' hs'' => wpAny_pure ?_)
    refine wpAny_pure ⟨_, rfl, ?_, h'', rfl, ?_, ?_, ?_, ?_⟩
    · have hr : (rowZ cols i)[j]? = some (c.getD i .none) := by
        unfold rowZ
        rw [List.getElem?_map, e2]
        rfl
      rw [List.take_add_one, hr]
      show (none, _) = (none, _)
      simp
    · exact hs''.extBut _ _ (fun q => D.zi (by rw [q]; exact List.mem_of_getElem? ha)) hz'
    · have := Z'.step D ha e1 (h' := h'') (by
        have q := it''
        simp only [Nat.zero_add, Nat.lt_irrefl, if_false]
        exact q) hs''
      intro m b eb
      obtain ⟨t', c', x1, x2, x3, x4⟩ := this m b eb
      refine ⟨t', c', x1, x2, ?_, x4⟩
      have e : (if m = j then (if j < 0 + j then i + 1 else i) + 1 else if m < 0 + j then i + 1 else i) = if m < 0 + j + 1 then i + 1 else i := by
        simp only [Nat.zero_add, Nat.lt_irrefl, if_false]
        by_cases q : m = j
        · rw [if_pos q, if_pos (by omega)]
        · rw [if_neg q]
          by_cases q2 : m < j
          · rw [if_pos q2, if_pos (by omega)]
          · rw [if_neg q2, if_neg (by omega)]
      simp only [Nat.zero_add] at e x3 ⊢
      rw [← e]
      exact x3
    · exact hs''.1.trans hn
    · exact fun c o c1 c2 e => hs''.extBut _ _ (fun q => c2 (by rw [q]; exact List.mem_of_getElem? ha)) (hk c o c1 c2 e)
  · obtain ⟨rfl, h', rfl, hz', Z', hn, hk⟩ := hb
    have lr : (rowZ cols i).length = its.length := by unfold rowZ; rw [List.length_map, hl]
    rw [show (rowZ cols i).take (0 + (its.map Value.ref).length) = rowZ cols i from by rw [Nat.zero_add, List.length_map, ← lr, List.take_length]]
    rw [Nat.zero_add, List.length_map] at Z'
    refine wpAny_bind (wpAny_newTuple ?_ (by show (rowZ cols i).length ≤ sizeLine; omega))
    refine wpAny_pure ⟨_, rfl, ?_⟩
    show Q (.ref h'.objs.size) _
    have hp : TupV (h'.push { cls := .type "tuple", data := .seq (rowZ cols i).toArray }) h'.objs.size (rowZ cols i) := Heap.get?_push_size _ rfl
    have hz4 : (h'.push { cls := .type "tuple", data := .seq (rowZ cols i).toArray }).objs.size = h'.objs.size + 1 := Heap.size_push ..
    have Z2 : Zn (h'.push { cls := .type "tuple", data := .seq (rowZ cols i).toArray }) its ts cols fun _ => i + 1 := fun m b eb => by
      obtain ⟨t', c', x1, x2, x3, x4⟩ := Z' m b eb
      have ml : m < its.length := (List.getElem?_eq_some_iff.mp eb).1
      simp only [ml, if_true] at x3
      exact ⟨t', c', x1, x2, x3.at fun o e => Heap.get?_push_of_some _ e, x4.at fun o e => Heap.get?_push_of_some _ e⟩
    rw [hn] at hp hz4 ⊢
    exact hQ _ (Heap.get?_push_of_some _ hz') Z2 hp hz4 fun c o c1 c2 e => Heap.get?_push_of_some _ (hk c o c1 c2 e)

theorem wr_zip_end {Q : Fin → Shared → Prop} (hh : A.handled = none) (D : Za z TI TO its ts) (h0 : 0 < its.length) (hc : ∀ c ∈ cols, c.size = i)
    (hz : IsZipHeld s.heap z TI TO T f) (hT : s.heap.get? T = some oT) (hTI : TupV s.heap TI (its.map Value.ref)) (Z : Zn s.heap its ts cols fun _ => i)
    (hE : ∀ h' e, (∀ c o, c ≠ z → c ∉ its → s.heap.get? c = some o → h'.get? c = some o) → (∃ o, h'.get? e = some o ∧ o.cls = .type "StopIteration") → E (.ref e) { s with heap := h' }) :
    wpAny (model prog w) A (Builtin.«zip.__next__» ⟨[.ref z], []⟩) Q E s := by
  show wpAny _ _ (field (.ref z) 2 >>= _) _ _ _
  refine wpAny_bind (wpAny_field hz rfl (x := .bool false) rfl ?_)
  show wpAny _ _ (field (.ref z) 3 >>= _) _ _ _
  refine wpAny_bind (wpAny_field hz rfl (x := .ref TI) rfl ?_)
  refine wpAny_bind (wpAny_seqItems hTI rfl ?_)
  cases its with
  | nil => exact absurd h0 (by simp)
  | cons a l =>
    have hne : (((a :: l).map Value.ref).toArray.isEmpty) = false := rfl
    simp only [hne, Bool.false_eq_true, if_false]
    show wpAny _ _ (Builtin.SmallTypes.ownedTupleIsFree (.ref z) >>= _) _ _ _
    refine wpAny_bind (wpAny_tupleHeld_zip hz hT fun h₁ hz₁ hs₁ => ?_)
    simp only [Bool.false_eq_true, if_false]
    rw [← Array.forIn_toList]
    refine wpAny_bind ?_
    show wpAny _ _ (forIn (Value.ref a :: l.map Value.ref) _ _) _ _ _
    rw [List.forIn_cons]
    refine wpAny_bind (wpAny_bind (wpAny_holding ?_))
    show wpAny _ _ (Builtin.SmallTypes.nextOf (.ref a) >>= _) _ _ _
    obtain ⟨t, c, e1, e2, i1, i2⟩ := Z 0 a rfl
    have az : a ≠ z := fun q => D.zi (by rw [← q]; exact List.mem_cons_self ..)
    have tz : t ≠ z := fun q => D.tz (by rw [← q]; exact List.mem_of_getElem? e1)
    refine wpAny_bind (wpAny_nextOf_tuple_end (s := { s with heap := h₁ }) hh (i1.extBut hs₁.extBut az) (i2.extBut hs₁.extBut tz)
      (by simp [hc c (List.mem_of_getElem? e2)]) fun h₂ e hs₂ he => ?_)
    exact hE h₂ e (fun c o c1 c2 x => hs₂ _ _ (fun q => c2 (by rw [q]; exact List.mem_cons_self ..)) (hs₁.extBut _ _ c1 x)) he
theorem wr_setMid {α : Type} {R old : List α} {j : Nat} {x : α} (h : R[j]? = some x) (l : j < old.length) :
    (R.take j ++ old.drop j).set j x = R.take (j + 1) ++ old.drop (j + 1) := by
  have lj : j < R.length := (List.getElem?_eq_some_iff.mp h).1
  have lt : (R.take j).length = j := by rw [List.length_take]; omega
  rw [List.set_append_right _ _ (by omega), lt, Nat.sub_self, List.drop_eq_getElem_cons l, List.set_cons_zero, List.take_add_one, h]
  simp
theorem wr_updTup {T : Addr} {vs : List Value} {x : Value} {k : Nat} {Q : Unit → Shared → Prop} (hT : TupV s.heap T vs) (hz : vs.length ≤ sizeLine)
    (h : ∀ h', TupV h' T (vs.set k x) → Heap.SameBut T s.heap h' → Q () { s with heap := h' }) :
    wpAny (model prog w) A (updateSeq T (·.setIfInBounds k x)) Q E s := by
  refine wpAny_updateSeq hT rfl (h _ ?_ (Heap.SameBut.update ..)) (by rw [List.size_toArray]; exact hz) (by rw [Array.size_setIfInBounds, List.size_toArray]; omega)
  show Heap.get? _ _ = _
  rw [Heap.get?_update_self _ hT rfl]
  simp [Obj.mapSeq]
theorem wr_zip_free {Q : Value → Shared → Prop} {old : List Value} (D : Za z TI TO its ts) (h0 : 0 < its.length) (hl : its.length = cols.length) (hc : ∀ c ∈ cols, i < c.size) (hsz : cols.length ≤ sizeLine)
    (hz : IsZip s.heap z TI TO .none) (hTI : TupV s.heap TI (its.map Value.ref)) (hTO : TupV s.heap TO old) (ho : old.length = its.length) (Z : Zn s.heap its ts cols fun _ => i)
    (hQ : ∀ h', IsZipHeld h' z TI TO s.heap.objs.size false → Zn h' its ts cols (fun _ => i + 1) → TupV h' s.heap.objs.size (rowZ cols i) → h'.objs.size = s.heap.objs.size + 1 →
      (∀ c o, c ≠ z → c ≠ TO → c ∉ its → s.heap.get? c = some o → h'.get? c = some o) → Q (.ref s.heap.objs.size) { s with heap := h' }) :
    wpAny (model prog w) A (Builtin.«zip.__next__» ⟨[.ref z], []⟩) (fun fin s' => ∃ v, fin = .done (.ret v) ∧ Q v s') E s := by
  show wpAny _ _ (field (.ref z) 2 >>= _) _ _ _
  refine wpAny_bind (wpAny_field hz rfl (x := .bool false) rfl ?_)
  show wpAny _ _ (field (.ref z) 3 >>= _) _ _ _
  refine wpAny_bind (wpAny_field hz rfl (x := .ref TI) rfl ?_)
  refine wpAny_bind (wpAny_seqItems hTI rfl ?_)
  have hne : ((its.map Value.ref).toArray.isEmpty) = false := by
    cases its with
    | nil => exact absurd h0 (by simp)
    | cons a l => rfl
  simp only [hne, Bool.false_eq_true, if_false]
  show wpAny _ _ (Builtin.SmallTypes.ownedTupleIsFree (.ref z) >>= _) _ _ _
  refine wpAny_bind ?_
  unfold Builtin.SmallTypes.ownedTupleIsFree
  refine wpAny_bind (wpAny_field hz rfl (x := .none) rfl (wpAny_pure ?_))
  simp only [if_true]
  refine wpAny_bind (wpAny_rule ?_)
  refine wpAny_bind (wpAny_field hz rfl (x := .ref TO) rfl ?_)
  refine wpAny_bind (wpAny_setField_rec hz (by simp) fun g0 hz0 hs0 => ?_)
  replace hz0 : IsZip g0 z TI TO .ellipsis := hz0
  replace hs0 : Heap.SameBut z s.heap g0 := hs0
  have lr : (rowZ cols i).length = its.length := by unfold rowZ; rw [List.length_map, hl]
  refine wpAny_bind (wr_forIn (fun j b s' => b = (none, ()) ∧ ∃ h', s' = { s with heap := h' } ∧ IsZip h' z TI TO .ellipsis ∧
    TupV h' TO ((rowZ cols i).take j ++ old.drop j) ∧
    Zn h' its ts cols (fun m => if m < j then i + 1 else i) ∧ h'.objs.size = s.heap.objs.size ∧ ∀ c o, c ≠ z → c ≠ TO → c ∉ its → s.heap.get? c = some o → h'.get? c = some o)
    (its.map Value.ref).zipIdx _ _ 0 ⟨rfl, g0, rfl, hz0, hs0.extBut _ _ D.Oz hTO, ?_, hs0.1, fun c o c1 _ _ e => hs0.extBut _ _ c1 e⟩ (fun j x b s' hx hi => ?_) fun b s' hb => ?_)
  · refine (Z.keep (h' := g0) fun b o hb e => hs0.extBut _ _ (fun q => ?_) e)
    rw [q] at hb
    exact hb.elim D.zi D.tz
  · obtain ⟨rfl, h', rfl, hz', hO', Z', hn, hk⟩ := hi
    rw [List.getElem?_zipIdx, List.getElem?_map] at hx
    obtain ⟨y, hy, rfl⟩ := Option.map_eq_some_iff.mp hx
    obtain ⟨a, ha, rfl⟩ := Option.map_eq_some_iff.mp hy
    obtain ⟨t, c, e1, e2, i1, i2⟩ := Z' j a ha
    simp only [Nat.zero_add] at i1 hO' Z' ⊢
    have ci : i < c.size := hc c (List.mem_of_getElem? e2)
    have i1' : h'.IsTupleIter a t i := by
      have q := i1
      simp only [Nat.lt_irrefl, if_false] at q
      exact q
    have ga : c[i]? = some (c.getD i .none) := by simp [Array.getD, ci]
    have lj : j < its.length := (List.getElem?_eq_some_iff.mp ha).1
    have ao : TO ≠ a := fun q => D.Oi (by rw [q]; exact List.mem_of_getElem? ha)
    refine wpAny_bind (wpAny_onRaise ?_)
    show wpAny _ _ (Builtin.SmallTypes.nextOf (.ref a) >>= _) _ _ _
    refine wpAny_bind (wpAny_nextOf_tuple_item (s := { s with heap := h' }) i1' i2 ga fun p it'' hs'' => wpAny_pure ?_)
    replace hs'' : Heap.SameBut a h' p := hs''
    have hU : TupV p TO ((rowZ cols i).take j ++ old.drop j) := hs''.extBut _ _ ao hO'
    refine wpAny_bind (wpAny_seqItems (s := { s with heap := p }) hU rfl ?_)
    have hr : (rowZ cols i)[j]? = some (c.getD i .none) := by
      unfold rowZ
      rw [List.getElem?_map, e2]
      rfl
    refine wpAny_bind (wr_updTup (s := { s with heap := p }) hU (by rw [List.length_append, List.length_take, List.length_drop]; omega) fun g1 hT1 hs1 => ?_)
    rw [wr_setMid hr (by omega)] at hT1
    replace hs1 : Heap.SameBut TO p g1 := hs1
    refine wpAny_bind (wpAny_letGo (wpAny_pure ⟨_, rfl, rfl, _, rfl, ?_, hT1, ?_, ?_, ?_⟩))
    · exact hs1.extBut _ _ D.Oz.symm (hs''.extBut _ _ (fun q => D.zi (by rw [q]; exact List.mem_of_getElem? ha)) hz')
    · have := (Z'.step D ha e1 (h' := p) (by
        have q := it''
        simp only [Nat.lt_irrefl, if_false]
        exact q) hs'').keep (h' := g1) fun b o hb e => hs1.extBut _ _ (fun q => by
          rw [q] at hb
          exact hb.elim D.Oi D.tO) e
      intro m b eb
      obtain ⟨t', c', x1, x2, x3, x4⟩ := this m b eb
      refine ⟨t', c', x1, x2, ?_, x4⟩
      have e : (if m = j then (if j < j then i + 1 else i) + 1 else if m < j then i + 1 else i) = if m < j + 1 then i + 1 else i := by
        simp only [Nat.lt_irrefl, if_false]
        by_cases q : m = j
        · rw [if_pos q, if_pos (by omega)]
        · rw [if_neg q]
          by_cases q2 : m < j
          · rw [if_pos q2, if_pos (by omega)]
          · rw [if_neg q2, if_neg (by omega)]
      show g1.IsTupleIter b t' (if m < j + 1 then i + 1 else i)
      rw [← e]
      exact x3
    · exact hs1.1.trans (hs''.1.trans hn)
    · exact fun c o c1 c2 c3 e => hs1.extBut _ _ c2 (hs''.extBut _ _ (fun q => c3 (by rw [q]; exact List.mem_of_getElem? ha)) (hk c o c1 c2 c3 e))
  · obtain ⟨rfl, h', rfl, hz', hO', Z', hn, hk⟩ := hb
    have ll : (its.map Value.ref).zipIdx.length = its.length := by rw [List.length_zipIdx, List.length_map]
    rw [Nat.zero_add, ll] at hO' Z'
    rw [show (rowZ cols i).take its.length ++ old.drop its.length = rowZ cols i from by rw [← lr, List.take_length, lr, ← ho, List.drop_length, List.append_nil]] at hO'
    refine wpAny_bind (wpAny_seqItems (s := { s with heap := h' }) hO' rfl ?_)
    refine wpAny_bind (wpAny_newTuple ?_ (by show (rowZ cols i).length ≤ sizeLine; omega))
    have zl : z < h'.objs.size := Heap.lt_size hz'
    refine wpAny_bind ?_
    show wpAny _ _ (Builtin.SmallTypes.ownedTupleHandOut (.ref z) (.ref h'.objs.size)) _ _ { s with heap := h'.push { cls := .type "tuple", data := .seq (rowZ cols i).toArray } }
    unfold Builtin.SmallTypes.ownedTupleHandOut
    have hz₆ : IsZip (h'.push { cls := .type "tuple", data := .seq (rowZ cols i).toArray }) z TI TO .ellipsis := Heap.get?_push_of_some _ hz'
    refine wpAny_bind (wpAny_setField_rec hz₆ (by simp) fun h₇ hz₇ hs₇ => ?_)
    replace hz₇ : IsZip h₇ z TI TO (rawInt h'.objs.size) := hz₇
    refine wpAny_setField_rec hz₇ (by simp) fun h₈ hz₈ hs₈ => ?_
    replace hz₈ : IsZip h₈ z TI TO (rawInt h'.objs.size) := hz₈
    replace hs₇ : Heap.SameBut z (h'.push { cls := .type "tuple", data := .seq (rowZ cols i).toArray }) h₇ := hs₇
    replace hs₈ : Heap.SameBut z h₇ h₈ := hs₈
    have up : ∀ c o, c ≠ z → h'.get? c = some o → h₈.get? c = some o := fun c o c1 e => hs₈.extBut _ _ c1 (hs₇.extBut _ _ c1 (Heap.get?_push_of_some _ e))
    have hT₈ : TupV h₈ h'.objs.size (rowZ cols i) := hs₈.extBut _ _ (Nat.ne_of_gt zl) (hs₇.extBut _ _ (Nat.ne_of_gt zl) (Heap.get?_push_size _ rfl))
    have hz8 : h₈.objs.size = h'.objs.size + 1 := by rw [hs₈.1, hs₇.1, Heap.size_push]
    have Z2 : Zn h₈ its ts cols fun _ => i + 1 := fun m b eb => by
      obtain ⟨t', c', x1, x2, x3, x4⟩ := Z' m b eb
      have ml : m < its.length := (List.getElem?_eq_some_iff.mp eb).1
      simp only [ml, if_true] at x3
      exact ⟨t', c', x1, x2, x3.at fun o e => up _ o (fun q => D.zi (by rw [← q]; exact List.mem_of_getElem? eb)) e, x4.at fun o e => up _ o (fun q => D.tz (by rw [← q]; exact List.mem_of_getElem? x1)) e⟩
    rw [hn] at hz₈ hT₈ hz8
    refine wpAny_pure ⟨_, rfl, ?_⟩
    show Q (.ref h'.objs.size) { s with heap := h₈ }
    rw [hn]
    exact hQ _ hz₈ Z2 hT₈ hz8 fun c o c1 c2 c3 e => up c o c1 (hk c o c1 c2 c3 e)

/-- a zip that stands at its i-th row -/
def ZSt (z TI TO : Addr) (its ts : List Addr) (cols : List (Array Value)) (i : Nat) (h : Heap) : Prop :=
  TupV h TI (its.map Value.ref) ∧ Zn h its ts cols (fun _ => i) ∧
    ((i = 0 ∧ IsZip h z TI TO .none ∧ ∃ old : List Value, old.length = its.length ∧ TupV h TO old) ∨
     ∃ T f vs, IsZipHeld h z TI TO T f ∧ TupV h T vs ∧ T ≠ z ∧ T ∉ its)
theorem ZSt.keep {h h' : Heap} (Z : ZSt z TI TO its ts cols i h) {S : Addr} {o : Obj} (hS : h.get? S = some o) (hc : o.cls ≠ .type "tuple")
    (hi : S ∉ its) (hz : S ≠ z) (ht : S ∉ ts) (k : ∀ b o, b ≠ S → h.get? b = some o → h'.get? b = some o) : ZSt z TI TO its ts cols i h' := by
  have nt : ∀ {T : Addr} {vs : List Value}, TupV h T vs → T ≠ S := fun {T vs} e q => by
    rw [q] at e
    have e' : h.get? S = some _ := e
    rw [hS] at e'
    exact hc (by rw [Option.some.inj e'])
  obtain ⟨h1, h2, h3⟩ := Z
  refine ⟨k _ _ (nt h1) h1, h2.keep fun b o hb e => k b o (fun q => ?_) e, ?_⟩
  · rw [q] at hb
    exact hb.elim hi ht
  · rcases h3 with ⟨e, a1, old, lo, a2⟩ | ⟨T, f, vs, a1, a2, n1, n2⟩
    · exact .inl ⟨e, k _ _ (Ne.symm hz) a1, old, lo, k _ _ (nt a2) a2⟩
    · exact .inr ⟨T, f, vs, k _ _ (Ne.symm hz) a1, k _ _ (nt a2) a2, n1, n2⟩
theorem ZSt.isZip {h : Heap} (Z : ZSt z TI TO its ts cols i h) : ∃ o, h.get? z = some o ∧ o.cls = .type "zip" := by
  obtain ⟨_, _, h3⟩ := Z
  rcases h3 with ⟨_, a1, _⟩ | ⟨_, _, _, a1, _⟩
  · exact ⟨_, a1, rfl⟩
  · exact ⟨_, a1, rfl⟩
theorem wr_next_zip {Q : Option Value → Shared → Prop} (D : Za z TI TO its ts) (h0 : 0 < its.length) (hl : its.length = cols.length) (hc : ∀ c ∈ cols, i < c.size) (hsz : cols.length ≤ sizeLine)
    (Z : ZSt z TI TO its ts cols i s.heap)
    (hQ : ∀ h', ZSt z TI TO its ts cols (i + 1) h' → TupV h' s.heap.objs.size (rowZ cols i) → h'.objs.size = s.heap.objs.size + 1 →
      (∀ c o, c ≠ z → c ≠ TO → c ∉ its → s.heap.get? c = some o → h'.get? c = some o) → Q (some (.ref s.heap.objs.size)) { s with heap := h' }) :
    wpAny (model prog w) A (pyNext (.ref z)) Q E s := by
  obtain ⟨o, ho, hcl⟩ := Z.isZip
  have hTy : s.TypeIs (.ref z) "zip" := ⟨o, ho, hcl⟩
  have zl : z < s.heap.objs.size := Heap.lt_size ho
  obtain ⟨h1, h2, h3⟩ := Z
  have nits : s.heap.objs.size ∉ its := fun m => by
    obtain ⟨j, hj⟩ := List.mem_iff_getElem?.mp m
    obtain ⟨t, c, _, _, ⟨o', q, _⟩, _⟩ := h2 j _ hj
    exact Nat.lt_irrefl _ (Heap.lt_size q)
  unfold pyNext
  refine wpAny_bind (wpAny_attempt (wpAny_callSpecial?_slot (name := Str.ofString "__next__") hTy F.slot_zip_next
    (wpAny_call_entry F.slot_zip_next hTy F.entry_zip_next ?_ (F.args_zip_next_1 _))))
  rcases h3 with ⟨e, a1, old, lo, a2⟩ | ⟨T, f, vs, a1, a2, n1, n2⟩
  · refine wr_zip_free D h0 hl hc hsz a1 h1 a2 lo h2 fun h' b1 b2 b3 b4 b5 => wpAny_pure ?_
    exact hQ h' ⟨b5 _ _ D.Iz D.IO D.Ii h1, b2, .inr ⟨_, _, _, b1, b3, Nat.ne_of_gt zl, nits⟩⟩ b3 b4 b5
  · refine wr_zip_held D h0 hl hc hsz a1 a2 h1 h2 fun h' b1 b2 b3 b4 b5 => wpAny_pure ?_
    exact hQ h' ⟨b5 _ _ D.Iz D.Ii h1, b2, .inr ⟨_, _, _, b1, b5 _ _ n1 n2 a2, n1, n2⟩⟩ b3 b4 fun c o c1 _ c3 e => b5 c o c1 c3 e
theorem wr_next_zipEnd {Q : Option Value → Shared → Prop} (hh : A.in1.handled = none) (D : Za z TI TO its ts) (h0 : 0 < its.length) (hc : ∀ c ∈ cols, c.size = i) (i0 : i ≠ 0)
    (Z : ZSt z TI TO its ts cols i s.heap)
    (hQ : ∀ h', (∀ c o, c ≠ z → c ∉ its → s.heap.get? c = some o → h'.get? c = some o) → Q none { s with heap := h' }) :
    wpAny (model prog w) A (pyNext (.ref z)) Q E s := by
  obtain ⟨o, ho, hcl⟩ := Z.isZip
  have hTy : s.TypeIs (.ref z) "zip" := ⟨o, ho, hcl⟩
  obtain ⟨h1, h2, h3⟩ := Z
  rcases h3 with ⟨e, _⟩ | ⟨T, f, vs, a1, a2, n1, n2⟩
  · exact absurd e i0
  unfold pyNext
  refine wpAny_bind (wpAny_attempt (wpAny_callSpecial?_slot (name := Str.ofString "__next__") hTy F.slot_zip_next
    (wpAny_call_entry F.slot_zip_next hTy F.entry_zip_next (wr_zip_end hh D h0 hc a1 a2 h1 h2 fun h' e hk he => ?_) (F.args_zip_next_1 _))))
  obtain ⟨o, ho, hc⟩ := he
  refine wpAny_bind (wpAny_isInstance (T := "StopIteration") (b := true) ⟨o, ho, hc⟩ isSubtype_stop ?_)
  exact wpAny_pure (hQ _ hk)
theorem zip_no_len : typeLookup (.type "zip") "__len__" = pure none := by rw [typeLookup_type, builtinLookup_eq_fast]; kernel_rfl
theorem zip_no_hint : typeLookup (.type "zip") "__length_hint__" = pure none := by rw [typeLookup_type, builtinLookup_eq_fast]; kernel_rfl
abbrev LstV (h : Heap) (a : Addr) (vs : List Value) : Prop := ∃ c, h.get? a = some { cls := .type "list", dict := none, data := .seq vs.toArray c, slots := #[] }
end
section
variable {prog : Program} {w : World} {A : Around} {R : Result → Shared → Prop} {z TI TO S : Addr} {its ts : List Addr} {cols : List (Array Value)} {n N0 : Nat}
theorem wr_zip_loop (hh : A.in1.in1.handled = none) (D : Za z TI TO its ts) (h0 : 0 < its.length) (hl : its.length = cols.length) (hc : ∀ c ∈ cols, c.size = n) (hsz : cols.length ≤ sizeLine)
    (hn : n ≤ sizeLine) (n0 : n ≠ 0) (hi : S ∉ its) (hz : S ≠ z) (ht : S ∉ ts) (hO : S ≠ TO) (res : Value) (h₀ : Heap) :
    ∀ (k i : Nat) (s : Shared) (bs : List Addr), n - i = k → i ≤ n → ZSt z TI TO its ts cols i s.heap → TO < s.heap.objs.size → LstV s.heap S (bs.map Value.ref) → bs.length = i →
    (∀ j b, bs[j]? = some b → (TupV s.heap b (rowZ cols j) ∧ b ∉ its ∧ b ≠ z ∧ b ≠ TO) ∧ N0 ≤ b ∧ b < s.heap.objs.size) → N0 ≤ s.heap.objs.size → (∀ (i j : Nat) (b : Addr), bs[i]? = some b → bs[j]? = some b → i = j) → (∀ c o, c ≠ z → c ≠ TO → c ∉ its → c ≠ S → h₀.get? c = some o → s.heap.get? c = some o) →
    (∀ (h' : Heap) (bs : List Addr), LstV h' S (bs.map Value.ref) → bs.length = n → (∀ j b, bs[j]? = some b → TupV h' b (rowZ cols j) ∧ N0 ≤ b) → (∀ (i j : Nat) (b : Addr), bs[i]? = some b → bs[j]? = some b → i = j) →
      (∀ c o, c ≠ z → c ≠ TO → c ∉ its → c ≠ S → h₀.get? c = some o → h'.get? c = some o) → R (.ok (.ret res)) { s with heap := h' }) →
    codeAny (model prog w) A (.builtin "list.extend.loop" ⟨[.ref S, .ref z, res], []⟩) R s := by
  intro k
  induction k with
  | zero =>
    intro i s bs hk hin Z tl hS lb hb hN hU hkp hR
    have e : i = n := by omega
    subst e
    refine codeAny_builtin F.entry_extend_loop ?_
    rw [Around.under_plainId F.plain_extend_loop _]
    show wpAny _ A.in1 (pyNext (.ref z) >>= _) _ _ s
    refine wpAny_bind (wr_next_zipEnd hh D h0 hc n0 Z fun h' hm => ?_)
    obtain ⟨c, hS⟩ := hS
    exact wpAny_pure (hR h' bs ⟨c, hm _ _ hz hi hS⟩ lb (fun j b e => ⟨hm _ _ (hb j b e).1.2.2.1 (hb j b e).1.2.1 (hb j b e).1.1, (hb j b e).2.1⟩) hU fun c o c1 c2 c3 c4 e => hm _ _ c1 c3 (hkp c o c1 c2 c3 c4 e))
  | succ k ih =>
    intro i s bs hk hin Z tl hS lb hb hN hU hkp hR
    refine codeAny_builtin F.entry_extend_loop ?_
    rw [Around.under_plainId F.plain_extend_loop _]
    show wpAny _ A.in1 (pyNext (.ref z) >>= _) _ _ s
    have zl : z < s.heap.objs.size := by obtain ⟨o, ho, _⟩ := Z.isZip; exact Heap.lt_size ho
    have nits : s.heap.objs.size ∉ its := fun m => by
      obtain ⟨j, hj⟩ := List.mem_iff_getElem?.mp m
      obtain ⟨t, c, _, _, ⟨o', q, _⟩, _⟩ := Z.2.1 j _ hj
      exact Nat.lt_irrefl _ (Heap.lt_size q)
    refine wpAny_bind (wr_next_zip D h0 hl (fun c m => by rw [hc c m]; omega) hsz Z fun h' Z' hT hs' hm => ?_)
    obtain ⟨c, hS⟩ := hS
    have hS' := hm S _ hz hO hi hS
    have sl : S < s.heap.objs.size := Heap.lt_size hS
    show wpAny _ A.in1 (updateSeq S (·.push (.ref s.heap.objs.size)) >>= _) _ _ _
    refine wpAny_bind ?_
    have up : ∀ {g : Heap}, Heap.SameBut S h' g → ∀ c o, c ≠ S → h'.get? c = some o → g.get? c = some o := fun hs c o c1 e => hs.extBut _ _ c1 e
    refine wpAny_updateSeq (s := { s with heap := h' }) hS' rfl (wpAny_pure ⟨plainId_quiet F.plain_extend_loop _, ih (i + 1) _ (bs ++ [s.heap.objs.size]) (by omega) (by omega) ?_ ?_ ?_ ?_ ?_ ?_ ?_ ?_ ?_⟩)
      (by rw [List.size_toArray, List.length_map]; omega) (by rw [Array.size_push, List.size_toArray, List.length_map]; omega)
    · exact Z'.keep hS' (show Value.type "list" ≠ Value.type "tuple" by decide) hi hz ht fun b o nb e => (Heap.get?_update_other _ _ (Ne.symm nb)).trans e
    · have q : (h'.update S (Obj.mapSeq (·.push (Value.ref s.heap.objs.size)))).objs.size = h'.objs.size := (Heap.SameBut.update ..).1
      show TO < (h'.update S (Obj.mapSeq (·.push (Value.ref s.heap.objs.size)))).objs.size
      rw [q, hs']
      exact Nat.lt_succ_of_lt tl
    · have q := Heap.get?_update_self (Obj.mapSeq (·.push (Value.ref s.heap.objs.size))) hS' rfl
      apply Exists.intro
      rw [show ((bs ++ [s.heap.objs.size]).map Value.ref).toArray = (bs.map Value.ref).toArray.push (.ref s.heap.objs.size) from by simp]
      exact q
    · rw [List.length_append, lb]; rfl
    · intro j b e
      rw [List.getElem?_append] at e
      have key : ∀ {x : Addr} {vs : List Value}, x ≠ S → TupV h' x vs → TupV (h'.update S (Obj.mapSeq (·.push (Value.ref s.heap.objs.size)))) x vs := fun nx e => (Heap.get?_update_other _ _ (Ne.symm nx)).trans e
      have sz : (h'.update S (Obj.mapSeq (·.push (Value.ref s.heap.objs.size)))).objs.size = s.heap.objs.size + 1 := (Heap.SameBut.update ..).1.trans hs'
      split at e
      · obtain ⟨⟨b1, b2, b3, b4⟩, b5, b6⟩ := hb j b e
        refine ⟨⟨key (fun q => ?_) (hm _ _ b3 b4 b2 b1), b2, b3, b4⟩, b5, Nat.lt_of_lt_of_eq (Nat.lt_succ_of_lt b6) sz.symm⟩
        rw [q] at b1
        have b1' : s.heap.get? S = some _ := b1
        rw [hS] at b1'
        have := congrArg (fun o : Option Obj => o.map (·.cls)) b1'
        exact absurd (Option.some.inj this) (show Value.type "list" ≠ Value.type "tuple" by decide)
      · have lj : j = bs.length := by
          have := (List.getElem?_eq_some_iff.mp e).1
          have l1 : [s.heap.objs.size].length = 1 := rfl
          omega
        subst lj
        rw [Nat.sub_self, List.getElem?_cons_zero] at e
        cases e
        rw [lb]
        exact ⟨⟨key (Nat.ne_of_gt sl) hT, nits, Nat.ne_of_gt zl, Nat.ne_of_gt tl⟩, hN, Nat.lt_of_lt_of_eq (Nat.lt_succ_self _) sz.symm⟩
    · have sz : (h'.update S (Obj.mapSeq (·.push (Value.ref s.heap.objs.size)))).objs.size = s.heap.objs.size + 1 := (Heap.SameBut.update ..).1.trans hs'
      exact Nat.le_trans hN (Nat.le_trans (Nat.le_succ _) (Nat.le_of_eq sz.symm))
    · intro x y b e1 e2
      have new : ∀ m, (bs ++ [s.heap.objs.size])[m]? = some b → (bs[m]? = some b ∧ b < s.heap.objs.size) ∨ (m = bs.length ∧ b = s.heap.objs.size) := fun m e => by
        rw [List.getElem?_append] at e
        split at e
        · exact .inl ⟨e, (hb m b e).2.2⟩
        · have lm : m = bs.length := by
            have := (List.getElem?_eq_some_iff.mp e).1
            have l1 : [s.heap.objs.size].length = 1 := rfl
            omega
          subst lm
          rw [Nat.sub_self, List.getElem?_cons_zero] at e
          exact .inr ⟨rfl, (Option.some.inj e).symm⟩
      rcases new x e1 with ⟨a1, a2⟩ | ⟨a1, a2⟩ <;> rcases new y e2 with ⟨c1, c2⟩ | ⟨c1, c2⟩
      · exact hU x y b a1 c1
      · rw [c2] at a2; exact absurd a2 (Nat.lt_irrefl _)
      · rw [a2] at c2; exact absurd c2 (Nat.lt_irrefl _)
      · rw [a1, c1]
    · intro c o c1 c2 c3 c4 e
      exact (Heap.get?_update_other _ _ (Ne.symm c4)).trans (hm _ _ c1 c2 c3 (hkp c o c1 c2 c3 c4 e))
    · exact hR

theorem wr_list_zip {E : Value → Shared → Prop} {s : Shared} {Q : Value → Shared → Prop} (hh : A.handled = none) (D : Za z TI TO its ts) (h0 : 0 < its.length) (hl : its.length = cols.length) (hc : ∀ c ∈ cols, c.size = n) (hsz : cols.length ≤ sizeLine)
    (hn : n ≤ sizeLine) (n0 : n ≠ 0) (hlt : its.length = ts.length) {old : List Value} (lo : old.length = its.length)
    (iz : IsZip s.heap z TI TO .none) (iI : TupV s.heap TI (its.map Value.ref)) (iO : TupV s.heap TO old) (iZ : Zn s.heap its ts cols fun _ => 0)
    (hQ : ∀ (h' : Heap) (bs : List Addr), LstV h' s.heap.objs.size (bs.map Value.ref) → bs.length = n → (∀ j b, bs[j]? = some b → TupV h' b (rowZ cols j) ∧ s.heap.objs.size ≤ b) →
      (∀ (i j : Nat) (b : Addr), bs[i]? = some b → bs[j]? = some b → i = j) →
      (∀ c o, c ≠ z → c ≠ TO → c ∉ its → s.heap.get? c = some o → h'.get? c = some o) → Q (.ref s.heap.objs.size) { s with heap := h' }) :
    wpAny (model prog w) A (call (.type "list") [.ref z]) Q E s := by
  have Z : ZSt z TI TO its ts cols 0 s.heap := ⟨iI, iZ, .inl ⟨rfl, iz, old, lo, iO⟩⟩
  have zl : z < s.heap.objs.size := Heap.lt_size iz
  have tl : TO < s.heap.objs.size := Heap.lt_size iO
  have nits : s.heap.objs.size ∉ its := fun m => by
    obtain ⟨j, hj⟩ := List.mem_iff_getElem?.mp m
    obtain ⟨t, c, _, _, ⟨o', q, _⟩, _⟩ := Z.2.1 j _ hj
    exact Nat.lt_irrefl _ (Heap.lt_size q)
  have nts : s.heap.objs.size ∉ ts := fun m => by
    obtain ⟨j, hj⟩ := List.mem_iff_getElem?.mp m
    have lj : j < its.length := by have := (List.getElem?_eq_some_iff.mp hj).1; omega
    obtain ⟨t, c, e1, _, _, ⟨o', q, _⟩⟩ := Z.2.1 j its[j] (List.getElem?_eq_getElem lj)
    rw [hj] at e1
    cases e1
    exact Nat.lt_irrefl _ (Heap.lt_size q)
  refine callType_codes (Q₁ := fun obj s₁ => obj = .ref s.heap.objs.size ∧ s₁ = { s with heap := s.heap.push { cls := .type "list", data := .seq #[] } }) F.called_list (F.typeCall_list_1 _) F.entry_list_init
    (code_list_new _ ⟨rfl, rfl⟩) fun obj s₁ h₁ => ?_
  obtain ⟨rfl, rfl⟩ := h₁
  have hS : (s.heap.push { cls := .type "list", data := .seq #[] }).get? s.heap.objs.size = some { cls := .type "list", data := .seq #[] } := Heap.get?_push_size _ rfl
  refine ⟨⟨_, hS, rfl⟩, F.args_list_init_2 _ _, ?_⟩
  generalize hS0 : s.heap.objs.size = S at *
  have Z1 : ZSt z TI TO its ts cols 0 (s.heap.push { cls := .type "list", data := .seq #[] }) :=
    ⟨Heap.get?_push_of_some _ iI, iZ.keep fun b o _ e => Heap.get?_push_of_some _ e, .inl ⟨rfl, Heap.get?_push_of_some _ iz, old, lo, Heap.get?_push_of_some _ iO⟩⟩
  show wpAny _ A.in1.in1 (Builtin.List.listItems (.ref S) >>= _) _ _ _
  refine wpAny_bind ?_
  unfold Builtin.List.listItems
  refine wpAny_bind (wpAny_seqItems hS rfl (wpAny_pure ?_))
  show wpAny _ A.in1.in1 (updateSeq S (fun _ => #[]) >>= _) _ _ _
  refine wpAny_bind (wpAny_updateSeq hS rfl ?_)
  have hS₂ := Heap.get?_update_self (Obj.mapSeq (fun _ => (#[] : Array Value))) hS rfl
  refine wpAny_bind (wpAny_letGo ?_)
  unfold Builtin.List.listExtendWith
  have Z2 : ZSt z TI TO its ts cols 0 ((s.heap.push { cls := .type "list", data := .seq #[] }).update S (Obj.mapSeq (fun _ => (#[] : Array Value)))) :=
    Z1.keep hS (show Value.type "list" ≠ Value.type "tuple" by decide) nits (Ne.symm (Nat.ne_of_lt zl)) nts fun b o nb e => (Heap.get?_update_other _ _ (Ne.symm nb)).trans e
  obtain ⟨oz, hoz, hcz⟩ := Z2.isZip
  refine wpAny_bind (wpAny_typeOf (show Shared.TypeIs _ (.ref z) "zip" from ⟨oz, hoz, hcz⟩) ?_)
  have h1 : Builtin.List.listSameRef (.ref S) (.ref z) = false := by simp [Builtin.List.listSameRef, Ne.symm (Nat.ne_of_lt zl)]
  have h2 : (Value.type "zip" == Value.type "list") = false := by decide
  have h3 : (Value.type "zip" == Value.type "tuple") = false := by decide
  simp only [h1, h2, h3, Bool.or_false, Bool.false_eq_true, if_false]
  have iz2 : IsZip ((s.heap.push { cls := .type "list", data := .seq #[] }).update S (Obj.mapSeq (fun _ => (#[] : Array Value)))) z TI TO .none :=
    (Heap.get?_update_other _ _ (Nat.ne_of_gt zl)).trans (Heap.get?_push_of_some _ iz)
  refine wpAny_bind (wpAny_pyIter_zip iz2 ?_)
  refine wpAny_bind (wpAny_holding ?_)
  unfold Builtin.List.listLengthHint
  refine wpAny_bind (wpAny_specialOf (show Shared.TypeIs _ (.ref z) "zip" from ⟨oz, hoz, hcz⟩) zip_no_len ?_)
  show wpAny _ _ (specialOf (Value.ref z) (Str.ofString "__length_hint__") >>= _) _ _ _
  refine wpAny_bind (wpAny_specialOf (show Shared.TypeIs _ (.ref z) "zip" from ⟨oz, hoz, hcz⟩) zip_no_hint ?_)
  refine wpAny_pure ?_
  show wpAny _ _ (rule "list.extend.makes-room" >>= fun _ => Builtin.List.listTouch (.ref S) >>= fun _ =>
    again (.builtin "list.extend.loop" ⟨[.ref S, .ref z, .none], []⟩)) _ _ _
  refine wpAny_bind (wpAny_rule (wpAny_bind ?_))
  show wpAny _ _ (updateSeq S (·.push .none) >>= fun _ => updateSeq S (·.pop)) _ _ _
  refine wpAny_bind (wpAny_updateSeq hS₂ rfl ?_)
  have hS₃ := Heap.get?_update_self (Obj.mapSeq (·.push Value.none)) hS₂ rfl
  refine wpAny_updateSeq (hz := by seq_fits) hS₃ rfl ?_
  have hS₄ := Heap.get?_update_self (Obj.mapSeq (·.pop)) hS₃ rfl
  have oth : ∀ b o, b ≠ S → s.heap.get? b = some o → ((((s.heap.push { cls := .type "list", data := .seq #[] }).update S (Obj.mapSeq (fun _ => (#[] : Array Value)))).update S (Obj.mapSeq (·.push Value.none))).update S (Obj.mapSeq (·.pop))).get? b = some o :=
    fun b o hb e => (Heap.get?_update_other _ _ (Ne.symm hb)).trans ((Heap.get?_update_other _ _ (Ne.symm hb)).trans ((Heap.get?_update_other _ _ (Ne.symm hb)).trans (Heap.get?_push_of_some _ e)))
  obtain ⟨c4, e4⟩ : ∃ c, ((((s.heap.push { cls := .type "list", data := .seq #[] }).update S (Obj.mapSeq (fun _ => (#[] : Array Value)))).update S (Obj.mapSeq (·.push Value.none))).update S (Obj.mapSeq (·.pop))).get? S = some { cls := .type "list", dict := none, data := .seq #[] c, slots := #[] } := ⟨_, hS₄⟩
  refine wpAny_pure ⟨plainId_quiet F.plain_extend_loop _, ?_⟩
  clear hS₄ hS₃ hS₂
  show codeAny _ _ _ _ { s with heap := ((((s.heap.push { cls := .type "list", data := .seq #[] }).update S (Obj.mapSeq (fun _ => (#[] : Array Value)))).update S (Obj.mapSeq (·.push Value.none))).update S (Obj.mapSeq (·.pop))) }
  generalize ((((s.heap.push { cls := .type "list", data := .seq #[] }).update S (Obj.mapSeq (fun _ => (#[] : Array Value)))).update S (Obj.mapSeq (·.push Value.none))).update S (Obj.mapSeq (·.pop))) = h4 at *
  have b4 : ∀ {b : Addr} {o : Obj}, s.heap.get? b = some o → h4.get? b = some o := fun {b o} e => oth b o (by rw [← hS0]; exact Nat.ne_of_lt (Heap.lt_size e)) e
  refine wr_zip_loop (prog := prog) (w := w) (A := A.in1) hh D h0 hl hc hsz hn n0 nits (Nat.ne_of_gt zl) nts (Nat.ne_of_gt tl) .none (N0 := S) s.heap n 0 { s with heap := h4 } ([] : List Addr) rfl (Nat.zero_le _) ?_ ?_ ⟨c4, e4⟩ rfl (fun j b e => by cases e) (Nat.le_of_lt (Heap.lt_size e4)) (fun i j b e => by cases e) ?_ fun h' bs x1 x2 x3 x5 x4 => ?_
  · exact ⟨b4 iI, iZ.keep fun b o _ e => b4 e, .inl ⟨rfl, b4 iz, old, lo, b4 iO⟩⟩
  · exact Heap.lt_size (b4 iO)
  · exact fun c o _ _ _ _ e => b4 e
  · exact ⟨rfl, hQ h' bs x1 x2 x3 x5 fun c o c1 c2 c3 e => x4 c o c1 c2 c3 (by rw [← hS0]; exact Nat.ne_of_lt (Heap.lt_size e)) e⟩
end
end PySem

namespace PySem
open Sem (wp)
theorem F.wr_typeCall_zip1 (a : Value) : checkTypeCall "zip" ⟨[a], []⟩ = pure () := by kernel_rfl
theorem F.wr_newCall_zip1 (a : Value) : checkBuiltinCall "zip.__new__" ⟨[.type "zip", a], []⟩ = pure () := by kernel_rfl
abbrev wzT (h : Heap) (o1 : Obj) : Heap := (h.push o1).push { cls := .type "tuple", data := .seq #[.ref h.objs.size] }
abbrev wzO (h : Heap) (o1 : Obj) : Heap := (wzT h o1).push { cls := .type "tuple", data := .seq #[.none] }
abbrev wzZ (h : Heap) (o1 : Obj) : Heap := (wzO h o1).push { cls := .type "zip", data := .fields #[.none, .bool false, .bool false, .ref (h.push o1).objs.size, .ref (wzT h o1).objs.size] }
theorem wr_meets_zip1 {v : Value} {o1 : Obj} {H1 : Heap → Prop} (B : Begins v o1 H1) :
    Meets (Builtin.«zip.__new__» ⟨[.type "zip", v], []⟩) (fun _ R s => H1 s.heap ∧
      R (.ok (.ret (.ref (wzO s.heap o1).objs.size))) { s with heap := wzZ s.heap o1 }) :=
  .of_wp fun prog w A R s h => by
    obtain ⟨hp, g, d, tk, os⟩ := s; obtain ⟨h1, h⟩ := h
    have hsub := sub_zip
    have q1 : ∀ {A' : Around} {E : Value → Shared → Prop} {Q : Value → Shared → Prop}, Q (.ref hp.objs.size) ⟨hp.push o1, g, d, tk, os⟩ → wpAny (model prog w) A' (pyIter v) Q E ⟨hp, g, d, tk, os⟩ :=
      fun q => B.iter prog w _ _ ⟨hp, g, d, tk, os⟩ _ h1 q
    wp_walk using q1
    exact ⟨_, rfl, h⟩
section
variable {prog : Program} {w : World} {A : Around} {E : Value → Shared → Prop} {s : Shared}
/-- where a new zip of these tuples stands -/
def ZNew (s : Shared) (ts : List Addr) (cols : List (Array Value)) (Q : Value → Shared → Prop) : Prop :=
  ∀ h', IsZip h' (s.heap.objs.size + ts.length + 2) (s.heap.objs.size + ts.length) (s.heap.objs.size + ts.length + 1) .none →
    TupV h' (s.heap.objs.size + ts.length) (((List.range ts.length).map fun j => s.heap.objs.size + j).map Value.ref) →
    TupV h' (s.heap.objs.size + ts.length + 1) (ts.map fun _ => Value.none) →
    Zn h' ((List.range ts.length).map fun j => s.heap.objs.size + j) ts cols (fun _ => 0) →
    (∀ c o, s.heap.get? c = some o → h'.get? c = some o) → Q (.ref (s.heap.objs.size + ts.length + 2)) { s with heap := h' }
theorem wr_zip1 {t1 : Addr} {c1 : Array Value} {Q : Value → Shared → Prop} (h1 : s.heap.IsTuple t1 c1) (h : ZNew s [t1] [c1] Q) :
    wpAny (model prog w) A (call (.type "zip") [.ref t1]) Q E s := by
  refine callType_new F.called_zip (by decide) (F.wr_typeCall_zip1 _) (F.wr_newCall_zip1 _) (fun obj => F.args_object_init_2 obj _) F.entry_zip_new
    (wr_meets_zip1 (begins_tuple t1 c1)) ⟨h1, ?_⟩
  generalize ho1 : ({ cls := .type "tuple_iterator", data := .fields #[.ref t1, .int 0 0] } : Obj) = o1
  have hf : o1.isFreed = false := by rw [← ho1]; rfl
  have z1 : (s.heap.push o1).objs.size = s.heap.objs.size + 1 := by rw [Heap.size_push]
  have zT : (wzT s.heap o1).objs.size = s.heap.objs.size + 2 := by rw [Heap.size_push, z1]
  have zO : (wzO s.heap o1).objs.size = s.heap.objs.size + 3 := by rw [Heap.size_push, zT]
  have gZ : (wzZ s.heap o1).get? (wzO s.heap o1).objs.size = some { cls := .type "zip", data := .fields #[.none, .bool false, .bool false, .ref (s.heap.push o1).objs.size, .ref (wzT s.heap o1).objs.size] } := Heap.get?_push_size _ rfl
  have gO : (wzZ s.heap o1).get? (wzT s.heap o1).objs.size = some { cls := .type "tuple", data := .seq #[.none] } := Heap.get?_push_of_some _ (Heap.get?_push_size _ rfl)
  have gT : (wzZ s.heap o1).get? (s.heap.push o1).objs.size = some { cls := .type "tuple", data := .seq #[.ref s.heap.objs.size] } := Heap.get?_push_of_some _ (Heap.get?_push_of_some _ (Heap.get?_push_size _ rfl))
  have g1 : (wzZ s.heap o1).get? s.heap.objs.size = some o1 := Heap.get?_push_of_some _ (Heap.get?_push_of_some _ (Heap.get?_push_of_some _ (Heap.get?_push_size _ hf)))
  have up : ∀ c o, s.heap.get? c = some o → (wzZ s.heap o1).get? c = some o := fun c o e => Heap.get?_push_of_some _ (Heap.get?_push_of_some _ (Heap.get?_push_of_some _ (Heap.get?_push_of_some _ e)))
  rw [zO, zT, z1] at gZ
  rw [zT] at gO
  rw [z1] at gT
  show _ ∧ _
  rw [zO]
  refine ⟨⟨_, gZ, rfl⟩, h _ gZ gT gO (fun j a e => ?_) up⟩
  match j, e with
  | 0, e =>
    cases e
    subst ho1
    exact ⟨t1, c1, rfl, rfl, ⟨_, g1, rfl, rfl⟩, h1.at fun o e => up _ _ e⟩
theorem wr_zip2 {t1 t2 : Addr} {c1 c2 : Array Value} {Q : Value → Shared → Prop} (h1 : s.heap.IsTuple t1 c1) (h2 : s.heap.IsTuple t2 c2) (h : ZNew s [t1, t2] [c1, c2] Q) :
    wpAny (model prog w) A (call (.type "zip") [.ref t1, .ref t2]) Q E s := by
  refine zip_begins2 (begins_tuple t1 c1) (begins_tuple t2 c2) h1 h2 fun h' gZ gT gO g1 g2 _ up => ?_
  refine h _ gZ gT gO (fun j a e => ?_) up
  match j, e with
  | 0, e => cases e; exact ⟨t1, c1, rfl, rfl, ⟨_, g1, rfl, rfl⟩, h1.at fun o e => up _ _ e⟩
  | 1, e => cases e; exact ⟨t2, c2, rfl, rfl, ⟨_, g2, rfl, rfl⟩, h2.at fun o e => up _ _ e⟩
theorem wr_zip3 {t1 t2 t3 : Addr} {c1 c2 c3 : Array Value} {Q : Value → Shared → Prop} (h1 : s.heap.IsTuple t1 c1) (h2 : s.heap.IsTuple t2 c2) (h3 : s.heap.IsTuple t3 c3) (h : ZNew s [t1, t2, t3] [c1, c2, c3] Q) :
    wpAny (model prog w) A (call (.type "zip") [.ref t1, .ref t2, .ref t3]) Q E s := by
  refine zip_begins3 (begins_tuple t1 c1) (begins_tuple t2 c2) (begins_tuple t3 c3) h1 h2 h3 fun h' gZ gT gO g1 g2 g3 _ up => ?_
  refine h _ gZ gT gO (fun j a e => ?_) up
  match j, e with
  | 0, e => cases e; exact ⟨t1, c1, rfl, rfl, ⟨_, g1, rfl, rfl⟩, h1.at fun o e => up _ _ e⟩
  | 1, e => cases e; exact ⟨t2, c2, rfl, rfl, ⟨_, g2, rfl, rfl⟩, h2.at fun o e => up _ _ e⟩
  | 2, e => cases e; exact ⟨t3, c3, rfl, rfl, ⟨_, g3, rfl, rfl⟩, h3.at fun o e => up _ _ e⟩
/-- list(zip(*ts)) for one to three tuples -/
theorem wr_listZip {ts : List Addr} {cols : List (Array Value)} {n : Nat} {Q : Value → Shared → Prop} (hh : A.handled = none) (hl : ts.length = cols.length) (h1 : 1 ≤ ts.length) (h3 : ts.length ≤ 3)
    (ht : ∀ (j : Nat) (t : Addr) (c : Array Value), ts[j]? = some t → cols[j]? = some c → s.heap.IsTuple t c) (hc : ∀ c ∈ cols, c.size = n) (hn : n ≤ sizeLine) (n0 : n ≠ 0)
    (hQ : ∀ (h' : Heap) (S : Addr) (bs : List Addr), s.heap.objs.size ≤ S → LstV h' S (bs.map Value.ref) → bs.length = n → (∀ j b, bs[j]? = some b → TupV h' b (rowZ cols j) ∧ s.heap.objs.size ≤ b) →
      (∀ (i j : Nat) (b : Addr), bs[i]? = some b → bs[j]? = some b → i = j) → (∀ c o, s.heap.get? c = some o → h'.get? c = some o) → Q (.ref S) { s with heap := h' }) :
    wpAny (model prog w) A (call (.type "zip") (ts.map Value.ref)) (fun z s' => wpAny (model prog w) A (call (.type "list") [z]) Q E s') E s := by
  have key : ZNew s ts cols (fun z s' => wpAny (model prog w) A (call (.type "list") [z]) Q E s') := by
    intro h' gZ gT gO gN up
    have old : ∀ t ∈ ts, t < s.heap.objs.size := fun t m => by
      obtain ⟨j, hj⟩ := List.mem_iff_getElem?.mp m
      have lj : j < cols.length := by have := (List.getElem?_eq_some_iff.mp hj).1; (try unfold Addr at *); omega
      obtain ⟨o, e, _⟩ := ht j t cols[j] hj (List.getElem?_eq_getElem lj)
      exact Heap.lt_size e
    have mits : ∀ a, a ∈ ((List.range ts.length).map fun j => s.heap.objs.size + j) → s.heap.objs.size ≤ a ∧ a < s.heap.objs.size + ts.length := fun a m => by
      obtain ⟨j, hj, rfl⟩ := List.mem_map.mp m
      have := List.mem_range.mp hj
      exact ⟨Nat.le_add_right .., Nat.add_lt_add_left this _⟩
    have D : Za (s.heap.objs.size + ts.length + 2) (s.heap.objs.size + ts.length) (s.heap.objs.size + ts.length + 1) ((List.range ts.length).map fun j => s.heap.objs.size + j) ts := by
      refine ⟨fun i j a e1 e2 => ?_, fun m => ?_, fun m => ?_, fun m => ?_, by (try unfold Addr at *); omega, by (try unfold Addr at *); omega, by (try unfold Addr at *); omega, fun t m m2 => ?_, fun m => ?_, fun m => ?_⟩
      · rw [List.getElem?_map] at e1 e2
        obtain ⟨x, hx, rfl⟩ := Option.map_eq_some_iff.mp e1
        obtain ⟨y, hy, e⟩ := Option.map_eq_some_iff.mp e2
        obtain ⟨lx, ex⟩ := List.getElem?_eq_some_iff.mp hx
        obtain ⟨ly, ey⟩ := List.getElem?_eq_some_iff.mp hy
        rw [List.getElem_range] at ex ey
        (try unfold Addr at *); omega
      · have := mits _ m; (try unfold Addr at *); omega
      · have := mits _ m; (try unfold Addr at *); omega
      · have := mits _ m; (try unfold Addr at *); omega
      · have := mits _ m2; have := old _ m; (try unfold Addr at *); omega
      · have := old _ m; (try unfold Addr at *); omega
      · have := old _ m; (try unfold Addr at *); omega
    have li : ((List.range ts.length).map fun j => s.heap.objs.size + j).length = ts.length := by rw [List.length_map, List.length_range]
    refine wr_list_zip (s := { s with heap := h' }) (n := n) hh D (by (try unfold Addr at *); omega) (by (try unfold Addr at *); omega) hc (Nat.le_trans (by (try unfold Addr at *); omega) (show 3 ≤ sizeLine by decide)) hn n0 li (old := ts.map fun _ => Value.none) (by rw [List.length_map, li]) gZ gT gO gN fun h'' bs b1 b2 b3 b5 b4 => ?_
    have hs : s.heap.objs.size ≤ h'.objs.size := Nat.le_of_lt (Nat.lt_of_le_of_lt (by (try unfold Addr at *); omega) (Heap.lt_size gZ))
    refine hQ h'' _ bs ?_ b1 b2 (fun j b e => ⟨(b3 j b e).1, Nat.le_trans hs (b3 j b e).2⟩) b5 fun c o e => ?_
    · exact hs
    · have lc := Heap.lt_size e
      exact b4 c o (by (try unfold Addr at *); omega) (by (try unfold Addr at *); omega) (fun m => by have := mits _ m; (try unfold Addr at *); omega) (up c o e)
  match ts, cols, hl, h1, h3, ht, key with
  | [t1], [c1], _, _, _, ht, key => exact wr_zip1 (ht 0 _ _ rfl rfl) key
  | [t1, t2], [c1, c2], _, _, _, ht, key => exact wr_zip2 (ht 0 _ _ rfl rfl) (ht 1 _ _ rfl rfl) key
  | [t1, t2, t3], [c1, c2, c3], _, _, _, ht, key => exact wr_zip3 (ht 0 _ _ rfl rfl) (ht 1 _ _ rfl rfl) (ht 2 _ _ rfl rfl) key
end
end PySem

/-! list(zip(*tuples)) -/
namespace Wr
open PySem PySem.Spec PyProof.Rows L2
section
variable {X : Cx} {pins : List (Addr × Obj)} {σ : L2.St} {H H' : Hp} {s : Shared} {h' : Heap}
/-- several new objects laid and tracked at once -/
theorem Inv_many (I : Inv X pins σ H s) (k : ∀ b u, s.heap.get? b = some u → h'.get? b = some u) (hs : Same H H')
    (hn : ∀ a o, H' a = some o → H a = some o ∨ (s.heap.get? a = none ∧ H a = none ∧ ObjOk X.prog X.w H' h' a o)) :
    Inv X pins σ H' { s with heap := h' } := by
  refine I.un (t' := s.toks) ⟨fun b o e _ _ _ => k b o e, fun b o e _ _ _ => ⟨o.slots, k b o e⟩, fun b o e n _ => ?_, fun b o e _ => ⟨o, k b o e⟩, fun b xs e => hs _ _ e, fun b o u e => hs _ _ e, fun b ps e => ⟨#[], by rw [hs _ _ e]; simp⟩⟩ fun a o e => ?_
  · cases q : H' b with
    | none => rfl
    | some u =>
      rcases hn b u q with x | ⟨x, _⟩
      · rw [n] at x; cases x
      · rw [e] at x; cases x
  · rcases hn a o e with x | ⟨_, _, x⟩
    · exact (I.hok a o x).stay (fun b u _ q => k b u q) (fun b q => hs _ _ q) fun b xs q => hs _ _ q
    · exact x
theorem cols_of {K : PySem.W.Frag} (I : Inv X pins σ H s) (hK : X.K = K) : ∀ (ts : List Addr) (rows : List (List V)), ts.length = rows.length →
    (∀ (j : Nat) t r, ts[j]? = some t → rows[j]? = some r → SqT K H t r) →
    ∃ cols : List (Array Value), cols.length = ts.length ∧ ∀ (j : Nat) t r c, ts[j]? = some t → rows[j]? = some r → cols[j]? = some c →
      Vals r c.toList ∧ s.heap.IsTuple t c
  | [], [], _, _ => ⟨[], rfl, fun j t r c e => by cases e⟩
  | t :: ts, r :: rows, hl, h => by
    subst hK
    obtain ⟨cols, lc, hc⟩ := cols_of I rfl ts rows (by simpa using hl) fun j t' r' e1 e2 => h (j + 1) t' r' (by rw [List.getElem?_cons_succ]; exact e1) (by rw [List.getElem?_cons_succ]; exact e2)
    obtain ⟨its, rv, p, _⟩ := I.tuple (h 0 t r rfl rfl)
    refine ⟨its.toArray :: cols, by simp [lc], fun j t' r' c e1 e2 e3 => ?_⟩
    cases j with
    | zero =>
      cases e1; cases e2; cases e3
      exact ⟨rv, p⟩
    | succ j =>
      rw [List.getElem?_cons_succ] at e1 e2 e3
      exact hc j t' r' c e1 e2 e3
  | [], r :: rows, hl, _ => by simp at hl
  | t :: ts, [], hl, _ => by simp at hl
def rowV (rows : List (List V)) (i : Nat) : List V := rows.map fun r => r.getD i .non
def tLZ (K : PySem.W.Frag) (te : TE) : TE := fun σ H Q => te σ H fun x H1 => ∃ (a : Addr) (ts : List Addr) (rows : List (List V)) (n : Nat),
  x = .ref a ∧ SqT K H1 a (ts.map V.ref) ∧ ts.length = rows.length ∧ 1 ≤ ts.length ∧ ts.length ≤ 3 ∧
  (∀ (j : Nat) t r, ts[j]? = some t → rows[j]? = some r → SqT K H1 t r) ∧ (∀ r ∈ rows, r.length = n) ∧ n ≠ 0 ∧ n ≤ sizeLine ∧
  ∀ (H' : Hp) (S : Addr) (bs : List Addr), Same H1 H' → H1 S = none → H' S = some (.lst (bs.map V.ref)) → bs.length = n →
    (∀ (i : Nat) b, bs[i]? = some b → H' b = some (.tup (rowV rows i))) → Q (.ref S) H'
theorem vals_refs : ∀ {ts : List Addr} {us : List Value}, Vals (ts.map V.ref) us → us = ts.map Value.ref
  | [], _, .nil => rfl
  | t :: ts, _, .cons a r => by
    have e : _ = Value.ref t := a
    rw [vals_refs (ts := ts) r, e]
    rfl
theorem vals_ofRefs : ∀ ts : List Addr, Vals (ts.map V.ref) (ts.map Value.ref)
  | [] => .nil
  | t :: ts => .cons rfl (vals_ofRefs ts)
theorem vals_row {n i : Nat} (hi : i < n) : ∀ {rows : List (List V)} {cols : List (Array Value)}, rows.length = cols.length →
    (∀ (j : Nat) r c, rows[j]? = some r → cols[j]? = some c → r.length = n ∧ Vals r c.toList) → Vals (rowV rows i) (PySem.rowZ cols i)
  | [], [], _, _ => .nil
  | r :: rows, c :: cols, hl, h => by
    obtain ⟨ln, rv⟩ := h 0 r c rfl rfl
    have lc := rv.length
    refine .cons ?_ (vals_row hi (by simpa using hl) fun j r' c' e1 e2 => h (j + 1) r' c' (by rw [List.getElem?_cons_succ]; exact e1) (by rw [List.getElem?_cons_succ]; exact e2))
    have e : r[i]? = some (r.getD i .non) := by
      rw [List.getD_eq_getElem?_getD]
      rw [List.getElem?_eq_getElem (by omega)]
      rfl
    obtain ⟨u, hu, ru⟩ := rv.get e
    have hu' : c[i]? = some u := by rw [← Array.getElem?_toList]; exact hu
    have hc : c.getD i .none = u := by rw [Array.getD_eq_getD_getElem?, hu']; rfl
    show L2.RelV (r.getD i .non) (c.getD i .none)
    rw [hc]
    exact ru
  | [], c :: cols, hl, _ => by simp at hl
  | r :: rows, [], hl, _ => by simp at hl
theorem pe_listZip {K : PySem.W.Frag} {e : Expr} {te : TE} {p1 p2 sp pos1 pos2 : Pos} (hK : X.K = K) (hc : X.calm = true) (he : PE X e te)
    (hg1 : Gl X "list") (hm1 : X.mg "list" = none) (hg2 : Gl X "zip") (hm2 : X.mg "zip" = none)
    (hst : starEach [.Starred e sp] X.env = [(true, eval e X.env)] := by rfl) :
    PE X (.Call (.Name "list" p1) [.Call (.Name "zip" p2) [.Starred e sp] [] pos2] [] pos1) (tLZ K te) := by
  subst hK
  refine ⟨fun pins s σ H Q I h => ?_⟩
  refine wpAny_Call_Name_kw (ld_blt I hg1 hm1 (by rfl) ?_ (by decide) (by decide))
  refine PyProof.Rows.callWith_type1 ?_ (by rfl) (by rfl)
  show wpAny _ _ (spliced [(false, _)]) _ _ s
  refine Calls.spliced_cons ?_
  refine wpAny_mono (E := X.xe) ?_ (fun v s1 h1 => Calls.spliced_nil h1) fun _ _ z => z
  show wpAny _ _ (eval (.Call (.Name "zip" p2) [.Starred e sp] [] pos2) X.env) _ _ s
  refine wpAny_Call_Name_kw (ld_blt I hg2 hm2 (by rfl) ?_ (by decide) (by decide))
  rw [hst]
  refine PySem.W.ks_call (P := fun _ => True) rfl (fun h _ => ⟨.machine, .inr (.inl rfl), PySem.W.Looks.now⟩) (PySem.W.ks_lone (thn (he.run pins s σ H _ I h) fun v s1 ⟨y, H1, I1, ry, a, ts, rows, n, ey, hxs, hl, l1, l3, hrow, hlen, n0, hn, q⟩ => ?_))
  subst ey
  obtain rfl : v = Value.ref a := ry
  refine StX.star_any I1 (.inl hxs) fun us s2 I2 rv => ⟨trivial, ?_⟩
  obtain rfl := vals_refs rv
  obtain ⟨cols, lc, hcol⟩ := cols_of I2 rfl ts rows hl hrow
  have lrc : rows.length = cols.length := hl.symm.trans lc.symm
  have rows_at : ∀ (j : Nat) (c : Array Value), cols[j]? = some c → ∃ t r, ts[j]? = some t ∧ rows[j]? = some r := fun j c e => by
    have lj := (List.getElem?_eq_some_iff.mp e).1
    exact ⟨_, _, List.getElem?_eq_getElem (by omega), List.getElem?_eq_getElem (by omega)⟩
  refine wpAny_mono (PySem.wr_listZip (A := X.A) (E := X.xe) (ts := ts) (cols := cols) (n := n) (Q := EP X pins σ Q) (I2.ok.hd hc) lc.symm l1 l3 (fun j t c e1 e2 => ?_) (fun c m => ?_) hn n0 fun h' S bs b0 b1 b2 b3 b5 b4 => ?_) (fun _ _ z => z) fun _ _ z => z
  · obtain ⟨t', r, x1, x2⟩ := rows_at j c e2
    exact (hcol j t r c e1 x2 e2).2
  · obtain ⟨j, hj⟩ := List.mem_iff_getElem?.mp m
    obtain ⟨t, r, x1, x2⟩ := rows_at j c hj
    have := (hcol j t r c x1 x2 hj).1.length
    have l := hlen r (List.mem_of_getElem? x2)
    rw [← Array.length_toList]
    omega
  · classical
    have nS : H1 S = none := I2.hok.fresh b0
    have nb : ∀ (i : Nat) b, bs[i]? = some b → H1 b = none := fun i b e => I2.hok.fresh (b3 i b e).2
    have sS : s2.heap.get? S = none := Heap.get?_none_of_le b0
    obtain ⟨cS, eS⟩ := b1
    have Sb : ∀ (i : Nat) b, bs[i]? = some b → b ≠ S := fun i b e z => by
      have t := (b3 i b e).1
      rw [z] at t
      have t' : h'.get? S = some _ := t
      rw [eS] at t'
      exact absurd (congrArg Obj.cls (Option.some.inj t')) (show Value.type "list" ≠ Value.type "tuple" by decide)
    let H' : Hp := fun a => if a = S then some (.lst (bs.map V.ref)) else
      if h : ∃ i : Nat, bs[i]? = some a then some (.tup (rowV rows h.choose)) else H1 a
    have HS : H' S = some (.lst (bs.map V.ref)) := if_pos rfl
    have Hb : ∀ (i : Nat) b, bs[i]? = some b → H' b = some (.tup (rowV rows i)) := fun i b e => by
      show (if b = S then _ else _) = _
      rw [if_neg (Sb i b e)]
      have hx : ∃ i : Nat, bs[i]? = some b := ⟨i, e⟩
      rw [dif_pos hx, b5 _ _ b hx.choose_spec e]
    have Ho : ∀ b, b ≠ S → (∀ i : Nat, bs[i]? ≠ some b) → H' b = H1 b := fun b h1 h2 => by
      show (if b = S then _ else _) = _
      rw [if_neg h1, dif_neg fun ⟨i, e⟩ => h2 i e]
    have sm : Same H1 H' := fun b o e => by
      rw [Ho b (fun z => by rw [z, nS] at e; cases e) (fun i z => by rw [nb i b z] at e; cases e)]
      exact e
    refine ⟨V.ref S, H', Inv_many I2 b4 sm fun b o e => ?_, rfl, q H' S bs sm nS HS b2 Hb⟩
    by_cases zS : b = S
    · subst zS
      rw [HS] at e
      cases e
      refine .inr ⟨sS, nS, ?_⟩
      exact ⟨by rw [List.length_map]; omega, bs.map Value.ref, cS, vals_ofRefs bs, eS⟩
    · by_cases zb : ∃ i : Nat, bs[i]? = some b
      · obtain ⟨i, hi⟩ := zb
        rw [Hb i b hi] at e
        cases e
        obtain ⟨t, le⟩ := b3 i b hi
        have li : i < n := by rw [← b2]; exact (List.getElem?_eq_some_iff.mp hi).1
        refine .inr ⟨Heap.get?_none_of_le le, nb i b hi, ?_, PySem.rowZ cols i, vals_row li lrc fun j r c e1 e2 => ⟨hlen r (List.mem_of_getElem? e1), ?_⟩, ⟨_, t, rfl, _, rfl⟩⟩
        · unfold rowV
          rw [List.length_map, ← hl]
          exact Nat.le_trans l3 (by decide)
        · obtain ⟨t', r', x1, x2⟩ := rows_at j c e2
          rw [e1] at x2
          cases x2
          exact (hcol j t' r c x1 e1 e2).1
      · rw [Ho b zS fun i z => zb ⟨i, z⟩] at e
        exact .inl e
end
end Wr

/-! partitions refined -/
namespace Wr
open PySem PySem.Spec PyProof.Rows L2
section
variable {α β : Type} [DecidableEq α] [DecidableEq β] {f : α → β}
theorem plc_map (hf : ∀ a b, f a = f b → a = b) (x : α) : ∀ l : List α, plc (f x) (l.map f) = plc x l
  | [] => rfl
  | y :: l => by
    rw [List.map_cons]
    simp only [plc]
    by_cases e : y = x
    · rw [if_pos e, if_pos (by rw [e])]
    · rw [if_neg e, if_neg (fun z => e (hf _ _ z)), plc_map hf x l]
theorem mem_mapI (hf : ∀ a b, f a = f b → a = b) {x : α} {l : List α} : f x ∈ l.map f ↔ x ∈ l := by
  refine ⟨fun h => ?_, fun h => List.mem_map_of_mem h⟩
  obtain ⟨y, m, e⟩ := List.mem_map.mp h
  rw [← hf _ _ e]
  exact m
theorem sn_map (hf : ∀ a b, f a = f b → a = b) (x : α) (l : List α) : sn (l.map f) (f x) = (sn l x).map f := by
  unfold sn
  by_cases h : x ∈ l
  · rw [if_pos h, if_pos ((mem_mapI hf).mpr h)]
  · rw [if_neg h, if_neg (fun z => h ((mem_mapI hf).mp z)), List.map_append]
    rfl
theorem canL_map (hf : ∀ a b, f a = f b → a = b) : ∀ (xs seen : List α), canL (seen.map f) (xs.map f) = canL seen xs
  | [], _ => rfl
  | x :: xs, seen => by
    rw [List.map_cons]
    simp only [canL]
    rw [sn_map hf, plc_map hf, canL_map hf xs]
end
def rowsI (cols : List (List Int)) : List (List Int) := (List.range (cols.headD []).length).map fun i => cols.map fun c => c.getD i 0
theorem rowsI_of {cols : List (List Int)} {n : Nat} (h0 : cols ≠ []) (h : ∀ c ∈ cols, c.length = n) :
    rowsI cols = (List.range n).map fun i => cols.map fun c => c.getD i 0 := by
  cases cols with
  | nil => exact absurd rfl h0
  | cons c cols =>
    unfold rowsI
    rw [List.headD_cons, h c (List.mem_cons_self ..)]
def rotL {α : Type} (l : List α) : List α := l.drop 1 ++ l.take 1
theorem rotL_inj {α : Type} (a b : List α) (h : rotL a = rotL b) : a = b := by
  cases a with
  | nil =>
    cases b with
    | nil => rfl
    | cons y b => have := congrArg List.length h; simp [rotL] at this
  | cons x a =>
    cases b with
    | nil => have := congrArg List.length h; simp [rotL] at this
    | cons y b =>
      have h' : a ++ [x] = b ++ [y] := h
      obtain ⟨h1, h2⟩ := List.append_inj' h' rfl
      rw [h1, (List.cons.inj h2).1]
theorem rowsI_rev {cols : List (List Int)} {n : Nat} (h0 : cols ≠ []) (h : ∀ c ∈ cols, c.length = n) :
    canL [] (rowsI cols.reverse) = canL [] (rowsI cols) := by
  rw [rowsI_of (n := n) (by simpa using h0) (fun c m => h c (List.mem_reverse.mp m)), rowsI_of h0 h]
  rw [show ((List.range n).map fun i => cols.reverse.map fun c => c.getD i 0) = ((List.range n).map fun i => cols.map fun c => c.getD i 0).map List.reverse from by
    rw [List.map_map]
    refine List.map_congr_left fun i _ => ?_
    show _ = List.reverse _
    rw [List.map_reverse]]
  exact canL_map (f := List.reverse) (fun a b e => List.reverse_inj.mp e) _ []
theorem rowsI_rot {cols : List (List Int)} {n : Nat} (h0 : cols ≠ []) (h : ∀ c ∈ cols, c.length = n) :
    canL [] (rowsI (rotL cols)) = canL [] (rowsI cols) := by
  rw [rowsI_of (n := n) (cols := rotL cols) (fun e => h0 (rotL_inj _ _ e)) (fun c m => h c ?_), rowsI_of h0 h]
  · rw [show ((List.range n).map fun i => (rotL cols).map fun c => c.getD i 0) = ((List.range n).map fun i => cols.map fun c => c.getD i 0).map rotL from by
      rw [List.map_map]
      refine List.map_congr_left fun i _ => ?_
      show _ = rotL _
      unfold rotL
      rw [List.map_append, List.map_drop, List.map_take]]
    exact canL_map (f := rotL) rotL_inj _ []
  · unfold rotL at m
    rcases List.mem_append.mp m with z | z
    · exact List.mem_of_mem_drop z
    · exact List.mem_of_mem_take z
theorem rowV_ints (cols : List (List Int)) (i : Nat) (h : ∀ c ∈ cols, i < c.length) :
    rowV (cols.map fun c => c.map V.int) i = (cols.map fun c => c.getD i 0).map V.int := by
  unfold rowV
  rw [List.map_map, List.map_map]
  refine List.map_congr_left fun c m => ?_
  have := h c m
  show (c.map V.int).getD i .non = V.int (c.getD i 0)
  rw [List.getD_eq_getElem?_getD, List.getElem?_map, List.getElem?_eq_getElem this, List.getD_eq_getElem?_getD, List.getElem?_eq_getElem this]
  rfl
/-- rows of labels, all of them valid: their numbers -/
theorem labs_cols : ∀ {ds : List PyData}, ds.all isLabD = true → ds = (ds.map numsD).map rowD
  | [], _ => rfl
  | d :: ds, h => by
    rw [List.all_cons, Bool.and_eq_true] at h
    obtain ⟨ns, rfl, _⟩ := isLab_form h.1
    rw [List.map_cons, List.map_cons, numsD_ints, ← labs_cols h.2]
    rfl
theorem alike_len {ds : List PyData} (h : alikeL ds = true) (hl : ds.all isLabD = true) :
    ds.map numsD ≠ [] ∧ ∃ n : Nat, 1 ≤ n ∧ n ≤ 12 ∧ ∀ c ∈ ds.map numsD, c.length = n := by
  cases ds with
  | nil => cases h
  | cons d ds =>
    have len : ∀ e, isLabD e = true → (numsD e).length = lenD e ∧ 1 ≤ lenD e ∧ lenD e ≤ 12 := fun e he => by
      obtain ⟨ns, rfl, h1, h2, _⟩ := isLab_form he
      rw [numsD_ints]
      refine ⟨?_, ?_, ?_⟩
      · show ns.length = (ns.map PyData.int).length
        rw [List.length_map]
      · show 1 ≤ (ns.map PyData.int).length
        rw [List.length_map]; exact h1
      · show (ns.map PyData.int).length ≤ 12
        rw [List.length_map]; exact h2
    have hd := len d (List.all_eq_true.mp hl d (List.mem_cons_self ..))
    refine ⟨by simp, lenD d, hd.2.1, hd.2.2, fun c m => ?_⟩
    obtain ⟨e, me, rfl⟩ := List.mem_map.mp m
    have h2 := List.all_eq_true.mp h e me
    rw [(len e (List.all_eq_true.mp hl e me)).1]
    simpa using h2
theorem DV.labRef {z : Prop} {B : Addr → Prop} {H : Hp} {v : V} {d : PyData} (h : DV z B H v d) (e : isLabD d = true) :
    ∃ t : Addr, v = .ref t ∧ H t = some (.tup ((numsD d).map V.int)) := by
  obtain ⟨ns, rfl, _⟩ := isLab_form e
  obtain ⟨a, xs, rfl, _, ea, hx⟩ := h.tupI
  obtain rfl := DVs.intsI hx
  exact ⟨a, rfl, by rw [numsD_ints]; exact ea⟩
theorem labs_refs {z : Prop} {B : Addr → Prop} {H : Hp} : ∀ {vs : List V} {ds : List PyData}, DVs z B H vs ds → ds.all isLabD = true →
    ∃ ts : List Addr, vs = ts.map V.ref ∧ ∀ (j : Nat) t c, ts[j]? = some t → (ds.map numsD)[j]? = some c → H t = some (.tup (c.map V.int))
  | _, _, .nil, _ => ⟨[], rfl, fun j t c e => by cases e⟩
  | _, _, .cons h t, e => by
    rw [List.all_cons, Bool.and_eq_true] at e
    obtain ⟨a, rfl, ea⟩ := h.labRef e.1
    obtain ⟨ts, rfl, hts⟩ := labs_refs t e.2
    refine ⟨a :: ts, rfl, fun j t c e1 e2 => ?_⟩
    cases j with
    | zero => cases e1; cases e2; exact ea
    | succ j => exact hts j t c e1 e2
def sp_refinedX (CI CM : Addr) : Sp := fun vs H Q E => ∃ (ds : List PyData) (z : Prop) (B : Addr → Prop), DVs z B H vs ds ∧ ds.length ≤ 3 ∧
  (∀ H', Same H H' → ds.all isLabD = false → E (.ref CI) none H') ∧
  (∀ H', Same H H' → ds.all isLabD = true → alikeL ds = false → E (.ref CM) none H') ∧
  (ds.all isLabD = true → alikeL ds = true → ∀ (p : Addr) (H' : Hp), Same H H' → H p = none →
    H' p = some (.tup ((canL [] (rowsI (ds.map numsD))).map V.int)) → Q (.ref p) H')
def sp_refinedIn (CI CM : Addr) : Sp := fun us H1 Q E => ∃ (p : Addr) (vs : List V) (H : Hp), us = [.ref p] ∧ H p = none ∧
  H1 = upd H p (.tup vs) ∧ sp_refinedX CI CM vs H Q E
theorem sp_refinedStart {CI CM : Addr} (vs : List V) (H : Hp) (Q : VK) (E : XK) (h : sp_refinedX CI CM vs H Q E) :
    vs.length ≤ sizeLine ∧ ∀ p, H p = none → sp_refinedIn CI CM [V.ref p] (upd H p (.tup vs)) Q E := by
  refine ⟨?_, fun p np => ⟨p, vs, H, rfl, np, rfl, h⟩⟩
  obtain ⟨ds, z, B, hx, hl, _⟩ := h
  rw [hx.length]
  exact Nat.le_of_lt (small1000 (by omega))
def sp_refRows : Sp := fun vs H Q _ => ∃ (L : Addr) (ws : List V) (ds : List PyData) (z : Prop) (B : Addr → Prop), vs = [.ref L] ∧
  H L = some (.lst ws) ∧ DVs z B H ws ds ∧ ds.length ≤ 3 ∧ ds.all isLabD = true ∧ alikeL ds = true ∧
  ∀ (p : Addr) (H' : Hp), Same H H' → H p = none → H' p = some (.tup ((canL [] (rowsI (ds.map numsD))).map V.int)) → Q (.ref p) H'
theorem len_two {α : Type} : ∀ {l : List α}, l.length = 2 → ∃ x y, l = [x, y]
  | [x, y], _ => ⟨x, y, rfl⟩
theorem len_three {α : Type} : ∀ {l : List α}, l.length = 3 → ∃ x y z, l = [x, y, z]
  | [x, y, z], _ => ⟨x, y, z, rfl⟩
section
variable {X : Cx} {K : PySem.W.Frag} {tg : Expr}
theorem pi_listK (h : X.K = K) {l : Expr} {tl : TE} (hl : PE X l tl) : PI X tg l (iList K tl) := by
  subst h
  exact pi_list hl
theorem pi_tupK (h : X.K = K) {l : Expr} {tl : TE} (hl : PE X l tl) : PI X tg l (iTup K tl) := by
  subst h
  exact pi_tup hl
end
theorem rows_refs {z : Prop} {B : Addr → Prop} {H : Hp} : ∀ {rows : List (List Int)} {xs : List V}, DVs z B H xs (rows.map rowD) →
    ∃ bs : List Addr, xs = bs.map V.ref ∧ bs.length = rows.length ∧ ∀ (i : Nat) b r, bs[i]? = some b → rows[i]? = some r → H b = some (.tup (r.map V.int))
  | [], _, .nil => ⟨[], rfl, rfl, fun i b r e => by cases e⟩
  | r :: rows, _, .cons h t => by
    obtain ⟨a, xs, rfl, _, ea, hx⟩ := DV.tupI (show DV z B H _ (.tuple (r.map PyData.int)) from h)
    obtain rfl := DVs.intsI hx
    obtain ⟨bs, rfl, lb, hb⟩ := rows_refs t
    refine ⟨a :: bs, rfl, by rw [List.length_cons, List.length_cons, lb], fun i b r' e1 e2 => ?_⟩
    cases i with
    | zero => cases e1; cases e2; exact ea
    | succ i => exact hb i b r' e1 e2
/-- rows of labels of n cases -/
structure LabRows (n : Nat) (ds : List PyData) : Prop where
  lab : ds.all isLabD = true
  len : ∀ d ∈ ds, (numsD d).length = n
theorem LabRows.nil {n : Nat} : LabRows n [] := ⟨rfl, fun d m => nomatch m⟩
theorem LabRows.snoc {n : Nat} {ds : List PyData} {d : PyData} (h : LabRows n ds) (hl : isLabD d = true) (hn : (numsD d).length = n) : LabRows n (ds ++ [d]) := by
  refine ⟨by rw [List.all_append, h.lab, List.all_cons, hl]; rfl, fun e m => ?_⟩
  rcases List.mem_append.mp m with z | z
  · exact h.len e z
  · rw [List.mem_singleton.mp z]; exact hn
theorem lab_numLen {d : PyData} (h : isLabD d = true) : (numsD d).length = lenD d := by
  obtain ⟨ns, rfl, _⟩ := isLab_form h
  rw [numsD_ints]
  exact (List.length_map ..).symm
theorem LabRows.alike {n : Nat} {ds : List PyData} (h : LabRows n ds) (h0 : ds ≠ []) : alikeL ds = true := by
  cases ds with
  | nil => exact absurd rfl h0
  | cons d ds =>
    show ((d :: ds).all fun e => decide (lenD e = lenD d)) = true
    have key : ∀ e ∈ d :: ds, lenD e = n := fun e m => by
      rw [← h.len e m]
      exact (lab_numLen (List.all_eq_true.mp h.lab e m)).symm
    refine List.all_eq_true.mpr fun e m => ?_
    rw [key e m, key d (List.mem_cons_self ..)]
    exact decide_eq_true rfl
theorem LabRows.sub {n : Nat} {ds es : List PyData} (h : LabRows n ds) (hs : ∀ e ∈ es, e ∈ ds) : LabRows n es :=
  ⟨List.all_eq_true.mpr fun e m => List.all_eq_true.mp h.lab e (hs e m), fun e m => h.len e (hs e m)⟩
theorem LabRows.cols {n : Nat} {ds : List PyData} (h : LabRows n ds) : ∀ c ∈ ds.map numsD, c.length = n := fun c m => by
  obtain ⟨d, md, rfl⟩ := List.mem_map.mp m
  exact h.len d md
theorem isLab_mk {ns : List Int} (h1 : 1 ≤ ns.length) (h2 : ns.length ≤ 12) (h : labI 0 ns = true) : isLabD (.tuple (ns.map PyData.int)) = true := by
  show (decide (1 ≤ (ns.map PyData.int).length ∧ (ns.map PyData.int).length ≤ 12) && labG 0 (ns.map PyData.int)) = true
  rw [List.length_map, decide_eq_true ⟨h1, h2⟩, labG_ints, h]
  rfl
theorem cut_from1 (xs : List V) : cutV xs (some 1) none = xs.drop 1 := by
  cases xs with
  | nil => rfl
  | cons x l =>
    unfold cutV
    rw [show HT.sIx (x :: l).length 0 (some 1) = 1 from by
      rw [show (1 : Int) = ((1 : Nat) : Int) from rfl, HT.sIx_nat, List.length_cons]; omega, HT.sIx_none]
    show List.take _ l = l
    rw [List.take_of_length_le (by rw [List.length_cons]; omega)]
theorem cut_to1 (xs : List V) : cutV xs none (some 1) = xs.take 1 := by
  cases xs with
  | nil => rfl
  | cons x l =>
    unfold cutV
    rw [HT.sIx_none, show HT.sIx (x :: l).length (x :: l).length (some 1) = 1 from by
      rw [show (1 : Int) = ((1 : Nat) : Int) from rfl, HT.sIx_nat, List.length_cons]; omega]
    rfl
theorem canL_small {α : Type} [DecidableEq α] : ∀ (xs seen : List α), ∀ y ∈ canL seen xs, 0 ≤ y ∧ y < seen.length + xs.length
  | [], _, y, h => nomatch h
  | x :: xs, seen, y, h => by
    simp only [canL, List.mem_cons] at h
    have hs := sn_len seen x
    rw [List.length_cons]
    rcases h with rfl | h
    · have := plc_lt (sn_mem seen x)
      omega
    · have := canL_small xs (sn seen x) y h
      omega
theorem canL_gd {α : Type} [DecidableEq α] {xs : List α} (h : xs.length ≤ 12) : Gd 60 1 (.tuple ((canL [] xs).map PyData.int)) := by
  refine Gd.ints (k := 4) (m := 12) (fun y hy => ?_) (by rw [canL_len]; omega)
  have := canL_small xs [] y hy
  rw [List.length_nil] at this
  omega
end Wr

/-! partitions joined; list(range(n)) -/
namespace Wr
open PySem PySem.Spec PyProof.Rows L2
def natsV (n : Nat) : List V := (List.range n).map fun (i : Nat) => V.int (i : Int)
section
variable {X : Cx}
def tLR (te : TE) : TE := fun σ H Q => te σ H fun x H1 => ∃ n : Nat, x = .int (n : Int) ∧ n ≤ 1000 ∧ ∀ p, H1 p = none → Q (.ref p) (upd H1 p (.lst (natsV n)))
theorem vals_nats {us : List Value} {n : Nat} (hl : us.length = n) (h : ∀ (j : Nat) v, us[j]? = some v → ∃ t, v = .int ((j : Int)) t) : Vals (natsV n) us := by
  have key : ∀ (k : Nat) (us : List Value), (∀ (j : Nat) v, us[j]? = some v → ∃ t, v = .int (((k + j : Nat) : Int)) t) → Vals ((List.range us.length).map fun (i : Nat) => V.int ((k + i : Nat) : Int)) us := by
    intro k us
    induction us generalizing k with
    | nil => intro _; exact .nil
    | cons u us ih =>
      intro h
      rw [List.length_cons, List.range_succ_eq_map, List.map_cons, List.map_map]
      refine .cons ?_ ?_
      · obtain ⟨t, e⟩ := h 0 u rfl
        exact ⟨t, e⟩
      · have := ih (k + 1) fun j v e => by
          obtain ⟨t, q⟩ := h (j + 1) v (by rw [List.getElem?_cons_succ]; exact e)
          exact ⟨t, by rw [q, show k + (j + 1) = k + 1 + j by omega]⟩
        have e : (List.range us.length).map ((fun (i : Nat) => V.int ((k + i : Nat) : Int)) ∘ Nat.succ) = (List.range us.length).map fun (i : Nat) => V.int ((k + 1 + i : Nat) : Int) :=
          List.map_congr_left fun i _ => by
            show V.int _ = V.int _
            rw [show k + 1 + i = k + Nat.succ i by omega]
        rw [e]
        exact this
  have := key 0 us fun j v e => by
    obtain ⟨t, q⟩ := h j v e
    exact ⟨t, by rw [q, Nat.zero_add]⟩
  rw [hl] at this
  simp only [Nat.zero_add] at this
  exact this
theorem pe_listRange {e : Expr} {te : TE} {p1 p2 pos1 pos2 : Pos} (hc : X.calm = true) (he : PE X e te)
    (hg1 : Gl X "list") (hm1 : X.mg "list" = none) (hg2 : Gl X "range") (hm2 : X.mg "range" = none)
    (hs : starEach [e] X.env = [(false, eval e X.env)] := by rfl) :
    PE X (.Call (.Name "list" p1) [.Call (.Name "range" p2) [e] [] pos2] [] pos1) (tLR te) := by
  refine ⟨fun pins s σ H Q I h => ?_⟩
  refine wpAny_Call_Name_kw (ld_blt I hg1 hm1 (by rfl) ?_ (by decide) (by decide))
  refine PyProof.Rows.callWith_type1 ?_ (by rfl) (by rfl)
  show wpAny _ _ (spliced [(false, _)]) _ _ s
  refine Calls.spliced_cons ?_
  refine wpAny_mono (E := X.xe) ?_ (fun v s1 h1 => Calls.spliced_nil h1) fun _ _ z => z
  show wpAny _ _ (eval (.Call (.Name "range" p2) [e] [] pos2) X.env) _ _ s
  refine wpAny_Call_Name_kw (ld_blt I hg2 hm2 (by rfl) ?_ (by decide) (by decide))
  refine PyProof.Rows.callWith_type1 ?_ (by rw [hs]; rfl) (by rfl)
  rw [hs]
  show wpAny _ _ (spliced [(false, _)]) _ _ s
  refine Calls.spliced_cons (thn (he.run pins s σ H _ I h) fun v s1 ⟨x, H1, I1, r1, n, e1, hn, q⟩ => ?_)
  refine Calls.spliced_nil ?_
  subst e1
  obtain ⟨t, rfl⟩ := r1
  refine call_range_1 ?_
  have I2 : L2.Inv X pins σ H1 { s1 with heap := s1.heap.push { cls := .type "range", data := .fields #[.int 0 s1.toks, .int (n : Int) t, .int 1 (s1.toks + 1)] }, toks := s1.toks + 1 + 1 } := I1.kept fun b o e => Heap.get?_push_of_some _ e
  refine call_list_range (n := n) (I2.ok.hd hc) (IsRange.new ..) (small_one (by decide) (by decide) (by omega) (by omega)) (by rw [rangeSize_one]; split <;> omega) (by omega) fun h' tk acc c hk hD hI => ?_
  refine ⟨.ref _, _, I2.laid (t' := tk) (o := .lst (natsV n)) hk (Nat.le_refl _) ?_, rfl, q _ (I2.hok.fresh (Nat.le_refl _))⟩
  refine ⟨?_, acc.toList, c, vals_nats (by rw [Array.length_toList]; exact hI.1) fun j v hj => ?_, by rw [Array.toArray_toList]; exact hD⟩
  · unfold natsV
    rw [List.length_map, List.length_range]
    exact Nat.le_of_lt (small1000 hn)
  · obtain ⟨t, e⟩ := hI.2 j v (by rw [← hj, Array.getElem?_toList])
    exact ⟨t, by rw [e]; congr 1; omega⟩
end
/-! ### what hangs together -/
inductive Con (R : Nat → Nat → Prop) : Nat → Nat → Prop
  | refl (x : Nat) : Con R x x
  | step {x y z : Nat} : Con R x y → R y z → Con R x z
theorem Con.trans {R : Nat → Nat → Prop} {x y z : Nat} (a : Con R x y) (b : Con R y z) : Con R x z := by
  induction b with
  | refl => exact a
  | step _ r ih => exact .step ih r
theorem Con.mono {R R' : Nat → Nat → Prop} (h : ∀ y z, R y z → R' y z) {x y : Nat} (a : Con R x y) : Con R' x y := by
  induction a with
  | refl => exact .refl _
  | step _ r ih => exact .step ih (h _ _ r)
theorem Con.symm {R : Nat → Nat → Prop} (h : ∀ y z, R y z → R z y) {x y : Nat} (a : Con R x y) : Con R y x := by
  induction a with
  | refl => exact .refl _
  | step _ r ih => exact (Con.step (.refl _) (h _ _ r)).trans ih
/-- each case has the least case that it hangs together with -/
structure Mk1 (n : Nat) (R : Nat → Nat → Prop) (ms : List Int) : Prop where
  len : ms.length = n
  at_ : ∀ x, x < n → ∃ m : Nat, ms[x]? = some (m : Int) ∧ m ≤ x ∧ Con R x m
  inv : ∀ y z, R y z → ms[y]? = ms[z]?
theorem Mk1.con {n : Nat} {R : Nat → Nat → Prop} {ms : List Int} (h : Mk1 n R ms) {x y : Nat} (c : Con R x y) : ms[x]? = ms[y]? := by
  induction c with
  | refl => rfl
  | step _ r ih => exact ih.trans (h.inv _ _ r)
/-- there is only one such row -/
theorem Mk1.one {n : Nat} {R R' : Nat → Nat → Prop} {ms ms' : List Int} (h : Mk1 n R ms) (h' : Mk1 n R' ms')
    (e1 : ∀ y z, R y z → Con R' y z) (e2 : ∀ y z, R' y z → Con R y z) : ms = ms' := by
  have up1 : ∀ {x y}, Con R x y → Con R' x y := fun c => by
    induction c with
    | refl => exact .refl _
    | step _ r ih => exact ih.trans (e1 _ _ r)
  have up2 : ∀ {x y}, Con R' x y → Con R x y := fun c => by
    induction c with
    | refl => exact .refl _
    | step _ r ih => exact ih.trans (e2 _ _ r)
  have key : ∀ {R R' : Nat → Nat → Prop} {ms ms' : List Int}, Mk1 n R ms → Mk1 n R' ms' → (∀ {x y}, Con R x y → Con R' x y) → ∀ x (m m' : Nat), x < n → ms[x]? = some (m : Int) → ms'[x]? = some (m' : Int) → m' ≤ m :=
    fun {R R' ms ms'} h h' up x m m' lx em em' => by
      obtain ⟨a, ea, la, ca⟩ := h.at_ x lx
      rw [em] at ea
      have : m = a := by have := Option.some.inj ea; omega
      subst this
      obtain ⟨b, eb, lb, _⟩ := h'.at_ m (by omega)
      have q := h'.con (up ca)
      rw [em', eb] at q
      have := Option.some.inj q
      omega
  refine List.ext_getElem? fun x => ?_
  by_cases lx : x < n
  · obtain ⟨m, em, _⟩ := h.at_ x lx
    obtain ⟨m', em', _⟩ := h'.at_ x lx
    have a1 := key h h' up1 x m m' lx em em'
    have a2 := key h' h up2 x m' m lx em' em
    rw [em, em', show m = m' by omega]
  · rw [List.getElem?_eq_none (by rw [h.len]; omega), List.getElem?_eq_none (by rw [h'.len]; omega)]
def natsI (n : Nat) : List Int := (List.range n).map fun (i : Nat) => (i : Int)
theorem natsI_at {n x : Nat} (h : x < n) : (natsI n)[x]? = some (x : Int) := by
  unfold natsI
  rw [List.getElem?_map, List.getElem?_range h]
  rfl
theorem Mk1.start (n : Nat) : Mk1 n (fun _ _ => False) (natsI n) :=
  ⟨by unfold natsI; rw [List.length_map, List.length_range], fun x lx => ⟨x, natsI_at lx, Nat.le_refl _, .refl _⟩, fun _ _ h => h.elim⟩
def linkL (ms sh : List Int) (least : Int) : List Int := ms.map fun m => if m ∈ sh then least else m
/-- the cases of a part are linked -/
theorem Mk1.link {n : Nat} {R : Nat → Nat → Prop} {ms : List Int} (h : Mk1 n R ms) (hR : ∀ y z, R y z → R z y) (hn : ∀ y z, R y z → y < n ∧ z < n) {p : List Nat} (hp : ∀ c ∈ p, c < n)
    {sh : List Int} (hs : ∀ v : Int, v ∈ sh ↔ ∃ c ∈ p, ms[c]? = some v) {least : Int} (hl : least ∈ sh) (hm : ∀ v ∈ sh, least ≤ v) :
    Mk1 n (fun y z => R y z ∨ (y ∈ p ∧ z ∈ p)) (linkL ms sh least) := by
  have at' : ∀ x (m : Int), ms[x]? = some m → (linkL ms sh least)[x]? = some (if m ∈ sh then least else m) := fun x m e => by
    unfold linkL
    rw [List.getElem?_map, e]
    rfl
  obtain ⟨c0, m0, e0⟩ := (hs least).mp hl
  refine ⟨by unfold linkL; rw [List.length_map]; exact h.len, fun x lx => ?_, fun y z r => ?_⟩
  · obtain ⟨m, em, lm, cm⟩ := h.at_ x lx
    rw [at' x m em]
    by_cases hx : (m : Int) ∈ sh
    · rw [if_pos hx]
      obtain ⟨c, mc, ec⟩ := (hs m).mp hx
      obtain ⟨l, el, ll, cl⟩ := h.at_ c0 (hp c0 m0)
      rw [e0] at el
      have e : least = (l : Int) := Option.some.inj el
      subst e
      refine ⟨l, rfl, by have := hm m hx; omega, ?_⟩
      have mono : ∀ {a b}, Con R a b → Con (fun y z => R y z ∨ (y ∈ p ∧ z ∈ p)) a b := fun c => c.mono fun _ _ r => .inl r
      obtain ⟨k, ek, lk, ck⟩ := h.at_ c (hp c mc)
      rw [ec] at ek
      have : m = k := by have := Option.some.inj ek; omega
      subst this
      exact ((mono cm).trans (mono (ck.symm hR))).trans ((Con.step (.refl _) (.inr ⟨mc, m0⟩)).trans (mono cl))
    · rw [if_neg hx]
      exact ⟨m, rfl, lm, cm.mono fun _ _ r => .inl r⟩
  · rcases r with r | ⟨r1, r2⟩
    · have e := h.inv y z r
      obtain ⟨ly, lz⟩ := hn y z r
      obtain ⟨m, em, _⟩ := h.at_ y ly
      rw [at' y m em, at' z m (by rw [← e]; exact em)]
    · obtain ⟨m, em, _⟩ := h.at_ y (hp y r1)
      obtain ⟨k, ek, _⟩ := h.at_ z (hp z r2)
      rw [at' y m em, at' z k ek, if_pos ((hs m).mpr ⟨y, r1, em⟩), if_pos ((hs k).mpr ⟨z, r2, ek⟩)]
end Wr

namespace Wr
open PySem PySem.Spec PyProof.Rows L2
section
variable {X : Cx} {K : PySem.W.Frag}
theorem op_inK (h : X.K = K) : OpR X (compareOp .In) (rIn K false) := by
  subst h
  exact op_in_seq
theorem op_notInK (h : X.K = K) : OpR X (compareOp .NotIn) (rIn K true) := by
  subst h
  exact op_notIn_seq
end
/-- two cases in one part of one of the partitions -/
def LinkR (cols : List (List Int)) (n : Nat) (y z : Nat) : Prop := y < n ∧ z < n ∧ ∃ c ∈ cols, c[y]? = c[z]?
theorem LinkR.symm {cols : List (List Int)} {n : Nat} : ∀ y z, LinkR cols n y z → LinkR cols n z y := fun y z ⟨a, b, c, m, e⟩ => ⟨b, a, c, m, e.symm⟩
theorem LinkR.lt {cols : List (List Int)} {n : Nat} : ∀ y z, LinkR cols n y z → y < n ∧ z < n := fun y z ⟨a, b, _⟩ => ⟨a, b⟩
theorem Mk1.congr {n : Nat} {R R' : Nat → Nat → Prop} {ms : List Int} (h : Mk1 n R ms) (e : ∀ y z, R y z ↔ R' y z) : Mk1 n R' ms := by
  have : R = R' := by
    funext y z
    exact propext (e y z)
  rw [← this]
  exact h
def partN (ns : List Int) (k : Int) : List Nat := (List.range ns.length).filter fun m => decide (ns[m]? = some k)
theorem partL_N (ns : List Int) (k : Int) : partL ns ns.length k = (partN ns k).map Int.ofNat := rfl
theorem mem_partN {ns : List Int} {k : Int} {y : Nat} : y ∈ partN ns k ↔ ns[y]? = some k := by
  unfold partN
  rw [List.mem_filter, List.mem_range, decide_eq_true_eq]
  exact ⟨fun h => h.2, fun h => ⟨(List.getElem?_eq_some_iff.mp h).1, h⟩⟩
theorem lab_has : ∀ (ns : List Int) (k0 k : Int), labI k0 ns = true → k0 ≤ k → k < labK k0 ns → k ∈ ns
  | [], k0, k, _, h1, h2 => by simp only [labK] at h2; omega
  | x :: ns, k0, k, h, h1, h2 => by
    simp only [labI, Bool.and_eq_true, decide_eq_true_eq] at h
    simp only [labK] at h2
    by_cases e : k = x
    · rw [e]; exact List.mem_cons_self ..
    · exact List.mem_cons_of_mem _ (lab_has ns (max k0 (x + 1)) k h.2 (by omega) h2)
theorem partN_ne {ns : List Int} (h : labI 0 ns = true) {k : Nat} (hk : (k : Int) < labK 0 ns) : partN ns (k : Int) ≠ [] := fun e => by
  have m := lab_has ns 0 k h (by omega) hk
  obtain ⟨y, hy⟩ := List.mem_iff_getElem?.mp m
  have : y ∈ partN ns (k : Int) := mem_partN.mpr hy
  rw [e] at this
  cases this
/-- the parts of one partition, the first j of them -/
def partsR (cols : List (List Int)) (n : Nat) (ns : List Int) (j : Nat) (y z : Nat) : Prop :=
  LinkR cols n y z ∨ ∃ k : Nat, k < j ∧ y ∈ partN ns (k : Int) ∧ z ∈ partN ns (k : Int)
theorem partsR_zero {cols : List (List Int)} {n : Nat} {ns : List Int} (y z : Nat) : LinkR cols n y z ↔ partsR cols n ns 0 y z :=
  ⟨fun h => .inl h, fun h => h.elim (fun h => h) fun ⟨k, hk, _⟩ => absurd hk (Nat.not_lt_zero k)⟩
theorem partsR_succ {cols : List (List Int)} {n : Nat} {ns : List Int} (j y z : Nat) :
    (partsR cols n ns j y z ∨ (y ∈ partN ns (j : Int) ∧ z ∈ partN ns (j : Int))) ↔ partsR cols n ns (j + 1) y z := by
  constructor
  · rintro ((h | ⟨k, hk, h⟩) | h)
    · exact .inl h
    · exact .inr ⟨k, by omega, h⟩
    · exact .inr ⟨j, by omega, h⟩
  · rintro (h | ⟨k, hk, h⟩)
    · exact .inl (.inl h)
    · by_cases e : k = j
      · subst e; exact .inr h
      · exact .inl (.inr ⟨k, by omega, h⟩)
theorem partsR_end {cols : List (List Int)} {n : Nat} {ns : List Int} (hn : ns.length = n) (h : labI 0 ns = true) (y z : Nat) :
    partsR cols n ns (labK 0 ns).toNat y z ↔ LinkR (cols ++ [ns]) n y z := by
  constructor
  · rintro (⟨a, b, c, m, e⟩ | ⟨k, hk, m1, m2⟩)
    · exact ⟨a, b, c, List.mem_append_left _ m, e⟩
    · have e1 := mem_partN.mp m1
      have e2 := mem_partN.mp m2
      have l1 := (List.getElem?_eq_some_iff.mp e1).1
      have l2 := (List.getElem?_eq_some_iff.mp e2).1
      exact ⟨by omega, by omega, ns, by simp, e1.trans e2.symm⟩
  · rintro ⟨a, b, c, m, e⟩
    rcases List.mem_append.mp m with m | m
    · exact .inl ⟨a, b, c, m, e⟩
    · rw [List.mem_singleton.mp m] at e
      have ey : ns[y]? = some ns[y] := List.getElem?_eq_getElem (by omega)
      have hm := List.mem_of_getElem? ey
      have h0 := (labI_mem 0 ns h _ hm).1
      have h1 := labK_mem 0 ns _ hm
      have ek : ((ns[y].toNat : Nat) : Int) = ns[y] := by omega
      refine .inr ⟨ns[y].toNat, by omega, mem_partN.mpr (by rw [ek]; exact ey), mem_partN.mpr (by rw [ek, ← e]; exact ey)⟩
theorem partsR_symm {cols : List (List Int)} {n : Nat} {ns : List Int} {j : Nat} : ∀ y z, partsR cols n ns j y z → partsR cols n ns j z y :=
  fun y z h => h.elim (fun h => .inl (h.symm)) fun ⟨k, hk, a, b⟩ => .inr ⟨k, hk, b, a⟩
theorem partsR_lt {cols : List (List Int)} {n : Nat} {ns : List Int} {j : Nat} (hn : ns.length = n) : ∀ y z, partsR cols n ns j y z → y < n ∧ z < n :=
  fun y z h => h.elim (fun h => h.lt) fun ⟨k, hk, a, b⟩ => by
    have l1 := (List.getElem?_eq_some_iff.mp (mem_partN.mp a)).1
    have l2 := (List.getElem?_eq_some_iff.mp (mem_partN.mp b)).1
    omega
theorem LinkR_perm {cols cols' : List (List Int)} {n : Nat} (h : ∀ c ∈ cols, c ∈ cols') (y z : Nat) (r : LinkR cols n y z) : LinkR cols' n y z := by
  obtain ⟨a, b, c, m, e⟩ := r
  exact ⟨a, b, c, h c m, e⟩
theorem LinkR_nil {n : Nat} (y z : Nat) : False ↔ LinkR [] n y z := ⟨fun h => h.elim, fun ⟨_, _, c, m, _⟩ => nomatch m⟩
/-! promises -/
def sp_labI : Sp := fun vs H Q _ => ∃ (L : Addr) (ns : List Int), vs = [.ref L] ∧ H L = some (.lst (ns.map V.int)) ∧ ns.length ≤ 1000 ∧
  ∀ (p : Addr) (H' : Hp), Same H H' → H p = none → H' p = some (.tup ((canL [] ns).map V.int)) → Q (.ref p) H'
def sp_lab2 : Sp := fun vs H Q E => sp_labT vs H Q E ∨ sp_labI vs H Q E
def shOf (ms : List Int) (p : List Nat) : List Int := p.map fun c => ms.getD c 0
def sp_linked : Sp := fun vs H Q _ => ∃ (M P : Addr) (ms : List Int) (p : List Nat), vs = [.ref M, .ref P] ∧ H M = some (.lst (ms.map V.int)) ∧
  H P = some (.tup ((p.map Int.ofNat).map V.int)) ∧ (∀ c ∈ p, c < ms.length) ∧ p ≠ [] ∧ p.length ≤ 1000 ∧ ms.length ≤ 1000 ∧
  ∀ (least : Int) (q : Addr) (H' : Hp), least ∈ shOf ms p → (∀ v ∈ shOf ms p, least ≤ v) → Same H H' → H q = none →
    H' q = some (.lst ((linkL ms (shOf ms p) least).map V.int)) → Q (.ref q) H'
theorem shOf_mem {ms : List Int} {p : List Nat} (hp : ∀ c ∈ p, c < ms.length) (v : Int) : v ∈ shOf ms p ↔ ∃ c ∈ p, ms[c]? = some v := by
  unfold shOf
  rw [List.mem_map]
  constructor
  · rintro ⟨c, m, e⟩
    refine ⟨c, m, ?_⟩
    rw [List.getD_eq_getElem?_getD, List.getElem?_eq_getElem (hp c m)] at e
    rw [List.getElem?_eq_getElem (hp c m), ← e]
    rfl
  · rintro ⟨c, m, e⟩
    refine ⟨c, m, ?_⟩
    rw [List.getD_eq_getElem?_getD, e]
    rfl
def sp_joinedX (CI CM : Addr) : Sp := fun vs H Q E => ∃ (ds : List PyData) (z : Prop) (B : Addr → Prop), DVs z B H vs ds ∧ ds.length ≤ 3 ∧
  (∀ H', Same H H' → ds.all isLabD = false → E (.ref CI) none H') ∧
  (∀ H', Same H H' → ds.all isLabD = true → alikeL ds = false → E (.ref CM) none H') ∧
  (ds.all isLabD = true → alikeL ds = true → ∀ (ms : List Int) (p : Addr) (H' : Hp),
    Mk1 ((ds.map numsD).headD []).length (LinkR (ds.map numsD) ((ds.map numsD).headD []).length) ms → Same H H' → H p = none →
    H' p = some (.tup ((canL [] ms).map V.int)) → Q (.ref p) H')
def sp_joinedIn (CI CM : Addr) : Sp := fun us H1 Q E => ∃ (p : Addr) (vs : List V) (H : Hp), us = [.ref p] ∧ H p = none ∧
  H1 = upd H p (.tup vs) ∧ sp_joinedX CI CM vs H Q E
theorem sp_joinedStart {CI CM : Addr} (vs : List V) (H : Hp) (Q : VK) (E : XK) (h : sp_joinedX CI CM vs H Q E) :
    vs.length ≤ sizeLine ∧ ∀ p, H p = none → sp_joinedIn CI CM [V.ref p] (upd H p (.tup vs)) Q E := by
  refine ⟨?_, fun p np => ⟨p, vs, H, rfl, np, rfl, h⟩⟩
  obtain ⟨ds, z, B, hx, hl, _⟩ := h
  rw [hx.length]
  exact Nat.le_of_lt (small1000 (by omega))
def sp_joinRows : Sp := fun vs H Q _ => ∃ (L : Addr) (ws : List V) (ds : List PyData) (z : Prop) (B : Addr → Prop), vs = [.ref L] ∧
  H L = some (.lst ws) ∧ DVs z B H ws ds ∧ ds.length ≤ 3 ∧ ds.all isLabD = true ∧ alikeL ds = true ∧
  ∀ (ms : List Int) (p : Addr) (H' : Hp), Mk1 ((ds.map numsD).headD []).length (LinkR (ds.map numsD) ((ds.map numsD).headD []).length) ms →
    Same H H' → H p = none → H' p = some (.tup ((canL [] ms).map V.int)) → Q (.ref p) H'
theorem labI_canL {α : Type} [DecidableEq α] : ∀ (xs seen : List α), labI (seen.length : Int) (canL seen xs) = true
  | [], _ => rfl
  | x :: xs, seen => by
    simp only [canL, labI, Bool.and_eq_true, decide_eq_true_eq]
    have hs : (sn seen x).length = if x ∈ seen then seen.length else seen.length + 1 := by
      unfold sn
      by_cases h : x ∈ seen
      · rw [if_pos h, if_pos h]
      · rw [if_neg h, if_neg h, List.length_append]; rfl
    have hp := plc_lt (sn_mem seen x)
    have hm : max (seen.length : Int) ((plc x (sn seen x) : Int) + 1) = ((sn seen x).length : Int) := by
      by_cases h : x ∈ seen
      · rw [if_pos h] at hs
        omega
      · rw [if_neg h] at hs
        have : plc x (sn seen x) = seen.length := by
          rw [show sn seen x = seen ++ [x] from if_neg h]
          exact plc_end h
        omega
    refine ⟨⟨by omega, by split at hs <;> omega⟩, ?_⟩
    rw [hm]
    exact labI_canL xs (sn seen x)
def sp_ring : Sp := fun vs H Q _ => ∃ (n m k : Int), vs = [.int n, .int m, .int k] ∧ 1 ≤ n ∧ n ≤ 12 ∧ 0 < m ∧
  ∀ (ls : List Int) (p : Addr) (H' : Hp), labI 0 ls = true → ls.length = n.toNat → Same H H' → H p = none → H' p = some (.tup (ls.map V.int)) → Q (.ref p) H'
/-- the least case that hangs together with x -/
def sp_reached : Sp := fun vs H Q _ => ∃ (R : Addr) (x n : Nat) (ts : List Addr) (cs : List (List Int)), vs = [.ref R, .int (x : Int)] ∧
  H R = some (.lst (ts.map V.ref)) ∧ ts.length = cs.length ∧ ts.length ≤ 3 ∧ (∀ (j : Nat) t c, ts[j]? = some t → cs[j]? = some c → H t = some (.tup (c.map V.int))) ∧
  (∀ c ∈ cs, c.length = n) ∧ x < n ∧ n ≤ 12 ∧
  ∀ (m : Nat) (H' : Hp), Same H H' → Con (LinkR cs n) x m → (∀ y, Con (LinkR cs n) x y → m ≤ y) → Q (.int (m : Int)) H'
theorem rem_len (n : Nat) : ∀ fs : List Nat, fs.Pairwise (· ≠ ·) → fs.length ≤ (fs.filter fun y => decide (y ≠ n)).length + 1
  | [], _ => by simp
  | y :: l, h => by
    rw [List.pairwise_cons] at h
    by_cases e : y = n
    · subst e
      rw [List.filter_cons, if_neg (by simp), List.filter_eq_self.mpr fun z m => by simpa using Ne.symm (h.1 z m)]
      exact Nat.le_refl _
    · rw [List.filter_cons, if_pos (by simpa using e), List.length_cons, List.length_cons]
      have := rem_len n l h.2
      omega
theorem diff_len : ∀ (n : Nat) (fs : List Nat), fs.Pairwise (· ≠ ·) → (∀ y ∈ fs, y < n) → fs.length ≤ n
  | 0, [], _, _ => Nat.le_refl _
  | 0, y :: l, _, h => absurd (h y (List.mem_cons_self ..)) (Nat.not_lt_zero y)
  | n + 1, fs, h, hl => by
    have h1 := rem_len n fs h
    have h2 := diff_len n (fs.filter fun y => decide (y ≠ n)) (h.filter _) fun y m => by
      obtain ⟨m1, m2⟩ := List.mem_filter.mp m
      have := hl y m1
      have : y ≠ n := by simpa using m2
      omega
    omega
/-- what one row adds to what is found -/
def newL (c : List Int) (fs : List Nat) (a : Nat) (i : Nat) : List Nat := (List.range i).filter fun y => decide (c[y]? = c[a]? ∧ y ∉ fs)
theorem newL_succ (c : List Int) (fs : List Nat) (a i : Nat) : newL c fs a (i + 1) = if c[i]? = c[a]? ∧ i ∉ fs then newL c fs a i ++ [i] else newL c fs a i := by
  unfold newL
  rw [List.range_succ, List.filter_append]
  by_cases h : c[i]? = c[a]? ∧ i ∉ fs
  · rw [if_pos h, List.filter_cons, if_pos (decide_eq_true h)]
    rfl
  · rw [if_neg h, List.filter_cons, if_neg (by simpa using h)]
    simp
theorem mem_newL {c : List Int} {fs : List Nat} {a i y : Nat} : y ∈ newL c fs a i ↔ y < i ∧ c[y]? = c[a]? ∧ y ∉ fs := by
  unfold newL
  rw [List.mem_filter, List.mem_range, decide_eq_true_eq]
theorem newL_len (c : List Int) (fs : List Nat) (a i : Nat) : (newL c fs a i).length ≤ i := by
  unfold newL
  exact Nat.le_trans (List.length_filter_le _ _) (by rw [List.length_range]; exact Nat.le_refl _)
/-- what is found so far -/
structure Fnd (cs : List (List Int)) (n x : Nat) (fs : List Nat) : Prop where
  pw : fs.Pairwise (· ≠ ·)
  lt : ∀ y ∈ fs, y < n
  me : x ∈ fs
  con : ∀ y ∈ fs, Con (LinkR cs n) x y
theorem Fnd.len {cs : List (List Int)} {n x : Nat} {fs : List Nat} (h : Fnd cs n x fs) : fs.length ≤ n := diff_len n fs h.pw h.lt
theorem Fnd.more {cs : List (List Int)} {n x : Nat} {fs : List Nat} (h : Fnd cs n x fs) {c : List Int} (hc : c ∈ cs) {a : Nat} (ha : a ∈ fs) :
    Fnd cs n x (fs ++ newL c fs a n) := by
  refine ⟨List.pairwise_append.mpr ⟨h.pw, ?_, fun y m z mz e => (mem_newL.mp mz).2.2 (e ▸ m)⟩, fun y m => ?_, List.mem_append_left _ h.me, fun y m => ?_⟩
  · unfold newL
    exact List.Pairwise.filter _ (List.nodup_range)
  · rcases List.mem_append.mp m with m | m
    · exact h.lt y m
    · exact (mem_newL.mp m).1
  · rcases List.mem_append.mp m with m | m
    · exact h.con y m
    · obtain ⟨l, e, _⟩ := mem_newL.mp m
      exact (h.con a ha).step ⟨h.lt a ha, l, c, hc, e.symm⟩
theorem Fnd.all {cs : List (List Int)} {n x : Nat} {fs : List Nat} (h : Fnd cs n x fs) (cl : ∀ y ∈ fs, ∀ z, LinkR cs n y z → z ∈ fs) {y : Nat}
    (c : Con (LinkR cs n) x y) : y ∈ fs := by
  induction c with
  | refl => exact h.me
  | step _ r ih => exact cl _ ih _ r
def natV (fs : List Nat) : List V := fs.map fun (y : Nat) => V.int (y : Int)
theorem inV_nats {y : Nat} : ∀ {fs : List Nat}, inV (.int (y : Int)) (natV fs) = decide (y ∈ fs) := fun {fs} => by
  have e : natV fs = (fs.map fun (y : Nat) => (y : Int)).map V.int := by
    unfold natV
    rw [List.map_map]
    rfl
  rw [e, inV_ints]
  refine decide_eq_decide.mpr ⟨fun h => ?_, fun h => List.mem_map_of_mem h⟩
  obtain ⟨z, m, e⟩ := List.mem_map.mp h
  have : z = y := by omega
  rw [← this]
  exact m
theorem natV_ints (fs : List Nat) : natV fs = (fs.map fun (y : Nat) => (y : Int)).map V.int := by
  unfold natV
  rw [List.map_map]
  rfl
theorem LabRows.put {n i : Nat} {ds : List PyData} {d : PyData} (h : LabRows n ds) (hl : isLabD d = true) (hn : (numsD d).length = n) : LabRows n (ds.set i d) := by
  have key : ∀ e ∈ ds.set i d, e ∈ ds ∨ e = d := fun e m => List.mem_or_eq_of_mem_set m
  refine ⟨List.all_eq_true.mpr fun e m => ?_, fun e m => ?_⟩
  · rcases key e m with z | rfl
    · exact List.all_eq_true.mp h.lab e z
    · exact hl
  · rcases key e m with z | rfl
    · exact h.len e z
    · exact hn
theorem ixN_last (n : Nat) : ixN (n + 1) (-1) = some n := by
  unfold ixN
  rw [if_neg (by decide), if_pos (by omega)]
  congr 1
  omega
theorem LinkR_rev {cols : List (List Int)} {n : Nat} (y z : Nat) (r : LinkR cols.reverse n y z) : LinkR cols n y z := LinkR_perm (fun c m => List.mem_reverse.mp m) y z r
theorem Con.one {R : Nat → Nat → Prop} {y z : Nat} (r : R y z) : Con R y z := .step (.refl _) r
theorem Mk1.ofLeast {n : Nat} {cs : List (List Int)} {ms : List Int} (hl : ms.length = n)
    (h : ∀ x, x < n → ∃ m : Nat, ms[x]? = some (m : Int) ∧ Con (LinkR cs n) x m ∧ ∀ y, Con (LinkR cs n) x y → m ≤ y) : Mk1 n (LinkR cs n) ms := by
  refine ⟨hl, fun x lx => ?_, fun y z r => ?_⟩
  · obtain ⟨m, e, c, le⟩ := h x lx
    exact ⟨m, e, le x (.refl x), c⟩
  · obtain ⟨ly, lz⟩ := r.lt
    obtain ⟨m, e, c, le⟩ := h y ly
    obtain ⟨k, e', c', le'⟩ := h z lz
    have a1 := le k ((Con.one r).trans c')
    have a2 := le' m ((Con.one (r.symm)).trans c)
    rw [e, e', show m = k by omega]
theorem headD_len {ds : List PyData} {n : Nat} (h : LabRows n ds) (h0 : ds ≠ []) : ((ds.map numsD).headD []).length = n := by
  cases ds with
  | nil => exact absurd rfl h0
  | cons d l => exact h.len d (List.mem_cons_self ..)
end Wr

/-! partitions that are refused -/
namespace Wr
open PySem PySem.Spec PyProof.Rows L2
def due9 (ds : List PyData) : V :=
  if ds.all isLabD = true then (if alikeL ds = true then .int ((lenD (ds.headD .none) : Nat) : Int) else .str "mismatch") else .str "labels"
theorem due9_bad {ds : List PyData} (h : ds.all isLabD = false) : due9 ds = .str "labels" := if_neg (by rw [h]; exact fun z => nomatch z)
theorem due9_mis {ds : List PyData} (h : ds.all isLabD = true) (h2 : alikeL ds = false) : due9 ds = .str "mismatch" := by
  unfold due9
  rw [if_pos h, if_neg (by rw [h2]; exact fun z => nomatch z)]
theorem due9_len {ds : List PyData} (h : ds.all isLabD = true) (h2 : alikeL ds = true) : due9 ds = .int ((lenD (ds.headD .none) : Nat) : Int) := by
  unfold due9
  rw [if_pos h, if_pos h2]
def sp_nine : Sp := fun vs H Q _ => ∃ (L : Addr) (ws : List V) (ds : List PyData) (z : Prop) (B : Addr → Prop), vs = [.ref L] ∧
  H L = some (.lst ws) ∧ DVs z B H ws ds ∧ ds.length ≤ 3 ∧ ∀ H', Same H H' → Q (due9 ds) H'
theorem head_len {ds : List PyData} (hl : ds.all isLabD = true) (ha : alikeL ds = true) : ((ds.map numsD).headD []).length = lenD (ds.headD .none) := by
  cases ds with
  | nil => cases ha
  | cons d l => exact lab_numLen (List.all_eq_true.mp hl d (List.mem_cons_self ..))
theorem rowsI_len (cols : List (List Int)) : (rowsI cols).length = (cols.headD []).length := by
  unfold rowsI
  rw [List.length_map, List.length_range]
def due9D (ds : List PyData) : PyData :=
  if ds.all isLabD = true then (if alikeL ds = true then .int ((lenD (ds.headD .none) : Nat) : Int) else .str "mismatch") else .str "labels"
theorem due9_D {z : Prop} {B : Addr → Prop} {H : Hp} (ds : List PyData) : DV z B H (due9 ds) (due9D ds) := by
  unfold due9 due9D
  split
  · split
    · exact .int _
    · exact .str _
  · exact .str _
theorem lab_rowD {d : PyData} (h : isLabD d = true) : d = rowD (numsD d) := by
  obtain ⟨ns, rfl, _⟩ := isLab_form h
  rw [numsD_ints]
  rfl
theorem eqv_nil : ∀ ds : List PyData, PyData.eqv (.list ds) (.list []) = decide (ds = [])
  | [] => by simp [PyData.eqv, PyData.eqvAll]
  | d :: ds => by simp [PyData.eqv, PyData.eqvAll]
/-- a list of rows of labels, as == reads it -/
theorem dp_rows {z : Prop} {B : Addr → Prop} {K : PySem.W.Frag} {H : Hp} {L : Addr} {ws : List V} {ds : List PyData} (hL : H L = some (.lst ws)) (hx : DVs z B H ws ds) (h : ds.all isLabD = true) :
    Dp K H (.ref L) (.list ds) := by
  have hd := labs_cols h
  have hx' : DVs False No H ws ds := hx.less (fun z => z.elim) fun a o _ _ m => m
  refine (DV.lst (z := False) (B := No) (fun h => h) (fun h => h.elim) hL hx').dp _ _ ?_
  rw [hd]
  exact rowD_lay _
theorem dp_nil {K : PySem.W.Frag} {H : Hp} {L : Addr} (hL : H L = some (.lst [])) : Dp K H (.ref L) (.list []) :=
  (DV.lst (z := False) (B := No) (fun h => h) (fun h => h.elim) hL .nil).dp _ _ rfl
theorem shaped_rows {ds : List PyData} (h : ds.all isLabD = true) : SeqAt.shaped (.list ds) = true := by
  rw [labs_cols h]
  exact rowD_shaped _
theorem all_take {ds : List PyData} {p : PyData → Bool} (h : ds.all p = true) (i : Nat) : (ds.take i).all p = true :=
  List.all_eq_true.mpr fun e m => List.all_eq_true.mp h e (List.mem_of_mem_take m)
theorem alike_filter (d : PyData) (ds : List PyData) : alikeL (d :: ds) = decide ((d :: ds).filter (fun e => decide (lenD e ≠ lenD d)) = []) := by
  rw [Bool.eq_iff_iff, decide_eq_true_eq, List.filter_eq_nil_iff]
  show ((d :: ds).all fun e => decide (lenD e = lenD d)) = true ↔ _
  rw [List.all_eq_true]
  constructor
  · intro h e m
    have := h e m
    simpa using this
  · intro h e m
    have := h e m
    simpa using this
theorem lab_gd {d : PyData} (h : isLabD d = true) : Gd 60 1 d ∧ d.canLay0 = true := by
  obtain ⟨ns, rfl, l1, l12, hb⟩ := isLab_form h
  refine ⟨Gd.ints (k := 4) (m := 12) (fun y hy => ?_) (by omega), lay_ints ns⟩
  have := labI_mem 0 ns hb y hy
  omega
theorem due9_gd (ds : List PyData) : Gd 60 1 (due9D ds) := by
  unfold due9D
  by_cases h : ds.all isLabD = true
  · rw [if_pos h]
    by_cases h2 : alikeL ds = true
    · rw [if_pos h2]
      cases ds with
      | nil => cases h2
      | cons d l =>
        have hd := List.all_eq_true.mp h d (List.mem_cons_self ..)
        obtain ⟨ns, rfl, l1, l12, _⟩ := isLab_form hd
        have e : lenD ((PyData.tuple (ns.map PyData.int) :: l).headD .none) = ns.length := List.length_map ..
        rw [e]
        exact ⟨Nat.le_trans (int_w_lt (k := 4) (by omega)) (by decide), Nat.zero_le _, rfl⟩
    · rw [if_neg h2]
      exact gd_of (by decide +kernel)
  · rw [if_neg h]
    exact gd_of (by decide +kernel)
theorem due9_flat (ds : List PyData) : (due9D ds).hasDict = false := by
  unfold due9D
  split
  · split <;> rfl
  · rfl
theorem all_snoc {ds : List PyData} {d : PyData} (h : ds.all isLabD = true) (hd : isLabD d = true) : (ds ++ [d]).all isLabD = true := by
  rw [List.all_append, h, List.all_cons, hd]
  rfl
theorem all_set {ds : List PyData} {d : PyData} {i : Nat} (h : ds.all isLabD = true) (hd : isLabD d = true) : (ds.set i d).all isLabD = true :=
  List.all_eq_true.mpr fun e m => by
    rcases List.mem_or_eq_of_mem_set m with z | rfl
    · exact List.all_eq_true.mp h e z
    · exact hd
end Wr

/-! texts of numbers -/
namespace PySem
open Sem (wp)
open Builtin Builtin.Str Builtin.Int
section
variable {prog : Program} {w : World} {A : Around} {E : Value → Shared → Prop} {s : Shared}
theorem ws_joinOne {it l : Addr} {x y : Str} {t u : Tok} {Q : Value → Shared → Prop} (hh : A.handled = none) (hit : s.heap.IsRevIter it l (0 : Int)) (hl : s.heap.IsList l #[.str y u]) (hne : l ≠ it)
    (hQ : ∀ (h' : Heap) (tk : Nat) (t' : Tok), (∀ b o, b ≠ it → s.heap.get? b = some o → h'.get? b = some o) → Q (.str y t') { s with heap := h', toks := tk }) :
    wpAny (model prog w) A (call (.builtin "str.join") [.str x t, .ref it]) Q E s := by
  refine wpAny_call (codeAny_call_builtin F.slot_str_join.plain F.entry_str_join (F.slot_str_join.check _ _ _ _ _ _ _ _ (typeIs_str _ _ _) (F.args_str_join_2 _ _) ?_))
  rw [join_tree_other]
  refine wpAny_bind (wpAny_typeOf (Heap.IsRevIter.typeIs hit) ?_)
  show wpAny _ A.in1 ((pyIter (.ref it)).tryCatch _ >>= fun z => collect z >>= fun items => joinTail x items) _ _ s
  refine wpAny_bind (wpAny_tryCatch (wpAny_pyIter_revIter hit ?_))
  refine wpAny_bind (RT.collect_rev (items := #[.str y u]) hh hit hl hne (by show 1 ≤ sizeLine; decide) fun h' tk acc hk hacc => ?_)
  have ea : acc.toList = [.str y u] := by
    obtain ⟨h1, h2⟩ := hacc
    have l1 : acc.toList.length = 1 := by rw [Array.length_toList]; exact h1
    obtain ⟨v, hv⟩ := List.length_eq_one_iff.mp l1
    have := h2 0 v (by rw [← Array.getElem?_toList, hv]; rfl)
    have e2 : (some (Value.str y u) : Option Value) = some v := this
    rw [hv, Option.some.inj e2]
  rw [ea]
  show wpAny _ _ (rule "str.join.same-object" >>= fun _ => ret (Value.str y u)) _ _ _
  refine wpAny_bind (wpAny_rule ?_)
  exact wpAny_pure (hQ h' tk u hk)
end
end PySem
namespace Wr
open PySem PySem.Spec PyProof.Rows L2
section
variable {X : Cx}
def tJoinRev (K : PySem.W.Frag) (to te : TE) : TE := fun σ H Q => to σ H fun x H1 => (∃ a, x = .str a) ∧ te σ H1 fun y H2 => ∃ (a : Addr) (z : Str),
  y = .ref a ∧ SqL K H2 a [.str z] ∧ Q (.str z) H2
theorem pe_joinRev {o e : Expr} {to te : TE} {p2 apos pos pos2 : Pos} (hc : X.calm = true) (hg2 : Gl X "reversed") (hm2 : X.mg "reversed" = none) (ho : PE X o to) (he : PE X e te)
    (hs : starEach [e] X.env = (false, eval e X.env) :: starEach [] X.env := by rfl)
    (hs2 : starEach [.Call (.Name "reversed" p2) [e] [] pos2] X.env = [(false, eval (.Call (.Name "reversed" p2) [e] [] pos2) X.env)] := by rfl)
    (hbase : attributeBase o "join" X.env (eval o X.env) = eval o X.env := by rfl) (hline : (apos.endLine == pos.line) = true := by rfl) :
    PE X (.Call (.Attribute o "join" apos) [.Call (.Name "reversed" p2) [e] [] pos2] [] pos) (tJoinRev X.K to te) := by
  refine ⟨fun pins s σ H Q I h => ?_⟩
  refine PySem.Call_method1 hbase hs2 hline (thn (ho.run pins s σ H _ I h) fun v s1 ⟨x, H1, I1, r1, q1⟩ => ?_)
  obtain ⟨⟨a, rfl⟩, q1⟩ := q1
  obtain ⟨t, rfl⟩ := _root_.id r1
  refine ⟨"str", _, F.plainAttrs_str, F.slot_str_join, F.type_str_join, typeIs_str _ _ _, (fun _ e => nomatch e), Calls.callWith_builtin rfl (Calls.evalArgs_plain (Calls.spliced_cons ?_))⟩
  refine Call_ (ld_blt I1 hg2 hm2 PyProof.Rows.boot_reversed (PyProof.Rows.callWith_type1 (args_cons (thn (he.run pins s1 σ H1 _ I1 q1) fun u s2 ⟨v, H2, I2, r2, q2⟩ => args_nil ?_) hs) hs rfl))
  obtain ⟨l, z, ev, hq, q⟩ := q2
  subst ev
  obtain rfl : u = Value.ref l := r2
  obtain ⟨its, rv, p', hz⟩ := I2.list hq
  obtain ⟨tz, rfl⟩ : ∃ tz, its = [.str z tz] := by
    cases rv with
    | cons a r =>
      cases r
      obtain ⟨tz, rfl⟩ := a
      exact ⟨tz, rfl⟩
  refine call_reversed_list p'.isList (Calls.spliced_nil ?_)
  have hl := p'.isList
  obtain ⟨ol, hol, _⟩ := id hl
  have hne : l ≠ s2.heap.objs.size := Nat.ne_of_lt (Heap.lt_size hol)
  have k0 : ∀ b o, s2.heap.get? b = some o → (s2.heap.push (revObj l (((#[Value.str z tz] : Array Value).size : Int) - 1))).get? b = some o := fun b o e => Heap.get?_push_of_some _ e
  have I3 : Inv X pins σ H2 { s2 with heap := s2.heap.push (revObj l (((#[Value.str z tz] : Array Value).size : Int) - 1)) } := I2.kept (t' := s2.toks) k0
  obtain ⟨f0, f1, f2, f3, f4, f5⟩ := I2.fpOk (H' := H2) (b := s2.heap.objs.size) (Nat.le_refl _) (I2.hok.fresh (Nat.le_refl _))
  refine PySem.ws_joinOne (s := { s2 with heap := s2.heap.push (revObj l (((#[Value.str z tz] : Array Value).size : Int) - 1)) }) (I2.ok.hd hc) ⟨_, Heap.get?_push_size _ rfl, rfl, rfl⟩ (hl.push _) hne fun h' tk t' hk => ?_
  exact ⟨.str z, H2, I3.turned (t' := tk) (fun b o hb e => hk b o hb e) f0 f1 f3 f4 f5, ⟨t', rfl⟩, q⟩
end
/-- the text of a number below 10^13 -/
def sp_digits : Sp := fun vs H Q _ => ∃ n : Nat, vs = [.int (n : Int)] ∧ n < 10 ^ 20 ∧ ∀ H', Same H H' → Q (.str (SX.S (TL.numL n))) H'
def sp_number : Sp := fun vs H Q _ => ∃ l : List Nat, vs = [.str (SX.S l)] ∧ NumText.AllDigits l ∧ l ≠ [] ∧ l.length ≤ 40 ∧ Q (.int ((NumText.digitsVal l : Nat) : Int)) H
/-! texts with a sign -/
def textZ (i : Int) : List Nat := if i < 0 then 45 :: TL.numL i.natAbs else TL.numL i.natAbs
theorem isDigit_of {c : Nat} (h : 48 ≤ c ∧ c ≤ 57) : Unicode.isDigit c = true := by
  have key : ∀ d, d < 10 → Unicode.isDigit (48 + d) = true := by decide +kernel
  have := key (c - 48) (by omega)
  rw [show 48 + (c - 48) = c by omega] at this
  exact this
theorem ascii_digits {l : List Nat} (h : NumText.AllDigits l) : Txt.isascii (SX.S l) = true := by
  unfold Txt.isascii
  rw [Array.all_eq_true']
  intro c hc
  have := h c (by simpa using hc)
  exact decide_eq_true (by omega)
theorem digit_digits {l : List Nat} (h : NumText.AllDigits l) (h0 : l ≠ []) : Txt.isdigit (SX.S l) = true := by
  unfold Txt.isdigit
  rw [Bool.and_eq_true]
  refine ⟨?_, ?_⟩
  · rw [SX.S_len]
    exact decide_eq_true (List.length_pos_iff.mpr h0)
  · rw [Array.all_eq_true']
    intro c hc
    exact isDigit_of (h c (by simpa using hc))
theorem sub_minus (c : Nat) (l : List Nat) : Builtin.Str.subAt (SX.S (c :: l)) (SX.S [45]) 0 = decide (c = 45) := by
  unfold Builtin.Str.subAt
  show ((c :: l).toArray.extract 0 1 == #[45]) = _
  rw [show (c :: l).toArray.extract 0 1 = #[c] from by simp]
  by_cases h : c = 45
  · subst h; rfl
  · rw [decide_eq_false h]
    simpa using h
theorem starts_minus (c : Nat) (l : List Nat) : Txt.startswith (SX.S (c :: l)) (SX.S [45]) = decide (c = 45) := by
  unfold Txt.startswith
  rw [sub_minus, SX.S_len, SX.S_len]
  rw [show decide (0 + [45].length ≤ (c :: l).length) = true from decide_eq_true (by rw [List.length_cons]; show 0 + 1 ≤ l.length + 1; omega), Bool.true_and]
theorem remove_minus (c : Nat) (l : List Nat) : Txt.removeprefix (SX.S (c :: l)) (SX.S [45]) = if c = 45 then SX.S l else SX.S (c :: l) := by
  unfold Txt.removeprefix
  rw [sub_minus, SX.S_len, SX.S_len]
  by_cases h : c = 45
  · subst h
    rw [if_pos rfl, if_pos (decide_eq_true rfl)]
    unfold Txt.affix
    show (if ((45 :: l).length - [45].length == (SX.S (45 :: l)).length) = true then _ else _) = _
    rw [if_neg (by rw [SX.S_len, List.length_cons]; simp)]
    unfold Builtin.Str.strSub
    show (⟨(45 :: l).toArray.extract 1 (l.length + 1)⟩ : Str) = ⟨l.toArray⟩
    simp
  · rw [if_neg h, if_neg (by simpa using h)]
    rfl
theorem textZ_neg {i : Int} (h : i < 0) : textZ i = 45 :: TL.numL i.natAbs := if_pos h
theorem textZ_pos {i : Int} (h : ¬ i < 0) : textZ i = TL.numL i.natAbs := if_neg h
theorem numL_head (n : Nat) : ∃ c l, TL.numL n = c :: l ∧ c ≠ 45 := by
  cases e : TL.numL n with
  | nil => exact absurd e (TL.numL_ne n)
  | cons c l =>
    have := TL.numL_digits n c (by rw [e]; exact List.mem_cons_self ..)
    exact ⟨c, l, rfl, by omega⟩
theorem numL_len20 {n : Nat} (h : n < 10 ^ 20) : (TL.numL n).length ≤ 20 := TL.numL_len (by decide) h
def sp_intOf : Sp := fun vs H Q _ => ∃ i : Int, vs = [.str (SX.S (textZ i))] ∧ i.natAbs < 10 ^ 20 ∧ Q (.int i) H
def prD (p : Int × Int) : PyData := .tuple [.int p.1, .int p.2]
def fracL (p : Int × Int) : List Nat := if p.2 = 1 then textZ p.1 else textZ p.1 ++ 47 :: TL.numL p.2.natAbs
/-- a fraction is written; what is none is refused -/
def sp_format (C : Addr) : Sp := fun vs H Q E => ∃ (v : V) (d : PyData) (z : Prop) (B : Addr → Prop), vs = [v] ∧ DV z B H v d ∧
  (isFrac d = false → ∀ H', Same H H' → E (.ref C) none H') ∧
  (isFrac d = true → ∃ p : Int × Int, d = prD p ∧ p.1.natAbs < 10 ^ 20 ∧ p.2.natAbs < 10 ^ 20 ∧ ∀ H', Same H H' → Q (.str (SX.S (fracL p))) H')
theorem textZ_free (i : Int) : 47 ∉ textZ i := by
  unfold textZ
  split
  · intro h
    rcases List.mem_cons.mp h with h | h
    · cases h
    · exact TL.numL_free (.inl (by decide)) h
  · exact TL.numL_free (.inl (by decide))
def partsF (p : Int × Int) : List (List Nat) := if p.2 = 1 then [textZ p.1] else [textZ p.1, TL.numL p.2.natAbs]
theorem split_frac (p : Int × Int) : Txt.split (SX.S (fracL p)) (SX.S [47]) = (partsF p).map SX.S := by
  rw [SX.split_S (by simp) (by decide)]
  congr 1
  have e : fracL p = TL.joinL [47] (partsF p) := by
    unfold fracL partsF
    split
    · rfl
    · show textZ p.1 ++ 47 :: _ = textZ p.1 ++ ([47] ++ _)
      rfl
  rw [e]
  refine SX.spl_join (by unfold partsF; split <;> simp) fun q m => ?_
  unfold partsF at m
  split at m
  · rw [List.mem_singleton.mp m]; exact textZ_free _
  · rcases List.mem_cons.mp m with h | h
    · rw [h]; exact textZ_free _
    · rw [List.mem_singleton.mp h]; exact TL.numL_free (.inl (by decide))
theorem fracL_len {p : Int × Int} (h1 : p.1.natAbs < 10 ^ 20) (h2 : p.2.natAbs < 10 ^ 20) : (fracL p).length ≤ 60 := by
  have l1 := numL_len20 h1
  have l2 := numL_len20 h2
  have l3 : (textZ p.1).length ≤ 21 := by
    unfold textZ
    split
    · rw [List.length_cons]; omega
    · omega
  unfold fracL
  split
  · omega
  · rw [List.length_append, List.length_cons]; omega
theorem numL_textZ {b : Int} (h : 0 ≤ b) : TL.numL b.natAbs = textZ b := (textZ_pos (by omega)).symm
def sp_parse : Sp := fun vs H Q _ => ∃ p : Int × Int, vs = [.str (SX.S (fracL p))] ∧ isFrac (prD p) = true ∧ p.1.natAbs < 10 ^ 20 ∧ p.2.natAbs < 10 ^ 20 ∧
  ∀ (a : Addr) (H' : Hp), Same H H' → H a = none → H' a = some (.tup [.int p.1, .int p.2]) → Q (.ref a) H'
def valsF (p : Int × Int) : List Int := if p.2 = 1 then [p.1] else [p.1, p.2]
theorem partsF_vals {p : Int × Int} (h : 0 ≤ p.2) : partsF p = (valsF p).map textZ := by
  unfold partsF valsF
  split
  · rfl
  · rw [numL_textZ h]
    rfl
/-- top and bottom in lowest terms -/
def lowP (t b : Int) : Int × Int := (t / ((Int.gcd t b : Nat) : Int), b / ((Int.gcd t b : Nat) : Int))
theorem lowP_frac {t b : Int} (h : 0 < b) : isFrac (prD (lowP t b)) = true := by
  have g0 := gcd_posR (t := t) (show b ≠ 0 by omega)
  show (decide (1 ≤ b / ((Int.gcd t b : Nat) : Int)) && decide (Int.gcd (t / ((Int.gcd t b : Nat) : Int)) (b / ((Int.gcd t b : Nat) : Int)) = 1)) = true
  rw [Bool.and_eq_true, decide_eq_true_eq, decide_eq_true_eq]
  refine ⟨?_, ?_⟩
  · have hd : ((Int.gcd t b : Nat) : Int) ∣ b := Int.gcd_dvd_right t b
    have hle := Int.le_of_dvd h hd
    exact (Int.le_ediv_iff_mul_le (by omega)).mpr (by omega)
  · rw [Int.gcd_ediv (Int.gcd_dvd_left t b) (Int.gcd_dvd_right t b), Int.natAbs_natCast, Nat.div_self g0]
theorem lowP_le {t b : Int} (h : 0 < b) : (lowP t b).1.natAbs ≤ t.natAbs ∧ (lowP t b).2.natAbs ≤ b.natAbs := by
  have g0 := gcd_posR (t := t) (show b ≠ 0 by omega)
  exact ⟨natAbs_ediv_le _ (by omega), natAbs_ediv_le _ (by omega)⟩
def sp_lowP : Sp := fun vs H Q _ => ∃ t b : Int, vs = [.int t, .int b] ∧ 0 < b ∧ b.natAbs < 2 ^ 4000 ∧
  ∀ (p : Addr) (H' : Hp), Same H H' → H p = none → H' p = some (.tup [.int (lowP t b).1, .int (lowP t b).2]) → Q (.ref p) H'
/-! ### plain data alike -/
def leafD : PyData → Bool
  | .int _ => true
  | .str _ => true
  | .bool _ => true
  | .none => true
  | _ => false
def plD : Nat → PyData → Bool
  | 0, d => leafD d
  | n + 1, d => leafD d || (match d with | .tuple ds => ds.all (plD n) && decide (ds.length ≤ 1000) | _ => false)
def sp_same (n : Nat) : Sp := fun vs H Q _ => ∃ (v1 v2 : V) (d : PyData) (z1 z2 : Prop) (B1 B2 : Addr → Prop), vs = [v1, v2] ∧ DV z1 B1 H v1 d ∧ DV z2 B2 H v2 d ∧ plD n d = true ∧
  ∀ H', Same H H' → Q (.bl true) H'
theorem plD_tup {n : Nat} {ds : List PyData} (h : plD n (.tuple ds) = true) : ∃ m, n = m + 1 ∧ (∀ e ∈ ds, plD m e = true) ∧ ds.length ≤ 1000 := by
  cases n with
  | zero => cases h
  | succ m =>
    refine ⟨m, rfl, ?_⟩
    have h' : (leafD (.tuple ds) || (ds.all (plD m) && decide (ds.length ≤ 1000))) = true := h
    rw [show leafD (.tuple ds) = false from rfl, Bool.false_or, Bool.and_eq_true, List.all_eq_true, decide_eq_true_eq] at h'
    exact h'
theorem plD_leaf {n : Nat} {d : PyData} (h : plD n d = true) (hT : isT d = false) : leafD d = true := by
  cases n with
  | zero => exact h
  | succ m =>
    cases d with
    | tuple ds => cases hT
    | list ds =>
      have h' : (leafD (.list ds) || false) = true := h
      cases h'
    | dict ds =>
      have h' : (leafD (.dict ds) || false) = true := h
      cases h'
    | _ => rfl
end Wr

/-! while an exception is handled: walks that end, calls of defs -/
namespace PySem
open Sem (wp)
open Builtin Builtin.Str Builtin.Int PyProof.Rows HotX
section
variable {prog : Program} {w : World} {A : Around} {E : Value → Shared → Prop} {s : Shared}
/-- StopIteration is made while x1 is handled, and caught at once -/
theorem ws_stopHot {β : Type} {x1 : Addr} {h1 : Heap} {Q : β → Shared → Prop} {R : Sem β} (hot : HotAt A x1 h1) (e : R = ((newExc (.type "StopIteration") [] >>= fun e => raiseNew e) : Sem β))
    (hQ : ∀ (a : Addr) (h' : Heap), (∀ b o, h1.get? b = some o → h'.get? b = some o) → (∃ o, h'.get? a = some o ∧ o.cls = .type "StopIteration") → E (.ref a) { s with heap := h' }) :
    wpAny (model prog w) A R Q E { s with heap := h1 } := by
  subst e
  obtain ⟨hh, o1, vs1, g1, d1, c1⟩ := hot
  refine wpAny_bind ?_
  simp only [newExc, newTuple]
  refine wpAny_bind (wpAny_newObj_type ?_ (by size_fits))
  refine wpAny_bind (m := firstArgMember _ _) (wpAny_of_eq (a := Value.none) (by first | rfl | (simp only [firstArgMember]; rfl)) ?_)
  refine wpAny_newObj_type ?_ (by size_fits)
  refine raiseNew_hot ⟨hh, o1, vs1, Heap.get?_push_of_some _ (Heap.get?_push_of_some _ g1), d1, c1⟩ (Nat.ne_of_lt (Heap.lt_size (Heap.get?_push_of_some _ g1))) (Heap.get?_push_size _ rfl) rfl (by first | (simp; done) | (simp; omega) | (simp only [Array.size_append]; simp; omega)) ?_
  refine hQ _ _ (fun b o e => ?_) ⟨_, Heap.get?_update_self _ (Heap.get?_push_size _ rfl) rfl, rfl⟩
  rw [Heap.get?_update_other _ _ (Nat.ne_of_gt (Heap.lt_size (Heap.get?_push_of_some _ e)))]
  exact Heap.get?_push_of_some _ (Heap.get?_push_of_some _ e)
/-- the handled exception is no object of two fields -/
theorem hot_ne {x1 it : Addr} {h1 : Heap} {o : Obj} {a b : Value} (hot : HotAt A x1 h1) (e : h1.get? it = some o) (d : o.data = .fields #[a, b]) : x1 ≠ it := by
  obtain ⟨hh, o1, vs1, g1, d1, c1⟩ := hot
  intro z
  subst z
  rw [g1] at e
  cases e
  rw [d1] at d
  cases d
  cases c1
theorem hot_but {x1 it : Addr} {h1 h2 : Heap} (hot : HotAt A x1 h1) (ne : x1 ≠ it) (k : Heap.ExtBut it h1 h2) : HotAt A x1 h2 := by
  obtain ⟨hh, o1, vs1, g1, d1, c1⟩ := hot
  exact ⟨hh, o1, vs1, k _ _ ne g1, d1, c1⟩
theorem ws_tupEndH {it t x1 : Addr} {i : Nat} {items} {Q : Option Value → Shared → Prop} (hot : HotAt A x1 s.heap)
    (hit : IsTupIter s.heap it t i) (ht : IsTup s.heap t items) (hx : items[i]? = none)
    (hQ : ∀ h', Heap.ExtBut it s.heap h' → Q none { s with heap := h' }) : wpAny (model prog w) A (pyNext (.ref it)) Q E s := by
  obtain ⟨o, ho, hc, hd⟩ := id hit
  obtain ⟨ol, hol, _, nl, hdl⟩ := ht
  have ne := hot_ne hot ho hd
  unfold pyNext
  refine wpAny_bind (wpAny_attempt (wpAny_callSpecial?_slot (name := Str.ofString "__next__") hit.typeIs slot_tupleiter_next
    (wpAny_call_entry slot_tupleiter_next hit.typeIs entry_tupleiter_next ?_ (args_tupleiter_next _))))
  show wpAny _ _ (field (.ref it) 0 >>= _) _ _ s
  refine wpAny_bind (wpAny_field ho hd (x := .ref t) rfl ?_)
  show wpAny _ _ (if (Value.ref t == Value.none) = true then _ else _) _ _ s
  rw [if_neg (show ¬ ((Value.ref t == Value.none) = true) from Bool.false_ne_true)]
  show wpAny _ _ (field (.ref it) 1 >>= _) _ _ s
  refine wpAny_bind (wpAny_field ho hd (x := .int i 0) rfl ?_)
  show wpAny _ _ (seqItems? (.ref t) >>= _) _ _ s
  refine wpAny_bind (wpAny_seqItems hol hdl ?_)
  simp only [Int.toNat_natCast, hx]
  refine wpAny_bind (wpAny_rule (wpAny_bind (wpAny_setField ho hd (by simp) ?_)))
  show wpAny _ _ (newExc (.type "StopIteration") [] >>= _) _ _ _
  refine ws_stopHot (A := A.in1) (s := s) (hot_but (A := A.in1) hot ne (Heap.SameBut.update ..).extBut) rfl fun a h' k ⟨o', ga, gc⟩ => ?_
  refine wpAny_bind (wpAny_isInstance (T := "StopIteration") (b := true) ⟨_, ga, gc⟩ isSubtype_stop ?_)
  exact wpAny_pure (hQ _ fun b ob hb e => k b ob ((Heap.SameBut.update ..).extBut b ob hb e))
theorem ws_unpackH {t x1 : Addr} {items : Array Value} {Q : List Value → Shared → Prop} (hot : HotAt A x1 s.heap) (ht : IsTup s.heap t items)
    (hQ : ∀ h', Heap.ExtBut s.heap.objs.size s.heap h' → Q items.toList { s with heap := h' }) : wpAny (model prog w) A (unpackItems (.ref t) items.size none) Q E s := by
  have hlt : t ≠ s.heap.objs.size := by obtain ⟨o, ho, _⟩ := ht; exact Nat.ne_of_lt (Heap.lt_size ho)
  have hx1 : x1 ≠ s.heap.objs.size := by obtain ⟨_, o, vs, g, _⟩ := hot; exact Nat.ne_of_lt (Heap.lt_size g)
  have hall : List.take items.size (List.drop 0 items.toList) = items.toList := by
    rw [List.drop_zero]
    exact List.take_of_length_le (by simp)
  unfold unpackItems
  refine wpAny_bind ?_
  unfold notIterableAtAll
  refine wpAny_bind (wpAny_specialOf ht.typeIs slot_tuple_iter.lookup (wpAny_pure ?_))
  simp only [Bool.false_eq_true, if_false]
  refine wpAny_bind (wpAny_holding (iter_tuple ht ?_))
  refine wpAny_bind (wpAny_holding (draw_tuple hlt items.size 0 _ _ ⟨_, Heap.get?_push_size _ rfl, rfl, rfl⟩ (ht.push _) (by omega) fun h₁ hit₁ hs₁ => ?_))
  have k1 : Heap.ExtBut s.heap.objs.size s.heap h₁ := fun b o hb e => hs₁.extBut b o hb (Heap.get?_push_of_some _ e)
  rw [hall]
  rw [if_neg (by simp)]
  refine wpAny_bind (wpAny_holding (ws_tupEndH (s := { s with heap := h₁ }) (hot_but hot hx1 k1) hit₁ ((ht.push _).extBut hs₁.extBut hlt) (by simp) fun h₂ he₂ => ?_))
  simp only [Option.isSome_none, Bool.false_eq_true, if_false]
  exact wpAny_pure (hQ h₂ fun b o hb e => he₂ b o hb (k1 b o hb e))
theorem ws_assignTupH {env : Env} {elts : List Expr} {k1} {pos : Pos} {t x1 : Addr} {items : Array Value} {Q : Unit → Shared → Prop} (hot : HotAt A x1 s.heap) (ht : IsTup s.heap t items)
    (hn : (assignEach elts env).length = items.size) (hstar : (assignEach elts env).findIdx? (·.1) = none)
    (h : ∀ h', Heap.ExtBut s.heap.objs.size s.heap h' → wpAny (model prog w) A (assignInOrder ((assignEach elts env).map (·.2)) items.toList) Q E { s with heap := h' }) :
    wpAny (model prog w) A (assign (.Tuple elts k1 pos) env (.ref t)) Q E s := by
  rw [assign_Tuple]
  refine wpAny_bind (wpAny_standAt ?_)
  unfold unpack
  rw [hn, hstar]
  exact wpAny_bind (wpAny_holding (ws_unpackH hot ht h))
/-! a reversed list's end -/
theorem ws_revEndH {it l x1 : Addr} {Q : Option Value → Shared → Prop} (hot : HotAt A x1 s.heap) (hit : s.heap.IsRevIter it l (-1))
    (hQ : ∀ h', Heap.ExtBut it s.heap h' → Q none { s with heap := h' }) : wpAny (model prog w) A (pyNext (.ref it)) Q E s := by
  obtain ⟨o, ho, hc, hd⟩ := id hit
  unfold pyNext
  refine wpAny_bind (wpAny_attempt (wpAny_callSpecial?_slot (name := Str.ofString "__next__") hit.typeIs F.slot_lri_next
    (wpAny_call_entry F.slot_lri_next hit.typeIs F.entry_lri_next ?_ (F.args_lri_next_1 _))))
  unfold Builtin.«list_reverseiterator.__next__»
  refine wpAny_bind (wpAny_of_eq (a := (Value.ref it, [])) rfl ?_)
  try dsimp only
  refine wpAny_bind (wpAny_field ho hd (x := rawInt (-1)) rfl ?_)
  show wpAny _ _ (if (-1 : Int) < 0 then _ else _) _ _ s
  rw [if_pos (by decide)]
  refine wpAny_bind (wpAny_rule ?_)
  refine wpAny_bind (ws_stopHot (A := A.in1) (s := s) (h1 := s.heap) hot rfl fun a h' k ⟨o', ga, gc⟩ => ?_)
  refine wpAny_bind (wpAny_isInstance (T := "StopIteration") (b := true) ⟨_, ga, gc⟩ isSubtype_stop ?_)
  exact wpAny_pure (hQ _ fun b ob hb e => k b ob e)
theorem walkRevH {prog : Program} {w : World} {A : Around} {x1 : Addr} (I l : Addr) (hne : l ≠ I) (hx1 : x1 ≠ I) (items : Array Value) :
    Walks prog w A I [I, l, x1] [I] items.size (fun i v => items[items.size - 1 - i]? = some v) (fun i h => i ≤ items.size ∧ h.IsRevIter I l ((items.size : Int) - 1 - (i : Int)) ∧ h.IsList l items ∧ HotAt A x1 h) where
  sub := fun b hb => by simp at hb; simp [hb]
  frame := fun i h h' x hk => ⟨x.1, x.2.1.at fun o e => hk I (by simp) o e, x.2.2.1.at fun o e => hk l (by simp) o e, by
    obtain ⟨hh, o1, vs1, g1, r⟩ := x.2.2.2
    exact ⟨hh, o1, vs1, hk x1 (by simp) _ g1, r⟩⟩
  item := fun i s Q E hi x hQ => by
    obtain ⟨_, hit, hl, hot⟩ := x
    rw [show (items.size : Int) - 1 - (i : Int) = ((items.size - 1 - i : Nat) : Int) by omega] at hit
    have hx : items[items.size - 1 - i]? = some (items[items.size - 1 - i]'(by omega)) := Array.getElem?_eq_getElem (by omega)
    refine wpAny_pyNext_rev_item hit hl hx fun h' hit' hs' => ?_
    rw [show ((items.size - 1 - i : Nat) : Int) - 1 = (items.size : Int) - 1 - ((i + 1 : Nat) : Int) by omega] at hit'
    exact hQ _ h' s.toks hx ⟨hi, hit', hl.at fun o eo => (hs'.2 l hne).trans eo, hot_but hot hx1 hs'.extBut⟩ fun b o hb eo => hs'.extBut b o (fun h => hb (by simp [h])) eo
  done := fun s Q E x hQ => by
    obtain ⟨_, hit, hl, hot⟩ := x
    rw [show (items.size : Int) - 1 - (items.size : Int) = -1 by omega] at hit
    exact ws_revEndH hot hit fun h' he' => hQ h' s.toks fun b o hb eo => he' b o (fun h => hb (by simp [h])) eo
  self := fun _ _ _ _ x hQ => wpAny_pyIter_revIter x.2.1 hQ
theorem ws_collectRevH {it l x1 : Addr} {items : Array Value} {Q : List Value → Shared → Prop} (hot : HotAt A x1 s.heap) (hit : s.heap.IsRevIter it l ((items.size : Int) - 1)) (hl : s.heap.IsList l items) (hne : l ≠ it) (hn : items.size ≤ sizeLine)
    (hQ : ∀ (h' : Heap) (tk : Nat) (acc : Array Value), (∀ b o, b ≠ it → s.heap.get? b = some o → h'.get? b = some o) → ItemsOf (fun i v => items[items.size - 1 - i]? = some v) acc items.size → Q acc.toList { s with heap := h', toks := tk }) :
    wpAny (model prog w) A (collect (.ref it)) Q E s := by
  have hx1 : x1 ≠ it := by
    obtain ⟨oi, hoi, _, di⟩ := id hit
    exact hot_ne hot hoi di
  have W := (walkRevH (prog := prog) (w := w) (A := A.in1) (x1 := x1) it l hne hx1 items).toS
  obtain ⟨oi, hoi, _⟩ := id hit
  obtain ⟨ol, hol, _⟩ := id hl
  obtain ⟨hh, o1, vs1, g1, d1, c1⟩ := id hot
  have n1 : s.heap.objs.size ≠ it := Nat.ne_of_gt (Heap.lt_size hoi)
  have n2 : s.heap.objs.size ≠ l := Nat.ne_of_gt (Heap.lt_size hol)
  have n3 : s.heap.objs.size ≠ x1 := Nat.ne_of_gt (Heap.lt_size g1)
  have nf : s.heap.objs.size ∉ [it, l, x1] := by simp only [List.mem_cons, List.not_mem_nil, or_false, not_or]; exact ⟨n1, n2, n3⟩
  have nl : Builtin.List.listSameRef (.ref s.heap.objs.size) (.ref it) = false := by simp [Builtin.List.listSameRef, n1]
  have hS : (s.heap.push { cls := .type "list", data := .seq ([] : List Value).toArray }).get? s.heap.objs.size = some { cls := .type "list", data := .seq ([] : List Value).toArray } := Heap.get?_push_size _ rfl
  have i1 : (s.heap.push { cls := .type "list", data := .seq ([] : List Value).toArray }).IsRevIter it l ((items.size : Int) - 1) := hit.at fun o e => Heap.get?_push_of_some _ e
  have hT : ({ s with heap := s.heap.push { cls := .type "list", data := .seq ([] : List Value).toArray } } : Shared).TypeIs (.ref it) "list_reverseiterator" := Heap.IsRevIter.typeIs (s := { s with heap := s.heap.push { cls := .type "list", data := .seq ([] : List Value).toArray } }) i1
  unfold collect
  refine wpAny_bind (wpAny_runValue (codeAny_builtin F.entry_proto_collect ?_))
  rw [Around.under_plainId F.plain_proto_collect _]
  show wpAny _ A.in1 (newList [] >>= fun l' => again (.builtin "list.__iadd__" ⟨[l', .ref it], []⟩)) _ _ s
  refine wpAny_bind (wpAny_newObj_type ?_)
  refine wpAny_pure ⟨plainId_quiet F.plain_list_iadd _, codeAny_builtin F.entry_list_iadd ?_⟩
  rw [Around.under_plainId F.plain_list_iadd _]
  show wpAny _ A.in1 (Builtin.List.listExtendWith (.ref s.heap.objs.size) (.ref it) (.ref s.heap.objs.size)) _ _ _
  unfold Builtin.List.listExtendWith
  refine wpAny_bind (wpAny_typeOf hT ?_)
  rw [if_neg (by rw [nl]; decide)]
  refine wpAny_bind (wpAny_pyIter_revIter (s := { s with heap := s.heap.push { cls := .type "list", data := .seq ([] : List Value).toArray } }) i1 ?_)
  refine wpAny_bind (wpAny_holding ?_)
  unfold Builtin.List.listLengthHint
  refine wpAny_bind (wpAny_specialOf hT RT.nolen_lri ?_)
  show wpAny _ A.in1 (specialOf (Value.ref it) (Str.ofString "__length_hint__") >>= _) _ _ _
  refine wpAny_bind (wpAny_specialOf hT RT.hint_lri ?_)
  generalize hid : ("list_reverseiterator.__length_hint__" : String) = id0
  wp_delta
  rw [show splitId id0 = some ("list_reverseiterator", "__length_hint__") from by subst hid; decide +kernel]
  subst hid
  refine wpAny_bind (wpAny_isInstance (b := true) hT (by rw [isSubtype_type]; kernel_rfl) ?_)
  refine wpAny_pure ?_
  rw [if_neg (by decide)]
  refine wpAny_pure ⟨plainId_quiet F.plain_extend_loop _, codeAny_extend_loopS W hn _ nf _ items.size 0 _ _ _ rfl (Nat.zero_le _)
    ⟨Nat.zero_le _, by rw [show ((items.size : Nat) : Int) - 1 - ((0 : Nat) : Int) = (items.size : Int) - 1 by omega]; exact i1, hl.push _, hh, o1, vs1, Heap.get?_push_of_some _ g1, d1, c1⟩ hS (ItemsOf.nil _) fun s' acc' c' hm hS' hacc => ?_⟩
  show wpAny _ A (load s.heap.objs.size >>= _) _ _ s'
  refine wpAny_bind (wpAny_load hS' (wpAny_pure ?_))
  rw [Moved.eq_with hm]
  refine hQ s'.heap s'.toks acc' (fun b o hb e => hm.heap b o (fun hmem => ?_) (Heap.get?_push_of_some _ e)) hacc
  rcases List.mem_cons.mp hmem with e' | hmem
  · exact absurd (Heap.lt_size e) (by rw [e']; exact Nat.lt_irrefl _)
  · exact hb (List.mem_singleton.mp hmem)
theorem ws_joinOneH {it l x1 : Addr} {x y : Str} {t u : Tok} {Q : Value → Shared → Prop} (hot : HotAt A x1 s.heap) (hit : s.heap.IsRevIter it l (0 : Int)) (hl : s.heap.IsList l #[.str y u]) (hne : l ≠ it)
    (hQ : ∀ (h' : Heap) (tk : Nat) (t' : Tok), (∀ b o, b ≠ it → s.heap.get? b = some o → h'.get? b = some o) → Q (.str y t') { s with heap := h', toks := tk }) :
    wpAny (model prog w) A (call (.builtin "str.join") [.str x t, .ref it]) Q E s := by
  refine wpAny_call (codeAny_call_builtin F.slot_str_join.plain F.entry_str_join (F.slot_str_join.check _ _ _ _ _ _ _ _ (typeIs_str _ _ _) (F.args_str_join_2 _ _) ?_))
  rw [join_tree_other]
  refine wpAny_bind (wpAny_typeOf (Heap.IsRevIter.typeIs hit) ?_)
  show wpAny _ A.in1 ((pyIter (.ref it)).tryCatch _ >>= fun z => collect z >>= fun items => joinTail x items) _ _ s
  refine wpAny_bind (wpAny_tryCatch (wpAny_pyIter_revIter hit ?_))
  refine wpAny_bind (ws_collectRevH (A := A.in1) (items := #[.str y u]) hot hit hl hne (by show 1 ≤ sizeLine; decide) fun h' tk acc hk hacc => ?_)
  have ea : acc.toList = [.str y u] := by
    obtain ⟨h1, h2⟩ := hacc
    have l1 : acc.toList.length = 1 := by rw [Array.length_toList]; exact h1
    obtain ⟨v, hv⟩ := List.length_eq_one_iff.mp l1
    have := h2 0 v (by rw [← Array.getElem?_toList, hv]; rfl)
    have e2 : (some (Value.str y u) : Option Value) = some v := this
    rw [hv, Option.some.inj e2]
  rw [ea]
  show wpAny _ _ (rule "str.join.same-object" >>= fun _ => ret (Value.str y u)) _ _ _
  refine wpAny_bind (wpAny_rule ?_)
  exact wpAny_pure (hQ h' tk u hk)
end
end PySem
namespace Wr
open PySem PySem.Spec PyProof.Rows L2 L2H HotX
section
variable {X : Cx}
theorem pg_tupH {es : List Expr} {k : Nat} {t : TGs} {n : Nat} {pos : Pos} (hc : HotC X) (h : PGs X es t)
    (hn : (assignEach es X.env).length = n := by rfl) (hst : (assignEach es X.env).findIdx? (·.1) = none := by rfl) : PG X (.Tuple es k pos) (gTup X.K n t) := by
  refine ⟨fun pins s σ H v u Q I r hw => ?_⟩
  obtain ⟨a, xs, rfl, hq, hl, hw⟩ := hw
  cases r
  obtain ⟨its, rv, ht, hz⟩ := I.tuple hq
  obtain ⟨x1, hot⟩ := hc.at I
  refine ws_assignTupH hot ht (by simp [hn, ← hl, rv.length]) hst fun h' hx => ?_
  have I1 : Inv X pins σ H { s with heap := h' } := I.kept (t' := s.toks) fun b o e => hx b o (Nat.ne_of_lt (Heap.lt_size e)) e
  exact h.run pins _ σ H xs _ Q I1 (by simpa using rv) hw
theorem ps_parH {i j : Nat} {x y : Str} {a b : Expr} {ta : TA} {px py pt : Pos} {kt k2 pt2} {pos : Pos} (hc : HotC X) (hN : X.N.Nodup) (hi : X.N[i]? = some x) (hj : X.N[j]? = some y) (hij : i ≠ j)
    (hx : X.env.scope.names.lookup x = some .local) (hy : X.env.scope.names.lookup y = some .local) (ha : PA X [a, b] ta)
    (hw : swappedStores [.Tuple [.Name x px, .Name y py] kt pt] (.Tuple [a, b] k2 pt2) X.env = pure (some [x, y]))
    (hs : swapsWithSole [.Tuple [.Name x px, .Name y py] kt pt] (.Tuple [a, b] k2 pt2) pos.line X.env = pure false := by rfl) :
    PS X (.Assign [.Tuple [.Name x px, .Name y py] kt pt] (.Tuple [a, b] k2 pt2) pos) (tPar i j ta) := by
  refine ⟨fun pins s σ H D I h => ?_⟩
  rw [exec_Assign_arm]
  refine wpAny_bind (wpAny_standAt ?_)
  rw [hs]
  refine wpAny_bind (wpAny_pure ?_)
  rw [if_neg (by decide)]
  refine wpAny_bind (Tuple_ (thn (ha.run _ pins s σ H _ I h) fun us s1 ⟨vs, H1, I1, r1, v, w, e1, q1⟩ => ?_))
  subst e1
  obtain ⟨u1, u2, rfl, rv, rw'⟩ : ∃ u1 u2, us = [u1, u2] ∧ RelV v u1 ∧ RelV w u2 := by
    cases r1 with
    | cons p q =>
      cases q with
      | cons p' q' =>
        cases q'
        exact ⟨_, _, rfl, p, p'⟩
  refine wpAny_newObj_type ?_ (by show 2 ≤ sizeLine; decide)
  have I2 : Inv X pins σ H1 { s1 with heap := s1.heap.push { cls := .type "tuple", data := .seq [u1, u2].toArray } } := I1.kept (t' := s1.toks) fun b o e => Heap.get?_push_of_some _ e
  obtain ⟨x1, hot⟩ := hc.at I2
  rw [hw]
  refine wpAny_bind (wpAny_pure ?_)
  show wpAny (model X.prog X.w) X.A (do rule "assign.swapped-stores"; let items ← unpackItems (.ref s1.heap.objs.size) 2 none; assignInOrder [fun v => bindName X.env y v, fun v => bindName X.env x v] items.reverse; pure Flow.next) _ _ _
  refine wpAny_bind (wpAny_rule (wpAny_bind (ws_unpackH (s := { s1 with heap := s1.heap.push { cls := .type "tuple", data := .seq [u1, u2].toArray } }) (items := #[u1, u2]) hot (IsTup.new s1.heap _) fun h' hx' => ?_)))
  have I3 := I2.kept (h' := h') (t' := s1.toks) fun b o e => hx' b o (Nat.ne_of_lt (Heap.lt_size e)) e
  show wpAny _ _ (assignInOrder [fun v => bindName X.env y v, fun v => bindName X.env x v] [u2, u1] >>= fun _ => pure Flow.next) _ _ _
  refine wpAny_bind (assignInOrder_cons (wpAny_bindName (store_ok I3 hN hj (.inl hy) rw' (fun s2 I4 => ?_) (.inr hy))))
  refine assignInOrder_cons (wpAny_bindName (store_ok I4 hN hi (.inl hx) rv (fun s3 I5 => assignInOrder_nil (wpAny_pure ?_)) (.inr hx)))
  rw [List.set_comm _ _ (Ne.symm hij)] at I5
  exact ⟨_, H1, I5, q1⟩
theorem pe_joinRevH {o e : Expr} {to te : TE} {p2 apos pos pos2 : Pos} (hc : HotC X) (hg2 : Gl X "reversed") (hm2 : X.mg "reversed" = none) (ho : PE X o to) (he : PE X e te)
    (hs : starEach [e] X.env = (false, eval e X.env) :: starEach [] X.env := by rfl)
    (hs2 : starEach [.Call (.Name "reversed" p2) [e] [] pos2] X.env = [(false, eval (.Call (.Name "reversed" p2) [e] [] pos2) X.env)] := by rfl)
    (hbase : attributeBase o "join" X.env (eval o X.env) = eval o X.env := by rfl) (hline : (apos.endLine == pos.line) = true := by rfl) :
    PE X (.Call (.Attribute o "join" apos) [.Call (.Name "reversed" p2) [e] [] pos2] [] pos) (tJoinRev X.K to te) := by
  refine ⟨fun pins s σ H Q I h => ?_⟩
  refine PySem.Call_method1 hbase hs2 hline (thn (ho.run pins s σ H _ I h) fun v s1 ⟨x, H1, I1, r1, q1⟩ => ?_)
  obtain ⟨⟨a, rfl⟩, q1⟩ := q1
  obtain ⟨t, rfl⟩ := _root_.id r1
  refine ⟨"str", _, F.plainAttrs_str, F.slot_str_join, F.type_str_join, typeIs_str _ _ _, (fun _ e => nomatch e), Calls.callWith_builtin rfl (Calls.evalArgs_plain (Calls.spliced_cons ?_))⟩
  refine Call_ (ld_blt I1 hg2 hm2 PyProof.Rows.boot_reversed (PyProof.Rows.callWith_type1 (args_cons (thn (he.run pins s1 σ H1 _ I1 q1) fun u s2 ⟨v, H2, I2, r2, q2⟩ => args_nil ?_) hs) hs rfl))
  obtain ⟨l, z, ev, hq, q⟩ := q2
  subst ev
  obtain rfl : u = Value.ref l := r2
  obtain ⟨its, rv, p', hz⟩ := I2.list hq
  obtain ⟨tz, rfl⟩ : ∃ tz, its = [.str z tz] := by
    cases rv with
    | cons a r =>
      cases r
      obtain ⟨tz, rfl⟩ := a
      exact ⟨tz, rfl⟩
  refine call_reversed_list p'.isList (Calls.spliced_nil ?_)
  have hl := p'.isList
  obtain ⟨ol, hol, _⟩ := id hl
  have hne : l ≠ s2.heap.objs.size := Nat.ne_of_lt (Heap.lt_size hol)
  have k0 : ∀ b o, s2.heap.get? b = some o → (s2.heap.push (revObj l (((#[Value.str z tz] : Array Value).size : Int) - 1))).get? b = some o := fun b o e => Heap.get?_push_of_some _ e
  have I3 : Inv X pins σ H2 { s2 with heap := s2.heap.push (revObj l (((#[Value.str z tz] : Array Value).size : Int) - 1)) } := I2.kept (t' := s2.toks) k0
  obtain ⟨f0, f1, f2, f3, f4, f5⟩ := I2.fpOk (H' := H2) (b := s2.heap.objs.size) (Nat.le_refl _) (I2.hok.fresh (Nat.le_refl _))
  obtain ⟨x1, hot⟩ := hc.at I3
  refine PySem.ws_joinOneH (s := { s2 with heap := s2.heap.push (revObj l (((#[Value.str z tz] : Array Value).size : Int) - 1)) }) hot ⟨_, Heap.get?_push_size _ rfl, rfl, rfl⟩ (hl.push _) hne fun h' tk t' hk => ?_
  exact ⟨.str z, H2, I3.turned (t' := tk) (fun b o hb e => hk b o hb e) f0 f1 f3 f4 f5, ⟨t', rfl⟩, q⟩
/-- a row that is not reached -/
theorem ps_no {st : Stmt} : PS X st (fun _ _ _ => False) := ⟨fun _ _ _ _ _ _ h => h.elim⟩
theorem pss_no {st : List Stmt} : PSs X st (fun _ _ _ => False) := ⟨fun _ _ _ _ _ _ h => h.elim⟩
theorem passAt0 {σ : L2.St} {E : XK} : PassesAt CX0 X σ E := fun _ _ _ _ _ _ h => h.elim
theorem roomH_mk {k : Nat} {A : Around} (r : Room k A) (h : Option Value) : RoomH k (A.mark h) := ⟨r.dp, r.un⟩
theorem takesN0 : L2N.Takes X (fun _ _ _ _ => False) := fun _ _ x => by
  obtain ⟨_, _, _, _, _, _, _, _, _, _, _, _, _, _, _, _, z⟩ := x
  exact z.elim
/-- isinstance of the error that the suite names -/
def rIsErr (K : PySem.W.Frag) (cls : Value) (d : Option Addr) (a : Addr) : List V → Hp → VK → Prop := fun xs H Q => ∃ D, cls = .ref D ∧ d = none ∧ ExcC K D ∧ rIsE K D a xs H Q
theorem call_isErr {K : PySem.W.Frag} {cls : Value} {d : Option Addr} {a : Addr} {oe : Obj} {pn : List (Addr × Obj)} (hK : X.K = K) (hz : Zc cls d oe) (hf : ∃ vs, oe.data = .fields vs) :
    CallR (X.suite a ((a, oe) :: pn)) (.builtin "isinstance") (rIsErr K cls d a) := by
  subst hK
  intro pins s σ H xs us Q I r h
  obtain ⟨D, rfl, rfl, C, h⟩ := h
  exact call_isE C hz hf pins s σ H xs us Q I r h
theorem hot_suite {a : Addr} {oe : Obj} {cls : Value} {d : Option Addr} {pn : List (Addr × Obj)} (hz : L2N.Zn cls d oe) (hf : ∃ vs, oe.data = .fields vs) : HotC (X.suite a ((a, oe) :: pn)) := by
  obtain ⟨vs, hv⟩ := hf
  exact ⟨(a, oe), ⟨rfl, vs, hv, hz.2.2 vs hv⟩, List.mem_cons_self⟩
end
section
variable {P : Program} {w : World} {K : PySem.W.Frag} {mg : Str → Option Value} {base : Heap}
theorem okH {x qual : Str} {st : Stmt} {f : Addr} {fd : FuncData} {N ps : List Str} {k : Nat} {sp : Sp} (F : L2.Fun K x qual st f fd) (S : FnScope N ps (defScope st)) (len : ∀ vs H Q E, sp vs H Q E → vs.length = ps.length)
    (hbody : ∀ (cdv : Value) (A : Around) (outer : List Env) (s : Shared) (H : Hp) (vs : List V) (Q : VK) (E : XK) (p : Addr × Obj), HotC (cxH CX0 P w K mg base N qual (defScope st) f cdv A outer s H E p).nox → RoomH k (A.deeper (envOfC qual (defScope st) s.heap.objs.size f cdv)) → sp vs H Q E →
      ∃ t, PSs (cxH CX0 P w K mg base N qual (defScope st) f cdv A outer s H E p).nox (defBody st) t ∧ t { nx := fun _ H' => Q .non H', rt := Q } (L2.start N vs) H) : FnH P w K mg base CX0 (k + 1) f fd ps sp := by
  obtain ⟨oc, od, kV, doc, pm, an, cdv, ct, osl, rfl, lk, hcd⟩ := F.ex
  refine fn_ofH lk hcd S len fun A outer s H vs Q E p hot hr hsp => ?_
  obtain ⟨t, h, q⟩ := hbody cdv A outer s H vs Q E p ⟨p, hot, List.mem_cons_self⟩ hr hsp
  exact ⟨t, h.nox, q⟩
theorem okN {x qual : Str} {st : Stmt} {f : Addr} {fd : FuncData} {N ps : List Str} {k : Nat} {sp : Sp} (F : L2.Fun K x qual st f fd) (S : FnScope N ps (defScope st)) (len : ∀ vs H Q E, sp vs H Q E → vs.length = ps.length)
    (hbody : ∀ (cdv : Value) (A : Around) (outer : List Env) (s : Shared) (H : Hp) (vs : List V) (Q : VK) (E : XK), Room k (A.deeper (envOfC qual (defScope st) s.heap.objs.size f cdv)) → sp vs H Q E →
      ∃ t, PSs (cxOf (L2N.CX P w) P w K mg base N qual (defScope st) f cdv A outer s H E) (defBody st) t ∧ t { nx := fun _ H' => Q .non H', rt := Q } (L2.start N vs) H) : FnOk P w K mg base (L2N.CX P w) (k + 1) f fd ps sp := by
  obtain ⟨oc, od, kV, doc, pm, an, cdv, ct, osl, rfl, lk, hcd⟩ := F.ex
  exact fn_of lk hcd S len fun A outer s H vs Q E hr hsp => hbody cdv A outer s H vs Q E hr hsp
theorem kitOne_no {c o : Addr} (h1 : PySem.W.subIn K (.ref c) (.ref c) = some true) (h2 : PySem.W.isClsIn K o = true) (h3 : PySem.W.typeIn K (.ref o) = some (.type "type")) (h4 : PySem.W.subIn K (.ref c) (.ref o) = some false) :
    PySem.W.kitOne K (.ref c) (.ref o) = some false := by
  have ne : c ≠ o := fun e => by
    subst e
    rw [h1] at h4
    cases h4
  unfold PySem.W.kitOne
  rw [if_neg (fun h => ne (Value.ref.inj (beq_iff_eq.mp h)))]
  have e2 : ((PySem.W.clsIn K o).isSome && PySem.W.typeIn K (.ref o) == some (.type "type")) = true := by
    rw [show (PySem.W.clsIn K o).isSome = true from h2, h3]
    rfl
  show (if ((PySem.W.clsIn K o).isSome && PySem.W.typeIn K (.ref o) == some (.type "type")) = true then PySem.W.subIn K (.ref c) (.ref o) else none) = some false
  rw [if_pos e2]
  exact h4
end
end Wr

/-! texts that may be no fractions -/
namespace Wr
open PySem PySem.Spec PyProof.Rows L2
def dgB (b : List Nat) : Bool := !b.isEmpty && b.all (fun c => decide (48 ≤ c) && decide (c ≤ 57))
theorem dgB_iff {b : List Nat} : dgB b = true ↔ b ≠ [] ∧ NumText.AllDigits b := by
  unfold dgB
  rw [Bool.and_eq_true, List.all_eq_true]
  constructor
  · rintro ⟨h1, h2⟩
    refine ⟨fun e => (by rw [e] at h1; exact nomatch h1), fun c hc => ?_⟩
    have := h2 c hc
    rw [Bool.and_eq_true, decide_eq_true_eq, decide_eq_true_eq] at this
    exact this
  · rintro ⟨h1, h2⟩
    refine ⟨?_, fun c hc => ?_⟩
    · match b, h1 with
      | [], h1 => exact absurd rfl h1
      | _ :: _, _ => rfl
    · rw [Bool.and_eq_true, decide_eq_true_eq, decide_eq_true_eq]
      exact h2 c hc
def numZ : List Nat → Option Int
  | [] => none
  | c :: r => if c = 45 then (if dgB r = true then some (-((NumText.digitsVal r : Nat) : Int)) else none)
    else if dgB (c :: r) = true then some ((NumText.digitsVal (c :: r) : Nat) : Int) else none
theorem numZ_cons (c : Nat) (r : List Nat) : numZ (c :: r) = if c = 45 then (if dgB r = true then some (-((NumText.digitsVal r : Nat) : Int)) else none)
    else if dgB (c :: r) = true then some ((NumText.digitsVal (c :: r) : Nat) : Int) else none := rfl
theorem dgB_num (n : Nat) : dgB (TL.numL n) = true := dgB_iff.mpr ⟨TL.numL_ne n, TL.numL_digits n⟩
theorem numZ_text (i : Int) : numZ (textZ i) = some i := by
  by_cases h : i < 0
  · rw [textZ_neg h, numZ_cons, if_pos rfl, if_pos (dgB_num _), TL.numL_val]
    congr 1
    omega
  · rw [textZ_pos h]
    obtain ⟨c, l, e, nc⟩ := numL_head i.natAbs
    have hd := dgB_num i.natAbs
    have hv := TL.numL_val i.natAbs
    rw [e] at hd hv ⊢
    rw [numZ_cons, if_neg nc, if_pos hd, hv]
    congr 1
    omega
theorem dv_lt : ∀ (n : Nat) (l : List Nat), l.length = n → NumText.AllDigits l → NumText.digitsVal l < 10 ^ n := by
  intro n
  induction n with
  | zero =>
    intro l hl _
    have : l = [] := List.length_eq_zero_iff.mp hl
    subst this
    decide
  | succ n ih =>
    intro l hl hd
    have ne : l ≠ [] := fun e => by rw [e] at hl; cases hl
    have e := List.dropLast_concat_getLast ne
    have h1 := ih l.dropLast (by rw [List.length_dropLast]; omega) (fun c hc => hd c (by rw [← e]; exact List.mem_append_left _ hc))
    have h2 := hd _ (List.getLast_mem ne)
    rw [← e, NumText.digitsVal_snoc, Nat.pow_succ]
    omega
theorem dv_lt20 {l : List Nat} (h : NumText.AllDigits l) (hl : l.length ≤ 19) : NumText.digitsVal l < 10 ^ 20 :=
  Nat.lt_of_lt_of_le (dv_lt _ l rfl h) (Nat.pow_le_pow_right (by decide) (by omega))
theorem numZ_lt {l : List Nat} {i : Int} (h : numZ l = some i) (hl : l.length ≤ 19) : i.natAbs < 10 ^ 20 := by
  cases l with
  | nil => cases h
  | cons c r =>
    have hl' : r.length + 1 ≤ 19 := hl
    have h' : (if c = 45 then (if dgB r = true then some (-((NumText.digitsVal r : Nat) : Int)) else none)
      else if dgB (c :: r) = true then some ((NumText.digitsVal (c :: r) : Nat) : Int) else none) = some i := h
    split at h'
    · split at h'
      · rename_i hd
        have := dv_lt20 (dgB_iff.mp hd).2 (by omega)
        have := Option.some.inj h'
        omega
      · cases h'
    · split at h'
      · rename_i hd
        have := dv_lt20 (dgB_iff.mp hd).2 hl
        have := Option.some.inj h'
        omega
      · cases h'
/-! the pieces of a text -/
def cutL (l : List Nat) : List (List Nat) := TL.spl [47] 0 [] l
theorem pre1 (c : Nat) (r : List Nat) : TL.pre [47] (c :: r) = decide (c = 47) := by
  show ((c :: r).take 1 == [47]) = _
  rw [List.take_succ_cons, List.take_zero]
  by_cases h : c = 47
  · subst h; rfl
  · rw [decide_eq_false h]
    simpa using h
theorem spl_step (c : Nat) (acc r : List Nat) : TL.spl [47] 0 acc (c :: r) = if c = 47 then acc :: TL.spl [47] 0 [] r else TL.spl [47] 0 (acc ++ [c]) r := by
  by_cases h : c = 47
  · rw [if_pos h, TL.spl_hit (by rw [pre1, h]; rfl)]
    rfl
  · rw [if_neg h, TL.spl_miss (by rw [pre1, decide_eq_false h])]
theorem spl_ne : ∀ (l acc : List Nat), TL.spl [47] 0 acc l ≠ []
  | [], acc => by rw [TL.spl_nil]; simp
  | c :: r, acc => by
    rw [spl_step]
    split
    · simp
    · exact spl_ne r _
theorem join_spl : ∀ (l acc : List Nat), TL.joinL [47] (TL.spl [47] 0 acc l) = acc ++ l
  | [], acc => by rw [TL.spl_nil, List.append_nil]; rfl
  | c :: r, acc => by
    rw [spl_step]
    split
    · rename_i h
      have ih := join_spl r []
      cases e : TL.spl [47] 0 [] r with
      | nil => exact absurd e (spl_ne r [])
      | cons p q =>
        rw [e] at ih
        show acc ++ ([47] ++ TL.joinL [47] (p :: q)) = _
        rw [ih, h]
        rfl
    · rw [join_spl r, List.append_assoc]
      rfl
theorem spl_mem : ∀ (l acc q : List Nat), q ∈ TL.spl [47] 0 acc l → q.length ≤ acc.length + l.length ∧ ∀ c ∈ q, c ∈ acc ∨ c ∈ l
  | [], acc, q, h => by
    rw [TL.spl_nil, List.mem_singleton] at h
    subst h
    exact ⟨Nat.le_refl _, fun c hc => .inl hc⟩
  | c :: r, acc, q, h => by
    rw [spl_step] at h
    split at h
    · rcases List.mem_cons.mp h with rfl | h
      · exact ⟨Nat.le_add_right _ _, fun c hc => .inl hc⟩
      · obtain ⟨h1, h2⟩ := spl_mem r [] q h
        refine ⟨by rw [List.length_nil] at h1; rw [List.length_cons]; omega, fun c hc => ?_⟩
        rcases h2 c hc with h3 | h3
        · cases h3
        · exact .inr (List.mem_cons_of_mem _ h3)
    · obtain ⟨h1, h2⟩ := spl_mem r (acc ++ [c]) q h
      refine ⟨by rw [List.length_append, List.length_singleton] at h1; rw [List.length_cons]; omega, fun d hd => ?_⟩
      rcases h2 d hd with h3 | h3
      · rcases List.mem_append.mp h3 with h3 | h3
        · exact .inl h3
        · rw [List.mem_singleton.mp h3]; exact .inr List.mem_cons_self
      · exact .inr (List.mem_cons_of_mem _ h3)
theorem spl_len : ∀ (l acc : List Nat), (TL.spl [47] 0 acc l).length ≤ l.length + 1
  | [], acc => by rw [TL.spl_nil]; exact Nat.le_refl _
  | c :: r, acc => by
    rw [spl_step]
    split
    · rw [List.length_cons, List.length_cons]
      have := spl_len r []
      omega
    · rw [List.length_cons]
      have := spl_len r (acc ++ [c])
      omega
theorem join_cut (l : List Nat) : TL.joinL [47] (cutL l) = l := join_spl l []
theorem cut_mem {l q : List Nat} (h : q ∈ cutL l) : q.length ≤ l.length ∧ ∀ c ∈ q, c ∈ l := by
  obtain ⟨h1, h2⟩ := spl_mem l [] q h
  refine ⟨by rw [List.length_nil] at h1; omega, fun c hc => ?_⟩
  rcases h2 c hc with h3 | h3
  · cases h3
  · exact h3
theorem cut_frac (p : Int × Int) : cutL (fracL p) = partsF p := by
  have e : fracL p = TL.joinL [47] (partsF p) := by
    unfold fracL partsF
    split
    · rfl
    · show textZ p.1 ++ 47 :: _ = textZ p.1 ++ ([47] ++ _)
      rfl
  unfold cutL
  rw [e]
  refine TL.spl_join (by unfold partsF; split <;> simp) fun q m => ?_
  unfold partsF at m
  split at m
  · rw [List.mem_singleton.mp m]; exact textZ_free _
  · rcases List.mem_cons.mp m with h | h
    · rw [h]; exact textZ_free _
    · rw [List.mem_singleton.mp h]; exact TL.numL_free (.inl (by decide))
/-- the numbers of a text, as parse_fraction takes them -/
def valsT (l : List Nat) : List (Option Int) := if (cutL l).length = 1 then (cutL l).map numZ ++ [some 1] else (cutL l).map numZ
theorem vals_frac {p : Int × Int} (h : 0 ≤ p.2) : valsT (fracL p) = [some p.1, some p.2] := by
  unfold valsT
  rw [cut_frac, partsF_vals h]
  unfold valsF
  by_cases h1 : p.2 = 1
  · rw [if_pos h1, if_pos (show (List.map textZ [p.1]).length = 1 from rfl)]
    show [numZ (textZ p.1)] ++ [some 1] = _
    rw [numZ_text, h1]
    rfl
  · rw [if_neg h1, if_neg (by simp)]
    show [numZ (textZ p.1), numZ (textZ p.2)] = _
    rw [numZ_text, numZ_text]
def optV : Option Int → V
  | none => .non
  | some i => .int i
def optD : Option Int → PyData
  | none => .none
  | some i => .int i
theorem opt_dvs {z : Prop} {B : Addr → Prop} {H : Hp} : ∀ os : List (Option Int), DVs z B H (os.map optV) (os.map optD)
  | [] => .nil
  | none :: r => .cons .non (opt_dvs r)
  | some i :: r => .cons (.int i) (opt_dvs r)
theorem opt_frac {os : List (Option Int)} (h : isFrac (.tuple (os.map optD)) = true) : ∃ t b, os = [some t, some b] ∧ isFrac (prD (t, b)) = true := by
  match os, h with
  | [some t, some b], h => exact ⟨t, b, rfl, h⟩
  | [none, some b], h => cases h
  | [none, none], h => cases h
  | [some t, none], h => cases h
  | [], h => cases h
  | [none], h => cases h
  | [some _], h => cases h
  | a :: b :: c :: r, h =>
    exfalso
    have : isFrac (.tuple ((a :: b :: c :: r).map optD)) = false := isFrac_len (by simp)
    rw [this] at h
    cases h
/-- the text is that of the fraction p -/
def IsF (l : List Nat) (p : Int × Int) : Prop := isFrac (prD p) = true ∧ fracL p = l
theorem isF_pos {l : List Nat} {p : Int × Int} (h : IsF l p) : 1 ≤ p.2 := by
  have h2 : (decide (1 ≤ p.2) && decide (Int.gcd p.1 p.2 = 1)) = true := h.1
  rw [Bool.and_eq_true, decide_eq_true_eq] at h2
  exact h2.1
theorem isF_vals {l : List Nat} {p : Int × Int} (h : IsF l p) : valsT l = [some p.1, some p.2] := by
  rw [← h.2]
  exact vals_frac (by have := isF_pos h; omega)
theorem isF_inj {l : List Nat} {p r : Int × Int} (h : IsF l p) (h' : IsF l r) : p = r := by
  have e := (isF_vals h).symm.trans (isF_vals h')
  injection e with e1 e2
  injection e2 with e2 _
  obtain ⟨a, b⟩ := p
  obtain ⟨c, d⟩ := r
  have f1 : a = c := Option.some.inj e1
  have f2 : b = d := Option.some.inj e2
  rw [f1, f2]
theorem digit128 {c : Nat} (h : c < 128) : Unicode.isDigit c = (decide (48 ≤ c) && decide (c ≤ 57)) := by
  have key : ∀ d, d < 128 → Unicode.isDigit d = (decide (48 ≤ d) && decide (d ≤ 57)) := by decide +kernel
  exact key c h
def AsciiL (l : List Nat) : Prop := ∀ c ∈ l, c < 128
theorem ascii_L {l : List Nat} (h : AsciiL l) : Txt.isascii (SX.S l) = true := by
  unfold Txt.isascii
  rw [Array.all_eq_true']
  intro c hc
  have := h c (by simpa using hc)
  exact decide_eq_true (by omega)
theorem all_same {l : List Nat} (h : AsciiL l) : l.all Unicode.isDigit = l.all (fun c => decide (48 ≤ c) && decide (c ≤ 57)) := by
  induction l with
  | nil => rfl
  | cons c r ih =>
    rw [List.all_cons, List.all_cons, ih (fun d hd => h d (List.mem_cons_of_mem _ hd)), digit128 (h c List.mem_cons_self)]
theorem digit_L {l : List Nat} (h : AsciiL l) : Txt.isdigit (SX.S l) = dgB l := by
  unfold Txt.isdigit dgB
  have e1 : (SX.S l).cps.all Unicode.isDigit = l.all Unicode.isDigit := by
    show l.toArray.all Unicode.isDigit = _
    simp
  rw [e1, all_same h, SX.S_len]
  congr 1
  cases l with
  | nil => rfl
  | cons c r => exact decide_eq_true (by simp)
/-- what integer_of gives -/
def sp_intG : Sp := fun vs H Q _ => ∃ l, vs = [.str (SX.S l)] ∧ AsciiL l ∧ l.length ≤ 19 ∧ Q (optV (numZ l)) H
def sp_parseG (C : Addr) : Sp := fun vs H Q E => ∃ (v : V) (d : PyData) (z : Prop) (B : Addr → Prop), vs = [v] ∧ DV z B H v d ∧
  (isS d = false → ∀ H', Same H H' → E (.ref C) none H') ∧
  (isS d = true → ∃ l, d = .str (SX.S l) ∧ AsciiL l ∧ l.length ≤ 19 ∧
    (∀ p, IsF l p → ∀ (a : Addr) (H' : Hp), Same H H' → H a = none → H' a = some (.tup [.int p.1, .int p.2]) → Q (.ref a) H') ∧
    ((¬ ∃ p, IsF l p) → ∀ H', Same H H' → E (.ref C) none H'))
end Wr

/-! the law's own reading of a text -/
namespace Wr
open PySem PySem.Spec PyProof.Rows L2
theorem text_Z (i : Int) : Str.ofString (toString i) = SX.S (textZ i) := by
  by_cases h : i < 0
  · rw [textZ_neg h, toString_neg h]
    have e : (0 : Int) - i = ((i.natAbs : Nat) : Int) := by omega
    rw [e]
    refine TL.ext_tl ?_
    have h2 := congrArg TL.tl (SX.num_S i.natAbs)
    rw [TL.tl_ofString] at h2 ⊢
    rw [String.toList_append, List.map_append, h2]
    rfl
  · rw [textZ_pos h, ← SX.num_S]
    congr 2
    omega
def sp_ltext : Sp := fun vs H Q _ => ∃ (V : Addr) (t b : Int), vs = [.ref V] ∧ H V = some (.tup [.int t, .int b]) ∧ t.natAbs < 10 ^ 20 ∧ b.natAbs < 10 ^ 20 ∧ 1 ≤ b ∧ Q (.str (SX.S (fracL (t, b)))) H
/-- digits without a zero ahead are the text of their value -/
theorem canon_num {d : List Nat} (h : dgB d = true) (h0 : ¬ (1 < d.length ∧ d.head? = some 48)) : TL.numL (NumText.digitsVal d) = d := by
  obtain ⟨ne, hd⟩ := dgB_iff.mp h
  have hl : 0 < d.length := List.length_pos_iff.mpr ne
  have e := NumText.toDigits_digitsVal (d.length - 1) d (by omega) hd (by
    by_cases l1 : d.length = 1
    · exact .inl (by omega)
    · match d, ne with
      | c :: r, _ =>
        refine .inr ⟨c, r, rfl, ?_⟩
        have h1 := hd c List.mem_cons_self
        have h2 : c ≠ 48 := fun e => h0 ⟨by omega, by rw [e]; rfl⟩
        omega)
  unfold TL.numL
  rw [e, List.map_map]
  have key : ∀ l : List Nat, NumText.AllDigits l → l.map (Char.toNat ∘ Char.ofNat) = l := by
    intro l
    induction l with
    | nil => intro _; rfl
    | cons c r ih =>
      intro hl
      have k2 : ∀ x, x < 10 → (Char.ofNat (48 + x)).toNat = 48 + x := by decide
      have h1 := hl c List.mem_cons_self
      have := k2 (c - 48) (by omega)
      rw [show 48 + (c - 48) = c by omega] at this
      rw [List.map_cons, ih hl.tail]
      show (Char.ofNat c).toNat :: r = c :: r
      rw [this]
  exact key d hd
def minB (l : List Nat) : Bool := decide (l.head? = some 45)
def rdD (neg : Bool) (l : List Nat) : List Nat := if (neg && minB l) = true then l.tail else l
/-- what the law's own reading gives -/
def rdL (neg : Bool) (l : List Nat) : Option Int :=
  if dgB (rdD neg l) = false then none
  else if 1 < (rdD neg l).length ∧ (rdD neg l).head? = some 48 then none
  else if rdD neg l = [48] ∧ (rdD neg l ≠ l ∨ neg = false) then none
  else some (if (neg && minB l) = true then -((NumText.digitsVal (rdD neg l) : Nat) : Int) else ((NumText.digitsVal (rdD neg l) : Nat) : Int))
theorem rdL_to {neg : Bool} {l : List Nat} {i : Int} (h : rdL neg l = some i) : l = textZ i ∧ (neg = true ∨ 0 < i) := by
  unfold rdL at h
  by_cases h1 : dgB (rdD neg l) = false
  · rw [if_pos h1] at h; cases h
  by_cases h2 : 1 < (rdD neg l).length ∧ (rdD neg l).head? = some 48
  · rw [if_neg h1, if_pos h2] at h; cases h
  by_cases h3 : rdD neg l = [48] ∧ (rdD neg l ≠ l ∨ neg = false)
  · rw [if_neg h1, if_neg h2, if_pos h3] at h; cases h
  rw [if_neg h1, if_neg h2, if_neg h3] at h
  have hi := Option.some.inj h
  have hc := canon_num (by simpa using h1) h2
  have vz : NumText.digitsVal (rdD neg l) = 0 → rdD neg l = [48] := fun e => by
    rw [← hc, e, TL.numL_lt (by decide)]
  by_cases hm : (neg && minB l) = true
  · rw [if_pos hm] at hi
    have hd : rdD neg l = l.tail := if_pos hm
    have hh : l = 45 :: l.tail := by
      rw [Bool.and_eq_true] at hm
      have := of_decide_eq_true hm.2
      cases l with
      | nil => cases this
      | cons c r =>
        have e : c = 45 := Option.some.inj this
        rw [e]
        rfl
    have nz : NumText.digitsVal (rdD neg l) ≠ 0 := fun e => h3 ⟨vz e, .inl (fun z => by
      rw [hd] at z
      have : l.tail.length = l.length := by rw [z]
      rw [hh] at this
      simp at this)⟩
    refine ⟨?_, .inl (by rw [Bool.and_eq_true] at hm; exact hm.1)⟩
    rw [textZ_neg (by omega), show i.natAbs = NumText.digitsVal (rdD neg l) by omega, hc, hd]
    exact hh
  · rw [if_neg hm] at hi
    have hd : rdD neg l = l := if_neg hm
    refine ⟨?_, ?_⟩
    · rw [textZ_pos (by omega), show i.natAbs = NumText.digitsVal (rdD neg l) by omega, hc, hd]
    · cases neg with
      | true => exact .inl rfl
      | false =>
        refine .inr ?_
        have nz : NumText.digitsVal (rdD false l) ≠ 0 := fun e => h3 ⟨vz e, .inr rfl⟩
        omega
theorem rdL_of {neg : Bool} {i : Int} (h : neg = true ∨ 0 < i) : rdL neg (textZ i) = some i := by
  have hdn := dgB_num i.natAbs
  have hv := TL.numL_val i.natAbs
  have hz : ¬ (1 < (TL.numL i.natAbs).length ∧ (TL.numL i.natAbs).head? = some 48) := by
    rintro ⟨h1, h2⟩
    have hA := TL.numL_digits i.natAbs
    cases e : TL.numL i.natAbs with
    | nil => rw [e] at h1; exact absurd h1 (by decide)
    | cons c r =>
      rw [e] at h1 h2 hA hv
      have c0 : c = 48 := Option.some.inj h2
      subst c0
      have hr : 0 < r.length := by rw [List.length_cons] at h1; omega
      have hlt := dv_lt r.length r rfl hA.tail
      have hv2 : NumText.digitsVal r = i.natAbs := hv
      rw [hv2] at hlt
      have := TL.numL_len hr hlt
      rw [e, List.length_cons] at this
      omega
  unfold rdL
  by_cases hi : i < 0
  · have hn : neg = true := by
      rcases h with h | h
      · exact h
      · omega
    subst hn
    have hd : rdD true (textZ i) = TL.numL i.natAbs := by
      rw [textZ_neg hi]
      rfl
    have n0 : TL.numL i.natAbs ≠ [48] := fun e => by
      rw [e] at hv
      have : (0 : Nat) = i.natAbs := hv
      omega
    rw [hd, if_neg (by rw [hdn]; exact fun z => nomatch z), if_neg hz, if_neg (fun z => n0 z.1), hv]
    rw [if_pos (by rw [textZ_neg hi]; rfl)]
    congr 1
    omega
  · have hm : (neg && minB (textZ i)) = false := by
      rw [textZ_pos hi]
      obtain ⟨c, r, e, nc⟩ := numL_head i.natAbs
      rw [e]
      have : minB (c :: r) = false := decide_eq_false (fun z => nc (Option.some.inj z))
      rw [this, Bool.and_false]
    have hd : rdD neg (textZ i) = TL.numL i.natAbs := by
      unfold rdD
      rw [hm, if_neg Bool.false_ne_true, textZ_pos hi]
    rw [hd, if_neg (by rw [hdn]; exact fun z => nomatch z), if_neg hz, if_neg ?_, hv, hm, if_neg Bool.false_ne_true]
    · congr 1
      omega
    · rintro ⟨z, z2 | z2⟩
      · exact z2 (textZ_pos hi).symm
      · rw [z] at hv
        have : (0 : Nat) = i.natAbs := hv
        rcases h with h | h
        · rw [h] at z2; cases z2
        · omega
/-! tokens -/
section
variable {X : Cx}
/-- behind a test against a written number a token is out -/
theorem ps_ifT {l : Expr} {op : CmpOp} {r : R2} {i : Int} {j : Nat} {p pos pos' : Pos} {a b : List Stmt} {tl : TE} {t u : TS} (ho : OpR X (compareOp op) r) (ha : PE X l tl)
    (hm : behindInMarks op (.Constant (.int i) j p) = false) (hA : PSsT X a t) (hB : PSs X b u) :
    PS X (.If (.Compare l [op] [.Constant (.int i) j p] pos) a b pos') (tIfS (tTest (tOp r tl (tC (.int i)))) t u) := by
  refine ⟨fun pins s σ H D I h => ?_⟩
  refine wpAny_If (wpAny_isTrue_Compare1 (thn (ha.run pins s σ H _ I h) fun v s1 ⟨x, H1, I1, r1, q1⟩ => wpAny_Constant_int ?_) hm)
  refine wpAny_mono (PySem.wpAny_toks (ho pins { s1 with toks := s1.toks + 1 } σ H1 x (.int i) v (.int i s1.toks) _ (I1.tok _) r1 ⟨_, rfl⟩ q1)) (fun c s3 q => ?_) fun _ _ z => z.2
  obtain ⟨hk, z, H3, I3, r3, k, e, q3⟩ := q
  subst e
  cases r3
  have h1 : 1 ≤ s3.toks := by
    have : s1.toks + 1 ≤ s3.toks := hk
    omega
  refine wpAny_truthy_bool ?_
  cases k with
  | true => exact hA pins s3 σ H3 D h1 I3 q3
  | false => exact hB.run pins s3 σ H3 D I3 q3
end
/-! doubled strokes -/
open PySem.StrLaws in
theorem repl_doubled : ∀ l : List Nat, (replL [47] [47, 47] l).length ≤ 2 * l.length ∧ ∀ c ∈ replL [47] [47, 47] l, c = 47 ∨ c ∈ l
  | [] => by rw [replL_nil]; exact ⟨Nat.le_refl _, fun c h => nomatch h⟩
  | c :: r => by
    obtain ⟨h1, h2⟩ := repl_doubled r
    by_cases e : c = 47
    · rw [replL_hit (by simp) (by subst e; rfl)]
      refine ⟨?_, fun d hd => ?_⟩
      · show ([47, 47] ++ replL [47] [47, 47] r).length ≤ _
        rw [List.length_append, List.length_cons (a := c)]
        show 2 + _ ≤ _
        omega
      · have hd' : d ∈ [47, 47] ++ replL [47] [47, 47] r := hd
        rcases List.mem_append.mp hd' with hd | hd
        · simp only [List.mem_cons, List.not_mem_nil, or_false] at hd
          rcases hd with rfl | rfl <;> exact .inl rfl
        · rcases h2 d hd with h | h
          · exact .inl h
          · exact .inr (List.mem_cons_of_mem _ h)
    · rw [replL_miss (by intro z; apply e; have z' : [c] = [47] := z; injection z')]
      refine ⟨by rw [List.length_cons, List.length_cons]; omega, fun d hd => ?_⟩
      rcases List.mem_cons.mp hd with rfl | hd
      · exact .inr List.mem_cons_self
      · rcases h2 d hd with h | h
        · exact .inl h
        · exact .inr (List.mem_cons_of_mem _ h)
open PySem.StrLaws in
theorem repl_S (l : List Nat) : Txt.replace (SX.S l) (SX.S [47]) (SX.S [47, 47]) = SX.S (replL [47] [47, 47] l) := by
  refine TL.ext_tl ?_
  exact replace_list (x := SX.S l) (y := SX.S [47]) (z := SX.S [47, 47]) (by decide)
end Wr
local macro_rules | `(tactic| walk_at "rs") => `(tactic| first
  | refine ⟨_, rfl, ?_⟩
  | refine ⟨_, _, rfl, rfl, ?_⟩
  | refine L2.iteT ?_
  | refine L2.iteF ?_)
namespace Lw
open PySem PySem.Spec PyProof.Rows L2 Wr
def topS (i : Nat) : Stmt :=
  PySem.Challenge.pw_wagerroom_k58_text_of_a_fraction.main.body.getD i (.Pass ⟨0, 0, 0, 0⟩)
abbrev s_is_whole : Stmt := topS 5
abbrev n_is_whole : List Str := ["value"]
theorem sc_is_whole : FnScope n_is_whole ["value"] (defScope s_is_whole) :=
  ⟨rfl, rfl, rfl, by decide +kernel, rfl, by decide +kernel, by decide +kernel⟩
abbrev s_common_divisor : Stmt := topS 7
abbrev n_common_divisor : List Str := ["top", "bottom"]
theorem sc_common_divisor : FnScope n_common_divisor ["top", "bottom"] (defScope s_common_divisor) :=
  ⟨rfl, rfl, rfl, by decide +kernel, rfl, by decide +kernel, by decide +kernel⟩
abbrev s_is_valid_fraction : Stmt := topS 8
abbrev n_is_valid_fraction : List Str := ["value", "top", "bottom"]
theorem sc_is_valid_fraction : FnScope n_is_valid_fraction ["value"] (defScope s_is_valid_fraction) :=
  ⟨rfl, rfl, rfl, by decide +kernel, rfl, by decide +kernel, by decide +kernel⟩
abbrev s_digits_of : Stmt := topS 12
abbrev n_digits_of : List Str := ["number", "blocks", "block"]
theorem sc_digits_of : FnScope n_digits_of ["number"] (defScope s_digits_of) :=
  ⟨rfl, rfl, rfl, by decide +kernel, rfl, by decide +kernel, by decide +kernel⟩
abbrev s_number_of : Stmt := topS 13
abbrev n_number_of : List Str := ["digits", "first", "number", "start"]
theorem sc_number_of : FnScope n_number_of ["digits"] (defScope s_number_of) :=
  ⟨rfl, rfl, rfl, by decide +kernel, rfl, by decide +kernel, by decide +kernel⟩
abbrev s_format_fraction : Stmt := topS 14
abbrev n_format_fraction : List Str := ["value", "top", "bottom", "text"]
theorem sc_format_fraction : FnScope n_format_fraction ["value"] (defScope s_format_fraction) :=
  ⟨rfl, rfl, rfl, by decide +kernel, rfl, by decide +kernel, by decide +kernel⟩
abbrev s_integer_of : Stmt := topS 15
abbrev n_integer_of : List Str := ["text", "digits"]
theorem sc_integer_of : FnScope n_integer_of ["text"] (defScope s_integer_of) :=
  ⟨rfl, rfl, rfl, by decide +kernel, rfl, by decide +kernel, by decide +kernel⟩
abbrev s_parse_fraction : Stmt := topS 16
abbrev n_parse_fraction : List Str := ["text", "numbers", "value", "piece"]
theorem sc_parse_fraction : FnScope n_parse_fraction ["text"] (defScope s_parse_fraction) :=
  ⟨rfl, rfl, rfl, by decide +kernel, rfl, by decide +kernel, by decide +kernel⟩
abbrev s__law_cell : Stmt := topS 18
abbrev n__law_cell : List Str := ["_law_script", "_law_k"]
theorem sc__law_cell : FnScope n__law_cell ["_law_script", "_law_k"] (defScope s__law_cell) :=
  ⟨rfl, rfl, rfl, by decide +kernel, rfl, by decide +kernel, by decide +kernel⟩
abbrev s__law_fraction : Stmt := topS 19
abbrev n__law_fraction : List Str := ["_law_top", "_law_bottom", "_law_one", "_law_other", "_law_rest"]
theorem sc__law_fraction : FnScope n__law_fraction ["_law_top", "_law_bottom"] (defScope s__law_fraction) :=
  ⟨rfl, rfl, rfl, by decide +kernel, rfl, by decide +kernel, by decide +kernel⟩
abbrev s__law_is_same : Stmt := topS 20
abbrev n__law_is_same : List Str := ["_law_actual", "_law_wanted", "_law_k"]
theorem sc__law_is_same : FnScope n__law_is_same ["_law_actual", "_law_wanted"] (defScope s__law_is_same) :=
  ⟨rfl, rfl, rfl, by decide +kernel, rfl, by decide +kernel, by decide +kernel⟩
abbrev s__law_digits : Stmt := topS 21
abbrev n__law_digits : List Str := ["_law_number", "_law_digits_here", "_law_left"]
theorem sc__law_digits : FnScope n__law_digits ["_law_number"] (defScope s__law_digits) :=
  ⟨rfl, rfl, rfl, by decide +kernel, rfl, by decide +kernel, by decide +kernel⟩
abbrev s__law_is_refused : Stmt := topS 22
abbrev n__law_is_refused : List Str := ["_law_value"]
theorem sc__law_is_refused : FnScope n__law_is_refused ["_law_value"] (defScope s__law_is_refused) :=
  ⟨rfl, rfl, rfl, by decide +kernel, rfl, by decide +kernel, by decide +kernel⟩
abbrev s_law : Stmt := topS 23
abbrev n_law : List Str := ["_law_script", "_law_most", "_law_top", "_law_bottom", "_law_value", "_law_text", "_law_read", "_law_others", "_law_other", "_law_wrong", "error"]
theorem sc_law : FnScope n_law ["_law_script"] (defScope s_law) :=
  ⟨rfl, rfl, rfl, by decide +kernel, rfl, by decide +kernel, by decide +kernel⟩
structure Txt (K : PySem.W.Frag) (mg : Str → Option Value) where
  a_is_whole : Addr
  d_is_whole : FuncData
  f_is_whole : L2.Fun K "is_whole" "is_whole" s_is_whole a_is_whole d_is_whole
  b_is_whole : Binds K d_is_whole ["value"] []
  g_is_whole : mg "is_whole" = some (.ref a_is_whole)
  a_common_divisor : Addr
  d_common_divisor : FuncData
  f_common_divisor : L2.Fun K "common_divisor" "common_divisor" s_common_divisor a_common_divisor d_common_divisor
  b_common_divisor : Binds K d_common_divisor ["top", "bottom"] []
  g_common_divisor : mg "common_divisor" = some (.ref a_common_divisor)
  a_is_valid_fraction : Addr
  d_is_valid_fraction : FuncData
  f_is_valid_fraction : L2.Fun K "is_valid_fraction" "is_valid_fraction" s_is_valid_fraction a_is_valid_fraction d_is_valid_fraction
  b_is_valid_fraction : Binds K d_is_valid_fraction ["value"] []
  g_is_valid_fraction : mg "is_valid_fraction" = some (.ref a_is_valid_fraction)
  a_digits_of : Addr
  d_digits_of : FuncData
  f_digits_of : L2.Fun K "digits_of" "digits_of" s_digits_of a_digits_of d_digits_of
  b_digits_of : Binds K d_digits_of ["number"] []
  g_digits_of : mg "digits_of" = some (.ref a_digits_of)
  a_number_of : Addr
  d_number_of : FuncData
  f_number_of : L2.Fun K "number_of" "number_of" s_number_of a_number_of d_number_of
  b_number_of : Binds K d_number_of ["digits"] []
  g_number_of : mg "number_of" = some (.ref a_number_of)
  a_format_fraction : Addr
  d_format_fraction : FuncData
  f_format_fraction : L2.Fun K "format_fraction" "format_fraction" s_format_fraction a_format_fraction d_format_fraction
  b_format_fraction : Binds K d_format_fraction ["value"] []
  g_format_fraction : mg "format_fraction" = some (.ref a_format_fraction)
  a_integer_of : Addr
  d_integer_of : FuncData
  f_integer_of : L2.Fun K "integer_of" "integer_of" s_integer_of a_integer_of d_integer_of
  b_integer_of : Binds K d_integer_of ["text"] []
  g_integer_of : mg "integer_of" = some (.ref a_integer_of)
  a_parse_fraction : Addr
  d_parse_fraction : FuncData
  f_parse_fraction : L2.Fun K "parse_fraction" "parse_fraction" s_parse_fraction a_parse_fraction d_parse_fraction
  b_parse_fraction : Binds K d_parse_fraction ["text"] []
  g_parse_fraction : mg "parse_fraction" = some (.ref a_parse_fraction)
  a__law_cell : Addr
  d__law_cell : FuncData
  f__law_cell : L2.Fun K "_law_cell" "_law_cell" s__law_cell a__law_cell d__law_cell
  b__law_cell : Binds K d__law_cell ["_law_script", "_law_k"] []
  g__law_cell : mg "_law_cell" = some (.ref a__law_cell)
  a__law_fraction : Addr
  d__law_fraction : FuncData
  f__law_fraction : L2.Fun K "_law_fraction" "_law_fraction" s__law_fraction a__law_fraction d__law_fraction
  b__law_fraction : Binds K d__law_fraction ["_law_top", "_law_bottom"] []
  g__law_fraction : mg "_law_fraction" = some (.ref a__law_fraction)
  a__law_is_same : Addr
  d__law_is_same : FuncData
  f__law_is_same : L2.Fun K "_law_is_same" "_law_is_same" s__law_is_same a__law_is_same d__law_is_same
  b__law_is_same : Binds K d__law_is_same ["_law_actual", "_law_wanted"] []
  g__law_is_same : mg "_law_is_same" = some (.ref a__law_is_same)
  a__law_digits : Addr
  d__law_digits : FuncData
  f__law_digits : L2.Fun K "_law_digits" "_law_digits" s__law_digits a__law_digits d__law_digits
  b__law_digits : Binds K d__law_digits ["_law_number"] []
  g__law_digits : mg "_law_digits" = some (.ref a__law_digits)
  a__law_is_refused : Addr
  d__law_is_refused : FuncData
  f__law_is_refused : L2.Fun K "_law_is_refused" "_law_is_refused" s__law_is_refused a__law_is_refused d__law_is_refused
  b__law_is_refused : Binds K d__law_is_refused ["_law_value"] []
  g__law_is_refused : mg "_law_is_refused" = some (.ref a__law_is_refused)
  a_law : Addr
  d_law : FuncData
  f_law : L2.Fun K "law" "law" s_law a_law d_law
  b_law : Binds K d_law ["_law_script"] []
  g_law : mg "law" = some (.ref a_law)
  e_InvalidFractionError : Addr
  h_InvalidFractionError : mg "InvalidFractionError" = some (.ref e_InvalidFractionError)
  x_InvalidFractionError : PySem.W.excIn K e_InvalidFractionError [.type "ValueError", .type "Exception", .type "BaseException", .type "object"] "ValueError.__new__" = true
  k_InvalidFractionError : PySem.W.keepIn K (.ref e_InvalidFractionError) = true
  s_InvalidFractionError : PySem.W.subIn K (.ref e_InvalidFractionError) (.type "BaseException") = some true
  t_InvalidFractionError : PySem.W.typeIn K (.ref e_InvalidFractionError) = some (.type "type")
  m_InvalidFractionError : PySem.W.exmOne K (.ref e_InvalidFractionError) (.ref e_InvalidFractionError) = some true
  e_InvalidTextError : Addr
  h_InvalidTextError : mg "InvalidTextError" = some (.ref e_InvalidTextError)
  x_InvalidTextError : PySem.W.excIn K e_InvalidTextError [.type "ValueError", .type "Exception", .type "BaseException", .type "object"] "ValueError.__new__" = true
  k_InvalidTextError : PySem.W.keepIn K (.ref e_InvalidTextError) = true
  s_InvalidTextError : PySem.W.subIn K (.ref e_InvalidTextError) (.type "BaseException") = some true
  t_InvalidTextError : PySem.W.typeIn K (.ref e_InvalidTextError) = some (.type "type")
  m_InvalidTextError : PySem.W.exmOne K (.ref e_InvalidTextError) (.ref e_InvalidTextError) = some true
  m_InvalidFractionError_InvalidTextError : PySem.W.exmOne K (.ref e_InvalidFractionError) (.ref e_InvalidTextError) = some false
  m_InvalidTextError_InvalidFractionError : PySem.W.exmOne K (.ref e_InvalidTextError) (.ref e_InvalidFractionError) = some false
  q_InvalidFractionError : L2.ExcC K e_InvalidFractionError
  o_InvalidFractionError_InvalidTextError : PySem.W.kitOne K (.ref e_InvalidFractionError) (.ref e_InvalidTextError) = some false
  z_isinstance : mg "isinstance" = none
  z_int : mg "int" = none
  z_bool : mg "bool" = none
  z_tuple : mg "tuple" = none
  z_len : mg "len" = none
  z_divmod : mg "divmod" = none
  z_str : mg "str" = none
  z_reversed : mg "reversed" = none
  z_range : mg "range" = none
  z_abs : mg "abs" = none
  z_all : mg "all" = none
  z_list : mg "list" = none
  u_BLOCK_DIGITS : Tok
  g_BLOCK_DIGITS : mg "BLOCK_DIGITS" = some (.int 50 u_BLOCK_DIGITS)
  u_BLOCK : Tok
  g_BLOCK : mg "BLOCK" = some (.int 100000000000000000000000000000000000000000000000000 u_BLOCK)
end Lw
namespace Lw
open PySem PySem.Spec PyProof.Rows L2 Wr
section
variable {P : Program} {w : World} {K : PySem.W.Frag} {mg : Str → Option Value} {base : Heap}
theorem G_is_whole (T : Txt K mg) :
    FnOk P w K mg base CX0 1 T.a_is_whole T.d_is_whole ["value"] sp_whole := by
  refine T.f_is_whole.ok sc_is_whole (fun vs H Q E h => ?_) (fun cdv A outer s H vs Q E hr h => ?_)
  · obtain ⟨v, d, z, B, rfl, _⟩ := h
    rfl
  · obtain ⟨v, d, z, B, rfl, hd, q⟩ := h
    refine ⟨_, (pss_one (ps_ret (pe_and (pe_callB is_int (by rfl) T.z_isinstance (by decide +kernel) (pa_cons (pv 0) (pa_cons (pe_bltn (v := .ty "int") (u := .type "int") (by rfl) T.z_int (by decide +kernel) rfl) pa_nil))) (pe_one (pe_not (pe_callB is_bool (by rfl) T.z_isinstance (by decide +kernel) (pa_cons (pv 0) (pa_cons (pe_bltn (v := .ty "bool") (u := .type "bool") (by rfl) T.z_bool (by decide +kernel) rfl) pa_nil)))))))), ?_⟩
    refine ⟨v, rfl, v, d, z, B, rfl, hd, _, rfl, ?_⟩
    refine ite2 (fun e => ?_) fun e => ?_
    · refine ⟨v, rfl, v, d, z, B, rfl, hd, _, rfl, ?_⟩
      cases d <;> first | exact q | cases e
    · cases d <;> first | exact q | exact absurd rfl e

theorem GH_is_whole (T : Txt K mg) :
    L2H.FnH P w K mg base CX0 1 T.a_is_whole T.d_is_whole ["value"] sp_whole := by
  refine okH T.f_is_whole sc_is_whole (fun vs H Q E h => ?_) (fun cdv A outer s H vs Q E p hot hr h => ?_)
  · obtain ⟨v, d, z, B, rfl, _⟩ := h
    rfl
  · obtain ⟨v, d, z, B, rfl, hd, q⟩ := h
    refine ⟨_, (pss_one (ps_ret (pe_and (pe_callB is_int (by rfl) T.z_isinstance (by decide +kernel) (pa_cons (pv 0) (pa_cons (pe_bltn (v := .ty "int") (u := .type "int") (by rfl) T.z_int (by decide +kernel) rfl) pa_nil))) (pe_one (pe_not (pe_callB is_bool (by rfl) T.z_isinstance (by decide +kernel) (pa_cons (pv 0) (pa_cons (pe_bltn (v := .ty "bool") (u := .type "bool") (by rfl) T.z_bool (by decide +kernel) rfl) pa_nil)))))))), ?_⟩
    refine ⟨v, rfl, v, d, z, B, rfl, hd, _, rfl, ?_⟩
    refine ite2 (fun e => ?_) fun e => ?_
    · refine ⟨v, rfl, v, d, z, B, rfl, hd, _, rfl, ?_⟩
      cases d <;> first | exact q | cases e
    · cases d <;> first | exact q | exact absurd rfl e

end
end Lw
namespace Lw
open PySem PySem.Spec PyProof.Rows L2 Wr
section
variable {P : Program} {w : World} {K : PySem.W.Frag} {mg : Str → Option Value} {base : Heap}
theorem G_common_divisor (T : Txt K mg) :
    FnOk P w K mg base CX0 1 T.a_common_divisor T.d_common_divisor ["top", "bottom"] sp_gcdP := by
  refine T.f_common_divisor.ok sc_common_divisor (fun vs H Q E h => ?_)
    (fun cdv A outer s H vs Q E hr h => ?_)
  · obtain ⟨a, b, rfl, _⟩ := h
    rfl
  · obtain ⟨a, b, rfl, hb, q⟩ := h
    refine ⟨_, (pss_cons (ps_while PassesOwn.never (pt_cmpR op_ne (pv 1) pe_int (nomark _))
    (pss_one (ps_par (i := 0) (j := 1) (by rfl) sc_common_divisor.nd rfl rfl (by decide) rfl rfl (pa_cons (pv 1) (pa_cons (pe_op op_mod (pv 0) (pv 1)) pa_nil)) (by rfl))))
    (pss_one (ps_ret (pv 0)))), ?_⟩
    refine ⟨fun m σ H1 => ∃ t u : Int, σ = [some (.int t), some (.int u)] ∧ H1 = H ∧ m = u.toNat ∧
      0 ≤ u ∧ (0 < u ∨ 0 ≤ t) ∧ Int.gcd t u = Int.gcd a b,
      ⟨_, a, b, rfl, rfl, rfl, by omega, .inl hb, rfl⟩, fun m σ H1 h => ?_⟩
    obtain ⟨t, u, rfl, rfl, rfl, h0, h1, h2⟩ := h
    refine ⟨_, rfl, rfl, _, rfl, ite2 (fun e => ⟨_, fun _ _ h => h, ?_⟩) fun e => ?_⟩
    · have n0 : u ≠ 0 := nb_int e
      refine ⟨_, rfl, _, rfl, _, rfl, _, _, rfl, rfl, (by show 0 < u; omega), _, _, rfl, _, ?_, _, _, rfl, rfl, rfl, ?_⟩
      · have := Int.emod_lt_of_pos t (show 0 < u by omega)
        have := Int.emod_nonneg t n0
        omega
      · refine ⟨Int.emod_nonneg t n0, .inr h0, ?_⟩
        rw [← h2, ← gcd_fmod t u, Int.fmod_eq_emod_of_nonneg t h0]
    · have n0 : u = 0 := nb_int' e
      subst n0
      refine ⟨_, rfl, ?_⟩
      rw [Int.gcd_zero_right] at h2
      have e2 : t = ((Int.gcd a b : Nat) : Int) := by omega
      rw [e2]
      exact q

theorem GH_common_divisor (T : Txt K mg) :
    L2H.FnH P w K mg base CX0 1 T.a_common_divisor T.d_common_divisor ["top", "bottom"] sp_gcdP := by
  refine okH T.f_common_divisor sc_common_divisor (fun vs H Q E h => ?_)
    (fun cdv A outer s H vs Q E p hot hr h => ?_)
  · obtain ⟨a, b, rfl, _⟩ := h
    rfl
  · obtain ⟨a, b, rfl, hb, q⟩ := h
    refine ⟨_, (pss_cons (ps_while PassesOwn.never (pt_cmpR op_ne (pv 1) pe_int (nomark _))
    (pss_one (ps_parH (i := 0) (j := 1) hot sc_common_divisor.nd rfl rfl (by decide) rfl rfl (pa_cons (pv 1) (pa_cons (pe_op op_mod (pv 0) (pv 1)) pa_nil)) (by rfl))))
    (pss_one (ps_ret (pv 0)))), ?_⟩
    refine ⟨fun m σ H1 => ∃ t u : Int, σ = [some (.int t), some (.int u)] ∧ H1 = H ∧ m = u.toNat ∧
      0 ≤ u ∧ (0 < u ∨ 0 ≤ t) ∧ Int.gcd t u = Int.gcd a b,
      ⟨_, a, b, rfl, rfl, rfl, by omega, .inl hb, rfl⟩, fun m σ H1 h => ?_⟩
    obtain ⟨t, u, rfl, rfl, rfl, h0, h1, h2⟩ := h
    refine ⟨_, rfl, rfl, _, rfl, ite2 (fun e => ⟨_, fun _ _ h => h, ?_⟩) fun e => ?_⟩
    · have n0 : u ≠ 0 := nb_int e
      refine ⟨_, rfl, _, rfl, _, rfl, _, _, rfl, rfl, (by show 0 < u; omega), _, _, rfl, _, ?_, _, _, rfl, rfl, rfl, ?_⟩
      · have := Int.emod_lt_of_pos t (show 0 < u by omega)
        have := Int.emod_nonneg t n0
        omega
      · refine ⟨Int.emod_nonneg t n0, .inr h0, ?_⟩
        rw [← h2, ← gcd_fmod t u, Int.fmod_eq_emod_of_nonneg t h0]
    · have n0 : u = 0 := nb_int' e
      subst n0
      refine ⟨_, rfl, ?_⟩
      rw [Int.gcd_zero_right] at h2
      have e2 : t = ((Int.gcd a b : Nat) : Int) := by omega
      rw [e2]
      exact q

end
end Lw
namespace Lw
open PySem PySem.Spec PyProof.Rows L2 Wr
section
variable {P : Program} {w : World} {K : PySem.W.Frag} {mg : Str → Option Value} {base : Heap}
theorem G_is_valid_fraction (T : Txt K mg) :
    FnOk P w K mg base CX0 2 T.a_is_valid_fraction T.d_is_valid_fraction ["value"] sp_isfrac := by
  refine T.f_is_valid_fraction.ok sc_is_valid_fraction (fun vs H Q E h => ?_)
    (fun cdv A outer s H vs Q E hr h => ?_)
  · obtain ⟨v, d, z, B, rfl, _⟩ := h
    rfl
  · obtain ⟨v, d, z, B, rfl, hd, q⟩ := h
    refine ⟨_, (pss_cons (ps_if (PW.pt (pw_or (pt_not (pt_val (pe_callB is_tuple (by rfl) T.z_isinstance (by decide +kernel) (pa_cons (pv 0) (pa_cons (pe_bltn (v := .ty "tuple") (u := .type "tuple") (by rfl) T.z_tuple (by decide +kernel) rfl) pa_nil))))) (pw_or1 (pt_cmpR op_ne (pe_callB call_len_seq (by rfl) T.z_len (by decide +kernel) (pa_cons (pv 0) pa_nil)) pe_int (nomark _))))) (pss_one (ps_ret pe_bl)) pss_nil)
    (pss_cons (ps_asg (pv 0) (pg_tup (by rfl) (pgs_cons (pg_name (i := 1) sc_is_valid_fraction.nd rfl (.inl rfl)) (pgs_cons (pg_name (i := 2) sc_is_valid_fraction.nd rfl (.inl rfl)) pgs_nil))))
    (pss_cons (ps_if (PW.pt (pw_or (pt_not (pt_val (pe_call (G_is_whole T) (hr.mono (by omega)) (by rfl) T.g_is_whole T.f_is_whole.kp T.b_is_whole .nil pass0 (pa_cons (pv 1) pa_nil)))) (pw_or1 (pt_not (pt_val (pe_call (G_is_whole T) (hr.mono (by omega)) (by rfl) T.g_is_whole T.f_is_whole.kp T.b_is_whole .nil pass0 (pa_cons (pv 2) pa_nil))))))) (pss_one (ps_ret pe_bl)) pss_nil)
    (pss_one (ps_ret (pe_and (pe_cmpR op_ge (pv 2) pe_int (nomark _)) (pe_one (pe_cmpR op_eq (pe_call (G_common_divisor T) (hr.mono (by omega)) (by rfl) T.g_common_divisor T.f_common_divisor.kp T.b_common_divisor .nil pass0 (pa_cons (pv 1) (pa_cons (pv 2) pa_nil))) pe_int (nomark _))))))))), ?_⟩
    by_cases hT : isT d = true
    · obtain ⟨ds, rfl⟩ := isT_tup hT
      obtain ⟨a, xs, rfl, na, ea, hx⟩ := hd.tupI
      refine ⟨_, rfl, _, _, _, _, rfl, hd, _, rfl, iteF ?_⟩
      refine ⟨_, rfl, _, _, rfl, .inr (.inl (.inl ea)), rfl, _, rfl, ite2 (fun e => ?_) fun e => ?_⟩
      · have n2 : (xs.length : Int) ≠ 2 := nb_int e
        rw [isFrac_len (by rw [← hx.length]; omega)] at q
        exact q
      · have n2 : (xs.length : Int) = 2 := nb_int' e
        obtain ⟨d0, d1, rfl⟩ := two_of (show ds.length = 2 by rw [← hx.length]; omega)
        obtain ⟨x0, x1, rfl, h0, h1⟩ := hx.twoI
        refine ⟨_, rfl, a, [x0, x1], rfl, .inl (.inl ea), rfl, x0, [x1], rfl, x1, [], rfl, rfl, ?_⟩
        refine ⟨_, rfl, x0, d0, z, B, rfl, h0, _, rfl, ite2 (fun e => ?_) fun e => ?_⟩
        · refine iteT ?_
          rw [isFrac_w (.inl (by simpa using e))] at q
          exact q
        obtain ⟨i0, rfl⟩ := isW_int (show ¬ isW d0 = false by simpa using e)
        refine ⟨_, rfl, x1, d1, z, B, rfl, h1, _, rfl, ite2 (fun e => ?_) fun e => ?_⟩
        · rw [isFrac_w (.inr (by simpa using e))] at q
          exact q
        obtain ⟨i1, rfl⟩ := isW_int (show ¬ isW d1 = false by simpa using e)
        obtain rfl := h0.intI
        obtain rfl := h1.intI
        refine ⟨_, rfl, _, _, rfl, rfl, _, rfl, ite2 (fun e => ?_) fun e => ?_⟩
        · have l1 : 1 ≤ i1 := of_decide_eq_true e
          refine ⟨_, rfl, _, rfl, _, _, rfl, by omega, rfl, ?_⟩
          have qe : isFrac (.tuple [.int i0, .int i1]) = decide (V.int (Int.gcd i0 i1 : Nat) = V.int 1) := by
            show (decide (1 ≤ i1) && decide (Int.gcd i0 i1 = 1)) = _
            rw [decide_eq_true l1, Bool.true_and]
            by_cases h : Int.gcd i0 i1 = 1
            · rw [decide_eq_true h, h]
              rfl
            · rw [decide_eq_false h]
              refine (decide_eq_false fun z => h ?_).symm
              have := V.int.inj z
              omega
          rw [qe] at q
          exact q
        · have l1 : ¬ 1 ≤ i1 := fun z => e (decide_eq_true z)
          have qe : isFrac (.tuple [.int i0, .int i1]) = false := by
            show (decide (1 ≤ i1) && decide (Int.gcd i0 i1 = 1)) = _
            rw [decide_eq_false l1, Bool.false_and]
          rw [qe] at q
          exact q
    · refine ⟨_, rfl, _, _, _, _, rfl, hd, _, rfl, ?_⟩
      rw [isFrac_no hT] at q
      have hf : isT d = false := by simpa using hT
      rw [hf]
      exact iteT (iteT q)

theorem GH_is_valid_fraction (T : Txt K mg) :
    L2H.FnH P w K mg base CX0 2 T.a_is_valid_fraction T.d_is_valid_fraction ["value"] sp_isfrac := by
  refine okH T.f_is_valid_fraction sc_is_valid_fraction (fun vs H Q E h => ?_)
    (fun cdv A outer s H vs Q E p hot hr h => ?_)
  · obtain ⟨v, d, z, B, rfl, _⟩ := h
    rfl
  · obtain ⟨v, d, z, B, rfl, hd, q⟩ := h
    refine ⟨_, (pss_cons (ps_if (PW.pt (pw_or (pt_not (pt_val (pe_callB is_tuple (by rfl) T.z_isinstance (by decide +kernel) (pa_cons (pv 0) (pa_cons (pe_bltn (v := .ty "tuple") (u := .type "tuple") (by rfl) T.z_tuple (by decide +kernel) rfl) pa_nil))))) (pw_or1 (pt_cmpR op_ne (pe_callB call_len_seq (by rfl) T.z_len (by decide +kernel) (pa_cons (pv 0) pa_nil)) pe_int (nomark _))))) (pss_one (ps_ret pe_bl)) pss_nil)
    (pss_cons (ps_asg (pv 0) (pg_tupH hot (pgs_cons (pg_name (i := 1) sc_is_valid_fraction.nd rfl (.inl rfl)) (pgs_cons (pg_name (i := 2) sc_is_valid_fraction.nd rfl (.inl rfl)) pgs_nil))))
    (pss_cons (ps_if (PW.pt (pw_or (pt_not (pt_val (L2H.pe_callH (E := fun _ => E0) (GH_is_whole T) (hr.mono (by omega)) hot (by rfl) T.g_is_whole T.f_is_whole.kp T.b_is_whole (fun σ => passAt0) (pa_cons (pv 1) pa_nil)))) (pw_or1 (pt_not (pt_val (L2H.pe_callH (E := fun _ => E0) (GH_is_whole T) (hr.mono (by omega)) hot (by rfl) T.g_is_whole T.f_is_whole.kp T.b_is_whole (fun σ => passAt0) (pa_cons (pv 2) pa_nil))))))) (pss_one (ps_ret pe_bl)) pss_nil)
    (pss_one (ps_ret (pe_and (pe_cmpR op_ge (pv 2) pe_int (nomark _)) (pe_one (pe_cmpR op_eq (L2H.pe_callH (E := fun _ => E0) (GH_common_divisor T) (hr.mono (by omega)) hot (by rfl) T.g_common_divisor T.f_common_divisor.kp T.b_common_divisor (fun σ => passAt0) (pa_cons (pv 1) (pa_cons (pv 2) pa_nil))) pe_int (nomark _))))))))), ?_⟩
    by_cases hT : isT d = true
    · obtain ⟨ds, rfl⟩ := isT_tup hT
      obtain ⟨a, xs, rfl, na, ea, hx⟩ := hd.tupI
      refine ⟨_, rfl, _, _, _, _, rfl, hd, _, rfl, iteF ?_⟩
      refine ⟨_, rfl, _, _, rfl, .inr (.inl (.inl ea)), rfl, _, rfl, ite2 (fun e => ?_) fun e => ?_⟩
      · have n2 : (xs.length : Int) ≠ 2 := nb_int e
        rw [isFrac_len (by rw [← hx.length]; omega)] at q
        exact q
      · have n2 : (xs.length : Int) = 2 := nb_int' e
        obtain ⟨d0, d1, rfl⟩ := two_of (show ds.length = 2 by rw [← hx.length]; omega)
        obtain ⟨x0, x1, rfl, h0, h1⟩ := hx.twoI
        refine ⟨_, rfl, a, [x0, x1], rfl, .inl (.inl ea), rfl, x0, [x1], rfl, x1, [], rfl, rfl, ?_⟩
        refine ⟨_, rfl, x0, d0, z, B, rfl, h0, _, rfl, ite2 (fun e => ?_) fun e => ?_⟩
        · refine iteT ?_
          rw [isFrac_w (.inl (by simpa using e))] at q
          exact q
        obtain ⟨i0, rfl⟩ := isW_int (show ¬ isW d0 = false by simpa using e)
        refine ⟨_, rfl, x1, d1, z, B, rfl, h1, _, rfl, ite2 (fun e => ?_) fun e => ?_⟩
        · rw [isFrac_w (.inr (by simpa using e))] at q
          exact q
        obtain ⟨i1, rfl⟩ := isW_int (show ¬ isW d1 = false by simpa using e)
        obtain rfl := h0.intI
        obtain rfl := h1.intI
        refine ⟨_, rfl, _, _, rfl, rfl, _, rfl, ite2 (fun e => ?_) fun e => ?_⟩
        · have l1 : 1 ≤ i1 := of_decide_eq_true e
          refine ⟨_, rfl, _, rfl, _, _, rfl, by omega, rfl, ?_⟩
          have qe : isFrac (.tuple [.int i0, .int i1]) = decide (V.int (Int.gcd i0 i1 : Nat) = V.int 1) := by
            show (decide (1 ≤ i1) && decide (Int.gcd i0 i1 = 1)) = _
            rw [decide_eq_true l1, Bool.true_and]
            by_cases h : Int.gcd i0 i1 = 1
            · rw [decide_eq_true h, h]
              rfl
            · rw [decide_eq_false h]
              refine (decide_eq_false fun z => h ?_).symm
              have := V.int.inj z
              omega
          rw [qe] at q
          exact q
        · have l1 : ¬ 1 ≤ i1 := fun z => e (decide_eq_true z)
          have qe : isFrac (.tuple [.int i0, .int i1]) = false := by
            show (decide (1 ≤ i1) && decide (Int.gcd i0 i1 = 1)) = _
            rw [decide_eq_false l1, Bool.false_and]
          rw [qe] at q
          exact q
    · refine ⟨_, rfl, _, _, _, _, rfl, hd, _, rfl, ?_⟩
      rw [isFrac_no hT] at q
      have hf : isT d = false := by simpa using hT
      rw [hf]
      exact iteT (iteT q)

end
end Lw
namespace Lw
open PySem PySem.Spec PyProof.Rows L2 Wr
section
variable {P : Program} {w : World} {K : PySem.W.Frag} {mg : Str → Option Value} {base : Heap}
theorem G_digits_of (T : Txt K mg) : FnOk P w K mg base CX0 1 T.a_digits_of T.d_digits_of
    ["number"] sp_digits := by
  refine T.f_digits_of.ok sc_digits_of (fun vs H Q E h => ?_) (fun cdv A outer s H vs Q E hr h => ?_)
  · obtain ⟨n, rfl, _⟩ := h
    rfl
  · obtain ⟨n, rfl, hn, q⟩ := h
    refine ⟨_, (pss_cons (ps_set (i := 1) sc_digits_of.nd rfl (.inl rfl) (pe_lstS pa_nil))
    (pss_cons (ps_while PassesOwn.never (pt_cmpR op_ge (pv 0) (pe_glob (v := .int 100000000000000000000000000000000000000000000000000) rfl T.g_BLOCK ⟨_, rfl⟩) (nomark _))
    (pss_cons (ps_asg (pe_callB call_divmod (by rfl) T.z_divmod (by decide +kernel) (pa_cons (pv 0) (pa_cons (pe_glob (v := .int 100000000000000000000000000000000000000000000000000) rfl T.g_BLOCK ⟨_, rfl⟩) pa_nil))) (pg_tup (by rfl) (pgs_cons (pg_name (i := 0) sc_digits_of.nd rfl (.inl rfl)) (pgs_cons (pg_name (i := 2) sc_digits_of.nd rfl (.inl rfl)) pgs_nil))))
    (pss_one (ps_expr (pe_bm PySem.F.plainAttrs_list PySem.F.slot_list_append PySem.F.type_list_append mt_append (pv 1) (pa_cons (pe_m1 PySem.F.slot_str_zfill PySem.F.type_str_zfill mt_zfill (pe_callTy call_str_int (by rfl) T.z_str (by decide +kernel) (pa_cons (pv 2) pa_nil)) (pe_glob (v := .int 50) rfl T.g_BLOCK_DIGITS ⟨_, rfl⟩)) pa_nil))))))
    (pss_cons (ps_expr (pe_bm PySem.F.plainAttrs_list PySem.F.slot_list_append PySem.F.type_list_append mt_append (pv 1) (pa_cons (pe_callTy call_str_int (by rfl) T.z_str (by decide +kernel) (pa_cons (pv 0) pa_nil)) pa_nil)))
    (pss_one (ps_ret (pe_joinRev rfl (by rfl) T.z_reversed pe_str (pv 1))))))), ?_⟩
    refine ⟨by decide, fun R nR _ => ?_⟩
    refine ⟨fun k σ G => σ = [some (.int (n : Int)), some (.ref R), none] ∧ G = upd H R (.lst []), ⟨0, rfl, rfl⟩, fun k σ G h => ?_⟩
    obtain ⟨rfl, rfl⟩ := h
    have big : ¬ ((100000000000000000000000000000000000000000000000000 : Int) ≤ (n : Int)) := fun z => by
      have : (10 : Nat) ^ 20 = 100000000000000000000 := by decide
      omega
    refine ⟨_, rfl, _, _, rfl, rfl, _, rfl, ite2 (fun e => absurd (of_decide_eq_true e) big) fun _ => ?_⟩
    have eR : (upd H R (.lst [])) R = some (.lst []) := upd_same
    have lg : ((n : Int)).natAbs.log2 < 1920 := by
      by_cases h0 : n = 0
      · subst h0; decide
      · refine (Nat.log2_lt (by omega)).mpr (Nat.lt_of_lt_of_le (show ((n : Int)).natAbs < 10 ^ 20 by omega) ?_)
        exact Nat.le_trans (show 10 ^ 20 ≤ 2 ^ 70 by decide) (Nat.pow_le_pow_right (by decide) (by decide))
    refine ⟨_, rfl, .inl ⟨rfl, _, .inl (.inl eR)⟩, _, rfl, (n : Int), rfl, lg, R, [], _, rfl, rfl, eR, by decide, ?_⟩
    rw [SX.num_S]
    refine ⟨⟨_, rfl⟩, _, rfl, R, _, rfl, .inl (.inl upd_same), q _ ?_⟩
    exact ((Same.refl H).off nR).off nR

theorem GH_digits_of (T : Txt K mg) : L2H.FnH P w K mg base CX0 1 T.a_digits_of T.d_digits_of
    ["number"] sp_digits := by
  refine okH T.f_digits_of sc_digits_of (fun vs H Q E h => ?_) (fun cdv A outer s H vs Q E p hot hr h => ?_)
  · obtain ⟨n, rfl, _⟩ := h
    rfl
  · obtain ⟨n, rfl, hn, q⟩ := h
    refine ⟨_, (pss_cons (ps_set (i := 1) sc_digits_of.nd rfl (.inl rfl) (pe_lstS pa_nil))
    (pss_cons (ps_while PassesOwn.never (pt_cmpR op_ge (pv 0) (pe_glob (v := .int 100000000000000000000000000000000000000000000000000) rfl T.g_BLOCK ⟨_, rfl⟩) (nomark _)) pss_no)
    (pss_cons (ps_expr (pe_bm PySem.F.plainAttrs_list PySem.F.slot_list_append PySem.F.type_list_append mt_append (pv 1) (pa_cons (pe_callTy call_str_int (by rfl) T.z_str (by decide +kernel) (pa_cons (pv 0) pa_nil)) pa_nil)))
    (pss_one (ps_ret (pe_joinRevH hot (by rfl) T.z_reversed pe_str (pv 1))))))), ?_⟩
    refine ⟨by decide, fun R nR _ => ?_⟩
    refine ⟨fun k σ G => σ = [some (.int (n : Int)), some (.ref R), none] ∧ G = upd H R (.lst []), ⟨0, rfl, rfl⟩, fun k σ G h => ?_⟩
    obtain ⟨rfl, rfl⟩ := h
    have big : ¬ ((100000000000000000000000000000000000000000000000000 : Int) ≤ (n : Int)) := fun z => by
      have : (10 : Nat) ^ 20 = 100000000000000000000 := by decide
      omega
    refine ⟨_, rfl, _, _, rfl, rfl, _, rfl, ite2 (fun e => absurd (of_decide_eq_true e) big) fun _ => ?_⟩
    have eR : (upd H R (.lst [])) R = some (.lst []) := upd_same
    have lg : ((n : Int)).natAbs.log2 < 1920 := by
      by_cases h0 : n = 0
      · subst h0; decide
      · refine (Nat.log2_lt (by omega)).mpr (Nat.lt_of_lt_of_le (show ((n : Int)).natAbs < 10 ^ 20 by omega) ?_)
        exact Nat.le_trans (show 10 ^ 20 ≤ 2 ^ 70 by decide) (Nat.pow_le_pow_right (by decide) (by decide))
    refine ⟨_, rfl, .inl ⟨rfl, _, .inl (.inl eR)⟩, _, rfl, (n : Int), rfl, lg, R, [], _, rfl, rfl, eR, by decide, ?_⟩
    rw [SX.num_S]
    refine ⟨⟨_, rfl⟩, _, rfl, R, _, rfl, .inl (.inl upd_same), q _ ?_⟩
    exact ((Same.refl H).off nR).off nR

end
end Lw
namespace Lw
open PySem PySem.Spec PyProof.Rows L2 Wr
section
variable {P : Program} {w : World} {K : PySem.W.Frag} {mg : Str → Option Value} {base : Heap}
theorem G_number_of (T : Txt K mg) : FnOk P w K mg base CX0 1 T.a_number_of T.d_number_of
    ["digits"] sp_number := by
  refine T.f_number_of.ok sc_number_of (fun vs H Q E h => ?_) (fun cdv A outer s H vs Q E hr h => ?_)
  · obtain ⟨l, rfl, _⟩ := h
    rfl
  · obtain ⟨l, rfl, hd, h0, hl, q⟩ := h
    refine ⟨_, (pss_cons (ps_set (i := 1) sc_number_of.nd rfl (.inl rfl) (pe_op op_mod (pe_callB call_len_str (by rfl) T.z_len (by decide +kernel) (pa_cons (pv 0) pa_nil)) (pe_glob (v := .int 50) rfl T.g_BLOCK_DIGITS ⟨_, rfl⟩)))
    (pss_cons (ps_set (i := 2) sc_number_of.nd rfl (.inl rfl) (pe_callTy call_int_str (by rfl) T.z_int (by decide +kernel) (pa_cons (pe_op op_add_str pe_str (pe_slice C8.sl_txt (pv 0) po_none (po_some (pv 1)))) pa_nil)))
    (pss_cons (ps_for PassesOwn.never rfl (pi_range3 rfl T.z_range (pa_cons (pv 1) (pa_cons (pe_callB call_len_str (by rfl) T.z_len (by decide +kernel) (pa_cons (pv 0) pa_nil)) (pa_cons (pe_glob (v := .int 50) rfl T.g_BLOCK_DIGITS ⟨_, rfl⟩) pa_nil)))) (pg_name (i := 3) sc_number_of.nd rfl (.inl rfl))
    (pss_one (ps_set (i := 2) sc_number_of.nd rfl (.inl rfl) (pe_op op_add (pe_op op_mulW (pv 2) (pe_glob (v := .int 100000000000000000000000000000000000000000000000000) rfl T.g_BLOCK ⟨_, rfl⟩)) (pe_callTy call_int_str (by rfl) T.z_int (by decide +kernel) (pa_cons (pe_slice C8.sl_txt (pv 0) (po_some (pv 3)) (po_some (pe_op op_add (pv 3) (pe_glob (v := .int 50) rfl T.g_BLOCK_DIGITS ⟨_, rfl⟩)))) pa_nil))))))
    (pss_one (ps_ret (pv 2)))))), ?_⟩
    have sl : (SX.S l).length = l.length := SX.S_len l
    have sz : l.length ≤ sizeLine := small1000' (by omega)
    have sz' : (SX.S l).length ≤ sizeLine := by rw [sl]; exact sz
    refine ⟨_, rfl, _, rfl, sz', _, _, rfl, rfl, (by decide : (0 : Int) < 50), ?_⟩
    dsimp only
    rw [sl, show ((l.length : Int)) % 50 = (l.length : Int) from Int.emod_eq_of_lt (by omega) (by omega)]
    refine ⟨_, rfl, _, rfl, _, rfl, _, rfl, sz', ?_⟩
    rw [SX.slice_to (Int.natCast_nonneg _), Int.toNat_natCast, List.take_length]
    refine ⟨_, _, rfl, rfl, by rw [sl]; exact small1000' (by show 1 + l.length ≤ 1000; omega), ?_⟩
    have ec : (Str.ofString "0") ++ SX.S l = SX.S (48 :: l) := SX.S_cat [48] l
    rw [ec]
    have e1 : intText? (SX.S (48 :: l)) = some ((NumText.digitsVal (48 :: l) : Nat) : Int) := SX.int_S (by
      rw [List.all_eq_true]
      intro c hc
      have : 48 ≤ c ∧ c ≤ 57 := by
        rcases List.mem_cons.mp hc with rfl | hc
        · decide
        · exact hd c hc
      simp [this.1, this.2]) (by simp) (by rw [List.length_cons]; omega)
    have e2 : NumText.digitsVal (48 :: l) = NumText.digitsVal l := rfl
    rw [e2] at e1
    refine ⟨_, _, rfl, e1, by rw [SX.S_len, List.length_cons]; omega, ?_⟩
    refine ⟨_, rfl, _, rfl, _, rfl, sz', (l.length : Int), (l.length : Int), 50, 0, by rw [sl], ?_, ?_⟩
    · refine ⟨by decide, by decide, ?_, ?_⟩
      · have r0 : Builtin.Range.rangeSize (l.length : Int) (l.length : Int) 50 = 0 := by
          unfold Builtin.Range.rangeSize
          rw [if_pos (by decide), if_neg (by omega)]
        have fl : Builtin.Range.rangeFitsLong (l.length : Int) = true := by
          unfold Builtin.Range.rangeFitsLong
          rw [Bool.and_eq_true, decide_eq_true_eq, decide_eq_true_eq]
          omega
        unfold Builtin.Range.small
        rw [r0, fl]
        rfl
      · unfold Builtin.Range.rangeSize
        rw [if_pos (by decide), if_neg (by omega)]
        rfl
    · refine for_rangeC (fun i σ G => G = H ∧ σ = [some (.str (SX.S l)), some (.int (l.length : Int)), some (.int ((NumText.digitsVal l : Nat) : Int)), none]) ⟨rfl, rfl⟩ (fun i σ G hi h => absurd hi (Nat.not_lt_zero i)) (fun σ G h => ?_)
      obtain ⟨rfl, rfl⟩ := h
      exact ⟨_, rfl, q⟩

end
end Lw
namespace Lw
open PySem PySem.Spec PyProof.Rows L2 Wr
section
variable {P : Program} {w : World} {K : PySem.W.Frag} {mg : Str → Option Value} {base : Heap}
theorem G_format_fraction (T : Txt K mg) : FnOk P w K mg base (L2.CX P w) 4 T.a_format_fraction T.d_format_fraction
    ["value"] (sp_format T.e_InvalidFractionError) := by
  refine T.f_format_fraction.okX sc_format_fraction (fun vs H Q E h => ?_) (fun cdv A outer s H vs Q E hr h => ?_)
  · obtain ⟨v, d, z, B, rfl, _⟩ := h
    rfl
  · obtain ⟨v, d, z, B, rfl, hd, qe, q⟩ := h
    refine ⟨_, (pss_cons (ps_if (pt_not (pt_val (pe_call (G_is_valid_fraction T) (hr.mono (by omega)) (by rfl) T.g_is_valid_fraction T.f_is_valid_fraction.kp T.b_is_valid_fraction .nil pass0 (pa_cons (pv 0) pa_nil)))) (pss_one (ps_raise rfl (takes_of rfl rfl rfl rfl) (pmk_own PySem.F.excBase_ValueError T.x_InvalidFractionError T.h_InvalidFractionError T.k_InvalidFractionError (raises_own T.s_InvalidFractionError T.t_InvalidFractionError) (by exact rfl)))) pss_nil)
    (pss_cons (ps_asg (pv 0) (pg_tup (by rfl) (pgs_cons (pg_name (i := 1) sc_format_fraction.nd rfl (.inl rfl)) (pgs_cons (pg_name (i := 2) sc_format_fraction.nd rfl (.inl rfl)) pgs_nil))))
    (pss_cons (ps_set (i := 3) sc_format_fraction.nd rfl (.inl rfl) (pe_call (G_digits_of T) (hr.mono (by omega)) (by rfl) T.g_digits_of T.f_digits_of.kp T.b_digits_of .nil pass0 (pa_cons (pe_callB call_abs (by rfl) T.z_abs (by decide +kernel) (pa_cons (pv 1) pa_nil)) pa_nil)))
    (pss_mid (ps_if (pt_cmpR op_lt (pv 1) pe_int (nomark _)) (pss_one (ps_set (i := 3) sc_format_fraction.nd rfl (.inl rfl) (pe_op op_add_str pe_str (pv 3)))) pss_nil)
    (pss_cons (ps_if (pt_cmpR op_ne (pv 2) pe_int (nomark _)) (pss_one (ps_set (i := 3) sc_format_fraction.nd rfl (.inl rfl) (pe_op op_add_str (pe_op op_add_str (pv 3) pe_str) (pe_call (G_digits_of T) (hr.mono (by omega)) (by rfl) T.g_digits_of T.f_digits_of.kp T.b_digits_of .nil pass0 (pa_cons (pv 2) pa_nil))))) pss_nil)
    (pss_one (ps_ret (pv 3)))))))), ?_⟩
    refine ⟨_, rfl, v, d, z, B, rfl, hd, _, rfl, ite2 (fun e => qe (by simpa using e) H (Same.refl H)) fun e => ?_⟩
    have hf : isFrac d = true := by simpa using e
    obtain ⟨⟨t, b⟩, rfl, ht, hb, q⟩ := q hf
    obtain ⟨a, xs, rfl, _, ea, hx⟩ := hd.tupI
    obtain rfl := DVs.intsI (ns := [t, b]) hx
    have hb1 : 1 ≤ b := by
      have h2 : (decide (1 ≤ b) && decide (Int.gcd t b = 1)) = true := hf
      rw [Bool.and_eq_true, decide_eq_true_eq] at h2
      exact h2.1
    refine ⟨_, rfl, a, _, rfl, .inl (.inl ea), rfl, _, _, rfl, _, _, rfl, rfl, ?_⟩
    refine ⟨_, rfl, t, rfl, t.natAbs, by rw [show (if t < 0 then -t else t) = ((t.natAbs : Nat) : Int) by split <;> omega]; rfl, ht, fun G1 s1 => ?_⟩
    have l1 : (TL.numL t.natAbs).length ≤ 20 := numL_len20 ht
    have l2 : (TL.numL b.natAbs).length ≤ 20 := numL_len20 hb
    refine ⟨fun τ G => τ = [some (.ref a), some (.int t), some (.int b), some (.str (SX.S (textZ t)))] ∧ Same H G, ?_, fun τ G h => ?_⟩
    · refine ⟨_, rfl, _, _, rfl, rfl, _, rfl, ite2 (fun e => ?_) fun e => ?_⟩
      · have n : t < 0 := of_decide_eq_true e
        refine ⟨_, rfl, _, _, rfl, rfl, ?_, ?_, s1⟩
        · show 1 + (SX.S _).length ≤ _
          rw [SX.S_len]
          exact small1000' (by omega)
        · rw [show (Str.ofString "-") ++ SX.S (TL.numL t.natAbs) = SX.S (textZ t) from by
            rw [textZ_neg n]; exact SX.S_cat [45] _]
          rfl
      · have n : ¬ t < 0 := fun z => e (decide_eq_true z)
        refine ⟨?_, s1⟩
        rw [textZ_pos n]
        rfl
    · obtain ⟨rfl, s2⟩ := h
      have l3 : (textZ t).length ≤ 21 := by
        unfold textZ
        split
        · rw [List.length_cons]; omega
        · omega
      refine ⟨_, rfl, rfl, _, rfl, ite2 (fun e => ?_) fun e => ?_⟩
      · have n : b ≠ 1 := nb_int e
        refine ⟨_, rfl, _, _, rfl, rfl, ?_, ?_⟩
        · show (SX.S _).length + 1 ≤ _
          rw [SX.S_len]
          exact small1000' (by omega)
        have e1 : SX.S (textZ t) ++ (Str.ofString "/") = SX.S (textZ t ++ [47]) := SX.S_cat _ [47]
        rw [e1]
        refine ⟨_, rfl, b.natAbs, by rw [show ((b.natAbs : Nat) : Int) = b by omega]; rfl, hb, fun G3 s3 => ?_⟩
        refine ⟨_, _, rfl, rfl, ?_, ?_⟩
        · rw [SX.S_len, SX.S_len, List.length_append]
          exact small1000' (by show (textZ t).length + 1 + _ ≤ 1000; omega)
        rw [SX.S_cat]
        refine ⟨_, rfl, ?_⟩
        have := q G3 (s2.trans s3)
        rw [show fracL (t, b) = textZ t ++ [47] ++ TL.numL b.natAbs from by
          unfold fracL
          rw [if_neg n, List.append_assoc]
          rfl] at this
        exact this
      · have n : b = 1 := nb_int' e
        refine ⟨_, rfl, ?_⟩
        have := q G s2
        rw [show fracL (t, b) = textZ t from if_pos n] at this
        exact this

def sp_formatH : Sp := fun vs H Q _ => ∃ (p : Int × Int) (v : V) (z : Prop) (B : Addr → Prop), vs = [v] ∧ DV z B H v (prD p) ∧ isFrac (prD p) = true ∧ p.1.natAbs < 10 ^ 20 ∧ p.2.natAbs < 10 ^ 20 ∧ ∀ H', Same H H' → Q (.str (SX.S (fracL p))) H'
theorem GH_format_fraction (T : Txt K mg) : L2H.FnH P w K mg base CX0 4 T.a_format_fraction T.d_format_fraction
    ["value"] sp_formatH := by
  refine okH T.f_format_fraction sc_format_fraction (fun vs H Q E h => ?_) (fun cdv A outer s H vs Q E p hot hr h => ?_)
  · obtain ⟨⟨t, b⟩, v, z, B, rfl, _⟩ := h
    rfl
  · obtain ⟨⟨t, b⟩, v, z, B, rfl, hd, hf, ht, hb, q⟩ := h
    refine ⟨_, (pss_cons (ps_if (pt_not (pt_val (L2H.pe_callH (E := fun _ => E0) (GH_is_valid_fraction T) (hr.mono (by omega)) hot (by rfl) T.g_is_valid_fraction T.f_is_valid_fraction.kp T.b_is_valid_fraction (fun σ => passAt0) (pa_cons (pv 0) pa_nil)))) (pss_one ps_no) pss_nil)
    (pss_cons (ps_asg (pv 0) (pg_tupH hot (pgs_cons (pg_name (i := 1) sc_format_fraction.nd rfl (.inl rfl)) (pgs_cons (pg_name (i := 2) sc_format_fraction.nd rfl (.inl rfl)) pgs_nil))))
    (pss_cons (ps_set (i := 3) sc_format_fraction.nd rfl (.inl rfl) (L2H.pe_callH (E := fun _ => E0) (GH_digits_of T) (hr.mono (by omega)) hot (by rfl) T.g_digits_of T.f_digits_of.kp T.b_digits_of (fun σ => passAt0) (pa_cons (pe_callB call_abs (by rfl) T.z_abs (by decide +kernel) (pa_cons (pv 1) pa_nil)) pa_nil)))
    (pss_mid (ps_if (pt_cmpR op_lt (pv 1) pe_int (nomark _)) (pss_one (ps_set (i := 3) sc_format_fraction.nd rfl (.inl rfl) (pe_op op_add_str pe_str (pv 3)))) pss_nil)
    (pss_cons (ps_if (pt_cmpR op_ne (pv 2) pe_int (nomark _)) (pss_one (ps_set (i := 3) sc_format_fraction.nd rfl (.inl rfl) (pe_op op_add_str (pe_op op_add_str (pv 3) pe_str) (L2H.pe_callH (E := fun _ => E0) (GH_digits_of T) (hr.mono (by omega)) hot (by rfl) T.g_digits_of T.f_digits_of.kp T.b_digits_of (fun σ => passAt0) (pa_cons (pv 2) pa_nil))))) pss_nil)
    (pss_one (ps_ret (pv 3)))))))), ?_⟩
    refine ⟨_, rfl, v, _, z, B, rfl, hd, _, rfl, ite2 (fun e => absurd hf (by rw [show isFrac (prD (t, b)) = false by simpa using e]; exact fun z => nomatch z)) fun e => ?_⟩
    obtain ⟨a, xs, rfl, _, ea, hx⟩ := hd.tupI
    obtain rfl := DVs.intsI (ns := [t, b]) hx
    have hb1 : 1 ≤ b := by
      have h2 : (decide (1 ≤ b) && decide (Int.gcd t b = 1)) = true := hf
      rw [Bool.and_eq_true, decide_eq_true_eq] at h2
      exact h2.1
    refine ⟨_, rfl, a, _, rfl, .inl (.inl ea), rfl, _, _, rfl, _, _, rfl, rfl, ?_⟩
    refine ⟨_, rfl, t, rfl, t.natAbs, (by rw [show (if t < 0 then -t else t) = ((t.natAbs : Nat) : Int) by split <;> omega]; try rfl), ht, fun G1 s1 => ?_⟩
    have l1 : (TL.numL t.natAbs).length ≤ 20 := numL_len20 ht
    have l2 : (TL.numL b.natAbs).length ≤ 20 := numL_len20 hb
    refine ⟨fun τ G => τ = [some (.ref a), some (.int t), some (.int b), some (.str (SX.S (textZ t)))] ∧ Same H G, ?_, fun τ G h => ?_⟩
    · refine ⟨_, rfl, _, _, rfl, rfl, _, rfl, ite2 (fun e => ?_) fun e => ?_⟩
      · have n : t < 0 := of_decide_eq_true e
        refine ⟨_, rfl, _, _, rfl, rfl, ?_, ?_, s1⟩
        · show 1 + (SX.S _).length ≤ _
          rw [SX.S_len]
          exact small1000' (by omega)
        · rw [show (Str.ofString "-") ++ SX.S (TL.numL t.natAbs) = SX.S (textZ t) from by
            rw [textZ_neg n]; exact SX.S_cat [45] _]
          rfl
      · have n : ¬ t < 0 := fun z => e (decide_eq_true z)
        refine ⟨?_, s1⟩
        rw [textZ_pos n]
        rfl
    · obtain ⟨rfl, s2⟩ := h
      have l3 : (textZ t).length ≤ 21 := by
        unfold textZ
        split
        · rw [List.length_cons]; omega
        · omega
      refine ⟨_, rfl, rfl, _, rfl, ite2 (fun e => ?_) fun e => ?_⟩
      · have n : b ≠ 1 := nb_int e
        refine ⟨_, rfl, _, _, rfl, rfl, ?_, ?_⟩
        · show (SX.S _).length + 1 ≤ _
          rw [SX.S_len]
          exact small1000' (by omega)
        have e1 : SX.S (textZ t) ++ (Str.ofString "/") = SX.S (textZ t ++ [47]) := SX.S_cat _ [47]
        rw [e1]
        refine ⟨_, rfl, b.natAbs, (by rw [show ((b.natAbs : Nat) : Int) = b by omega]; try rfl), hb, fun G3 s3 => ?_⟩
        refine ⟨_, _, rfl, rfl, ?_, ?_⟩
        · rw [SX.S_len, SX.S_len, List.length_append]
          exact small1000' (by show (textZ t).length + 1 + _ ≤ 1000; omega)
        rw [SX.S_cat]
        refine ⟨_, rfl, ?_⟩
        have := q G3 (s2.trans s3)
        rw [show fracL (t, b) = textZ t ++ [47] ++ TL.numL b.natAbs from by
          unfold fracL
          rw [if_neg n, List.append_assoc]
          rfl] at this
        exact this
      · have n : b = 1 := nb_int' e
        refine ⟨_, rfl, ?_⟩
        have := q G s2
        rw [show fracL (t, b) = textZ t from if_pos n] at this
        exact this

theorem GN_format_fraction (T : Txt K mg) : FnOk P w K mg base (L2N.CX P w) 4 T.a_format_fraction T.d_format_fraction
    ["value"] (sp_format T.e_InvalidFractionError) := by
  refine okN T.f_format_fraction sc_format_fraction (fun vs H Q E h => ?_) (fun cdv A outer s H vs Q E hr h => ?_)
  · obtain ⟨v, d, z, B, rfl, _⟩ := h
    rfl
  · obtain ⟨v, d, z, B, rfl, hd, qe, q⟩ := h
    refine ⟨_, (pss_cons (ps_if (pt_not (pt_val (pe_call (G_is_valid_fraction T) (hr.mono (by omega)) (by rfl) T.g_is_valid_fraction T.f_is_valid_fraction.kp T.b_is_valid_fraction .nil pass0 (pa_cons (pv 0) pa_nil)))) (pss_one (L2N.ps_raise rfl (L2N.takes_of rfl rfl rfl rfl) (L2N.pmk_own PySem.F.excBase_ValueError T.x_InvalidFractionError T.h_InvalidFractionError T.k_InvalidFractionError (raises_own T.s_InvalidFractionError T.t_InvalidFractionError) (by exact rfl)))) pss_nil)
    (pss_cons (ps_asg (pv 0) (pg_tup (by rfl) (pgs_cons (pg_name (i := 1) sc_format_fraction.nd rfl (.inl rfl)) (pgs_cons (pg_name (i := 2) sc_format_fraction.nd rfl (.inl rfl)) pgs_nil))))
    (pss_cons (ps_set (i := 3) sc_format_fraction.nd rfl (.inl rfl) (pe_call (G_digits_of T) (hr.mono (by omega)) (by rfl) T.g_digits_of T.f_digits_of.kp T.b_digits_of .nil pass0 (pa_cons (pe_callB call_abs (by rfl) T.z_abs (by decide +kernel) (pa_cons (pv 1) pa_nil)) pa_nil)))
    (pss_mid (ps_if (pt_cmpR op_lt (pv 1) pe_int (nomark _)) (pss_one (ps_set (i := 3) sc_format_fraction.nd rfl (.inl rfl) (pe_op op_add_str pe_str (pv 3)))) pss_nil)
    (pss_cons (ps_if (pt_cmpR op_ne (pv 2) pe_int (nomark _)) (pss_one (ps_set (i := 3) sc_format_fraction.nd rfl (.inl rfl) (pe_op op_add_str (pe_op op_add_str (pv 3) pe_str) (pe_call (G_digits_of T) (hr.mono (by omega)) (by rfl) T.g_digits_of T.f_digits_of.kp T.b_digits_of .nil pass0 (pa_cons (pv 2) pa_nil))))) pss_nil)
    (pss_one (ps_ret (pv 3)))))))), ?_⟩
    refine ⟨_, rfl, v, d, z, B, rfl, hd, _, rfl, ite2 (fun e => qe (by simpa using e) H (Same.refl H)) fun e => ?_⟩
    have hf : isFrac d = true := by simpa using e
    obtain ⟨⟨t, b⟩, rfl, ht, hb, q⟩ := q hf
    obtain ⟨a, xs, rfl, _, ea, hx⟩ := hd.tupI
    obtain rfl := DVs.intsI (ns := [t, b]) hx
    have hb1 : 1 ≤ b := by
      have h2 : (decide (1 ≤ b) && decide (Int.gcd t b = 1)) = true := hf
      rw [Bool.and_eq_true, decide_eq_true_eq] at h2
      exact h2.1
    refine ⟨_, rfl, a, _, rfl, .inl (.inl ea), rfl, _, _, rfl, _, _, rfl, rfl, ?_⟩
    refine ⟨_, rfl, t, rfl, t.natAbs, by rw [show (if t < 0 then -t else t) = ((t.natAbs : Nat) : Int) by split <;> omega]; rfl, ht, fun G1 s1 => ?_⟩
    have l1 : (TL.numL t.natAbs).length ≤ 20 := numL_len20 ht
    have l2 : (TL.numL b.natAbs).length ≤ 20 := numL_len20 hb
    refine ⟨fun τ G => τ = [some (.ref a), some (.int t), some (.int b), some (.str (SX.S (textZ t)))] ∧ Same H G, ?_, fun τ G h => ?_⟩
    · refine ⟨_, rfl, _, _, rfl, rfl, _, rfl, ite2 (fun e => ?_) fun e => ?_⟩
      · have n : t < 0 := of_decide_eq_true e
        refine ⟨_, rfl, _, _, rfl, rfl, ?_, ?_, s1⟩
        · show 1 + (SX.S _).length ≤ _
          rw [SX.S_len]
          exact small1000' (by omega)
        · rw [show (Str.ofString "-") ++ SX.S (TL.numL t.natAbs) = SX.S (textZ t) from by
            rw [textZ_neg n]; exact SX.S_cat [45] _]
          rfl
      · have n : ¬ t < 0 := fun z => e (decide_eq_true z)
        refine ⟨?_, s1⟩
        rw [textZ_pos n]
        rfl
    · obtain ⟨rfl, s2⟩ := h
      have l3 : (textZ t).length ≤ 21 := by
        unfold textZ
        split
        · rw [List.length_cons]; omega
        · omega
      refine ⟨_, rfl, rfl, _, rfl, ite2 (fun e => ?_) fun e => ?_⟩
      · have n : b ≠ 1 := nb_int e
        refine ⟨_, rfl, _, _, rfl, rfl, ?_, ?_⟩
        · show (SX.S _).length + 1 ≤ _
          rw [SX.S_len]
          exact small1000' (by omega)
        have e1 : SX.S (textZ t) ++ (Str.ofString "/") = SX.S (textZ t ++ [47]) := SX.S_cat _ [47]
        rw [e1]
        refine ⟨_, rfl, b.natAbs, by rw [show ((b.natAbs : Nat) : Int) = b by omega]; rfl, hb, fun G3 s3 => ?_⟩
        refine ⟨_, _, rfl, rfl, ?_, ?_⟩
        · rw [SX.S_len, SX.S_len, List.length_append]
          exact small1000' (by show (textZ t).length + 1 + _ ≤ 1000; omega)
        rw [SX.S_cat]
        refine ⟨_, rfl, ?_⟩
        have := q G3 (s2.trans s3)
        rw [show fracL (t, b) = textZ t ++ [47] ++ TL.numL b.natAbs from by
          unfold fracL
          rw [if_neg n, List.append_assoc]
          rfl] at this
        exact this
      · have n : b = 1 := nb_int' e
        refine ⟨_, rfl, ?_⟩
        have := q G s2
        rw [show fracL (t, b) = textZ t from if_pos n] at this
        exact this

end
end Lw
namespace Lw
open PySem PySem.Spec PyProof.Rows L2 Wr
section
variable {P : Program} {w : World} {K : PySem.W.Frag} {mg : Str → Option Value} {base : Heap}
theorem G_integer_of (T : Txt K mg) : FnOk P w K mg base CX0 2 T.a_integer_of T.d_integer_of
    ["text"] sp_intOf := by
  refine T.f_integer_of.ok sc_integer_of (fun vs H Q E h => ?_) (fun cdv A outer s H vs Q E hr h => ?_)
  · obtain ⟨i, rfl, _⟩ := h
    rfl
  · obtain ⟨i, rfl, hi, q⟩ := h
    refine ⟨_, (pss_cons (ps_set (i := 1) sc_integer_of.nd rfl (.inl rfl) (pe_m1 PySem.F.slot_str_removeprefix PySem.F.type_str_removeprefix mt_removeprefix (pv 0) pe_str))
    (pss_cons (ps_if (PW.pt (pw_or (pt_not (pt_val (pe_m0 PySem.F.slot_str_isascii PySem.F.type_str_isascii mt_isascii (pv 1)))) (pw_or1 (pt_not (pt_val (pe_m0 PySem.F.slot_str_isdigit PySem.F.type_str_isdigit mt_isdigit (pv 1))))))) (pss_one (ps_ret pe_non)) pss_nil)
    (pss_cons (ps_if (pt_val (pe_m1 PySem.F.slot_str_startswith PySem.F.type_str_startswith mt_startswith (pv 0) pe_str)) (pss_one (ps_ret (pe_un un_neg (pe_call (G_number_of T) (hr.mono (by omega)) (by rfl) T.g_number_of T.f_number_of.kp T.b_number_of .nil pass0 (pa_cons (pv 1) pa_nil))))) pss_nil)
    (pss_one (ps_ret (pe_call (G_number_of T) (hr.mono (by omega)) (by rfl) T.g_number_of T.f_number_of.kp T.b_number_of .nil pass0 (pa_cons (pv 1) pa_nil))))))), ?_⟩
    have hd := TL.numL_digits i.natAbs
    have h0 := TL.numL_ne i.natAbs
    have hl := numL_len20 hi
    have hv := TL.numL_val i.natAbs
    obtain ⟨c, l, ec, nc⟩ := numL_head i.natAbs
    have em : (Str.ofString "-") = SX.S [45] := rfl
    have ad := ascii_digits hd
    have dd := digit_digits hd h0
    by_cases hn : i < 0
    · rw [textZ_neg hn]
      refine ⟨_, rfl, ⟨_, rfl⟩, _, _, rfl, rfl, by rw [SX.S_len, List.length_cons]; exact small1000' (by omega), ?_⟩
      rw [em, remove_minus, if_pos rfl]
      refine ⟨_, rfl, ⟨_, rfl⟩, _, rfl, rfl, trivial, _, rfl, ?_⟩
      rw [ad]
      refine iteF ⟨_, rfl, ⟨_, rfl⟩, _, rfl, rfl, trivial, _, rfl, ?_⟩
      rw [dd]
      refine iteF ?_
      refine ⟨_, rfl, ⟨_, rfl⟩, _, _, rfl, rfl, _, rfl, ?_⟩
      rw [starts_minus, decide_eq_true rfl]
      refine iteT ⟨_, rfl, _, rfl, hd, h0, by omega, _, rfl, ?_⟩
      rw [hv]
      show Q (V.int (-((i.natAbs : Nat) : Int))) H
      rw [show -((i.natAbs : Nat) : Int) = i by omega]
      exact q
    · rw [textZ_pos hn]
      refine ⟨_, rfl, ⟨_, rfl⟩, _, _, rfl, rfl, by rw [SX.S_len]; exact small1000' (by omega), ?_⟩
      rw [em, ec, remove_minus, if_neg nc, ← ec]
      refine ⟨_, rfl, ⟨_, rfl⟩, _, rfl, rfl, trivial, _, rfl, ?_⟩
      rw [ad]
      refine iteF ⟨_, rfl, ⟨_, rfl⟩, _, rfl, rfl, trivial, _, rfl, ?_⟩
      rw [dd]
      refine iteF ?_
      refine ⟨_, rfl, ⟨_, rfl⟩, _, _, rfl, rfl, _, rfl, ?_⟩
      rw [ec, starts_minus, decide_eq_false nc, ← ec]
      refine iteF ⟨_, rfl, _, rfl, hd, h0, by omega, ?_⟩
      rw [hv, show ((i.natAbs : Nat) : Int) = i by omega]
      exact q

end
end Lw
namespace Lw
open PySem PySem.Spec PyProof.Rows L2 Wr
section
variable {P : Program} {w : World} {K : PySem.W.Frag} {mg : Str → Option Value} {base : Heap}
theorem G_parse_fraction (T : Txt K mg) : FnOk P w K mg base (L2.CX P w) 5 T.a_parse_fraction T.d_parse_fraction
    ["text"] sp_parse := by
  refine T.f_parse_fraction.okX sc_parse_fraction (fun vs H Q E h => ?_) (fun cdv A outer s H vs Q E hr h => ?_)
  · obtain ⟨p, rfl, _⟩ := h
    rfl
  · obtain ⟨⟨t, b⟩, rfl, hf, ht, hb, q⟩ := h
    refine ⟨_, (pss_cons (ps_if (pt_not (pt_val (pe_callB is_str (by rfl) T.z_isinstance (by decide +kernel) (pa_cons (pv 0) (pa_cons (pe_bltn (v := .ty "str") (u := .type "str") (by rfl) T.z_str (by decide +kernel) rfl) pa_nil))))) (pss_one (ps_raise rfl (takes_of rfl rfl rfl rfl) (pmk_own PySem.F.excBase_ValueError T.x_InvalidTextError T.h_InvalidTextError T.k_InvalidTextError (raises_own T.s_InvalidTextError T.t_InvalidTextError) (by exact rfl)))) pss_nil)
    (pss_cons (ps_setLc (i := 1) (own := [("piece", 3)]) (tt := tYes) (by rfl) sc_parse_fraction.nd rfl rfl (sw_true rfl rfl rfl (by decide +kernel)) (pi_list (pe_m1 PySem.F.slot_str_split PySem.F.type_str_split mt_split (pv 0) pe_str)) (blkOk_by (own := [("piece", 3)]) (N := n_parse_fraction) (sc := defScope s_parse_fraction) (by decide +kernel)) (fun _ _ _ _ _ => (pg_name (i := 3) sc_parse_fraction.nd rfl (.inl rfl))) (fun _ _ _ _ _ => pts_nil) (fun _ _ _ _ _ => (pe_call (G_integer_of T) (hr.mono (by omega)) (by rfl) T.g_integer_of T.f_integer_of.kp T.b_integer_of .nil pass0 (pa_cons (pv 3) pa_nil))))
    (pss_mid (ps_if (pt_cmpR op_eq (pe_callB call_len_seq (by rfl) T.z_len (by decide +kernel) (pa_cons (pv 1) pa_nil)) pe_int (nomark _)) (pss_one (ps_expr (pe_bm PySem.F.plainAttrs_list PySem.F.slot_list_append PySem.F.type_list_append mt_append (pv 1) (pa_cons pe_int pa_nil)))) pss_nil)
    (pss_cons (ps_set (i := 2) sc_parse_fraction.nd rfl (.inl rfl) (pe_callTy call_tuple_of (by rfl) T.z_tuple (by decide +kernel) (pa_cons (pv 1) pa_nil)))
    (pss_cons (ps_if (PW.pt (pw_or (pt_not (pt_val (pe_call (G_is_valid_fraction T) (hr.mono (by omega)) (by rfl) T.g_is_valid_fraction T.f_is_valid_fraction.kp T.b_is_valid_fraction .nil pass0 (pa_cons (pv 2) pa_nil)))) (pw_or1 (pt_cmpR op_ne (pe_call (G_format_fraction T) (hr.mono (by omega)) (by rfl) T.g_format_fraction T.f_format_fraction.kp T.b_format_fraction .nil (passes_call (takes_of rfl rfl rfl rfl) fun _ _ _ _ h => h) (pa_cons (pv 2) pa_nil)) (pv 0) (nomark _))))) (pss_one (ps_raise rfl (takes_of rfl rfl rfl rfl) (pmk_own PySem.F.excBase_ValueError T.x_InvalidTextError T.h_InvalidTextError T.k_InvalidTextError (raises_own T.s_InvalidTextError T.t_InvalidTextError) (by exact rfl)))) pss_nil)
    (pss_one (ps_ret (pv 2)))))))), ?_⟩
    have hb1 : 1 ≤ b := by
      have h2 : (decide (1 ≤ b) && decide (Int.gcd t b = 1)) = true := hf
      rw [Bool.and_eq_true, decide_eq_true_eq] at h2
      exact h2.1
    have lf := fracL_len (p := (t, b)) ht hb
    have em : (Str.ofString "/") = SX.S [47] := rfl
    refine ⟨_, rfl, _, _, False, No, rfl, .str _, _, rfl, iteF ?_⟩
    refine ⟨_, rfl, ⟨_, rfl⟩, _, _, rfl, rfl, rfl, by rw [SX.S_len]; exact small1000' (by omega), fun p np => ?_⟩
    rw [em, split_frac, partsF_vals (p := (t, b)) (by show 0 ≤ b; omega)]
    have eP : (upd H p (.lst ((((valsF (t, b)).map textZ).map SX.S).map V.str))) p = some (.lst ((((valsF (t, b)).map textZ).map SX.S).map V.str)) := upd_same
    have sP : Same H (upd H p (.lst ((((valsF (t, b)).map textZ).map SX.S).map V.str))) := Same.new np
    generalize upd H p (.lst ((((valsF (t, b)).map textZ).map SX.S).map V.str)) = G0 at eP sP
    have hv : ∀ i ∈ valsF (t, b), i.natAbs < 10 ^ 20 := fun i m => by
      unfold valsF at m
      split at m
      · rw [List.mem_singleton.mp m]; exact ht
      · rcases List.mem_cons.mp m with h | h
        · rw [h]; exact ht
        · rw [List.mem_singleton.mp h]; exact hb
    have lv : (valsF (t, b)).length ≤ 2 := by
      unfold valsF
      split <;> simp
    refine ⟨p, rfl, ⟨_, .inl (.inl eP)⟩, fun D nD => ?_⟩
    have nDp : D ≠ p := fun e => by rw [e, eP] at nD; cases nD
    refine lc_list (K := K) (a := p) (xs := (((valsF (t, b)).map textZ).map SX.S).map V.str) (fun i G => G = upd G0 D (.lst (((valsF (t, b)).take i).map V.int))) rfl (fun i G _ h => ?_) (fun i x G hi h => ?_) (fun G h => ?_)
    · subst h
      exact .inl (.inl ((Same.new nD) _ _ eP))
    · subst h
      rw [List.getElem?_map, List.getElem?_map, List.getElem?_map] at hi
      obtain ⟨y1, h1, rfl⟩ := Option.map_eq_some_iff.mp hi
      obtain ⟨y2, h2, rfl⟩ := Option.map_eq_some_iff.mp h1
      obtain ⟨z, hz, rfl⟩ := Option.map_eq_some_iff.mp h2
      refine ⟨rfl, ?_⟩
      refine ⟨_, rfl, z, rfl, hv z (List.mem_of_getElem? hz), _, upd_same, small1000 (by rw [List.length_map, List.length_take]; omega), ?_⟩
      rw [upd_upd, List.take_add_one, hz, List.map_append]
      rfl
    · subst h
      rw [List.length_map, List.length_map, List.length_map, List.take_length]
      have eD := upd_same (H := G0) (a := D) (o := .lst ((valsF (t, b)).map V.int))
      have sD : Same G0 (upd G0 D (.lst ((valsF (t, b)).map V.int))) := Same.new nD
      generalize upd G0 D (.lst ((valsF (t, b)).map V.int)) = G1 at eD sD
      have nDH : H D = none := none_of sP nD
      have fin : ∀ {G2 : Hp}, Same H G2 → G2 D = some (.lst [V.int t, V.int b]) → ∀ p3, G2 p3 = none → (isFrac (prD (t, b)) = true) →
          DV False No (upd G2 p3 (.tup [V.int t, V.int b])) (.ref p3) (prD (t, b)) := fun s e p3 n3 _ => .tup (fun h => h) upd_same (.cons (.int _) (.cons (.int _) .nil))
      refine ⟨fun τ G => τ = [some (.str (SX.S (fracL (t, b)))), some (.ref D), none, none] ∧ G D = some (.lst [V.int t, V.int b]) ∧ Same H G, ?_, fun τ G h => ?_⟩
      · refine ⟨_, rfl, D, _, rfl, .inl (.inl (.inl eD)), rfl, _, rfl, ite2 (fun e => ?_) fun e => ?_⟩
        · have n : (((valsF (t, b)).map V.int).length : Int) = 1 := yb_int e
          have b1 : b = 1 := by
            by_cases h : b = 1
            · exact h
            · rw [show valsF (t, b) = [t, b] from if_neg h] at n
              cases n
          rw [show valsF (t, b) = [t] from if_pos b1] at eD
          refine ⟨_, rfl, .inl ⟨rfl, _, .inl (.inl eD)⟩, D, _, _, rfl, rfl, eD, (by show 1 < sizeLine; decide), rfl, ?_, (sP.trans sD).off nDH⟩
          rw [upd_same, b1]
          rfl
        · have n : (((valsF (t, b)).map V.int).length : Int) ≠ 1 := yb_int' e
          have b1 : b ≠ 1 := fun h => n (by rw [show valsF (t, b) = [t] from if_pos h]; rfl)
          rw [show valsF (t, b) = [t, b] from if_neg b1] at eD
          exact ⟨rfl, eD, sP.trans sD⟩
      · obtain ⟨rfl, eD, sG⟩ := h
        refine ⟨_, rfl, D, _, rfl, .inl ⟨.inl (.inl eD), fun p3 n3 => ?_⟩⟩
        have d3 := fin sG eD p3 n3 hf
        have s3 : Same H (upd G p3 (.tup [V.int t, V.int b])) := sG.trans (Same.new n3)
        refine ⟨_, rfl, .ref p3, _, _, _, rfl, d3, _, rfl, ?_⟩
        rw [hf]
        refine iteF ⟨_, rfl, .ref p3, _, _, _, rfl, d3, fun e => absurd hf (by rw [e]; exact fun z => nomatch z), fun _ => ⟨(t, b), rfl, ht, hb, fun G5 s5 => ?_⟩⟩
        refine ⟨_, rfl, rfl, _, rfl, ?_⟩
        rw [decide_eq_true rfl]
        refine iteF ?_
        exact ⟨_, rfl, q p3 G5 (s3.trans s5) (none_of sG n3) (s5 _ _ upd_same)⟩

end
end Lw
namespace Lw
open PySem PySem.Spec PyProof.Rows L2 Wr
section
variable {P : Program} {w : World} {K : PySem.W.Frag} {mg : Str → Option Value} {base : Heap}
theorem G__law_cell (T : Txt K mg) : FnOk P w K mg base CX0 1 T.a__law_cell T.d__law_cell
    ["_law_script", "_law_k"] (sp_cell K) := by
  refine T.f__law_cell.ok sc__law_cell (fun vs H Q E h => ?_) (fun cdv A outer s H vs Q E hr h => ?_)
  · obtain ⟨a, ns, k, rfl, _⟩ := h
    rfl
  · obtain ⟨a, ns, k, rfl, hS, h0, q⟩ := h
    refine ⟨_, (pss_cons (ps_if (pt_cmpR op_lt (pv 1) (pe_callB call_len_seq (by rfl) T.z_len (by decide +kernel) (pa_cons (pv 0) pa_nil)) (nomark _)) (pss_one (ps_ret (pe_ix ix_list (pv 0) (pv 1) (fun _ _ => rfl)))) pss_nil)
    (pss_one (ps_ret pe_int))), ?_⟩
    refine ⟨_, rfl, _, rfl, _, _, rfl, .inl hS, _, _, rfl, rfl, _, rfl, ite2 (fun e => ?_) fun e => q _⟩
    have e1 : k < ((ns.map V.int).length : Int) := of_decide_eq_true e
    rw [List.length_map] at e1
    have e2 : k.toNat < ns.length := by omega
    have g : atI (ns.map V.int) k = some (.int ns[k.toNat]) := by
      refine at_int h0 ?_
      rw [List.getElem?_map, List.getElem?_eq_getElem e2]
      rfl
    exact ⟨_, rfl, _, rfl, _, _, _, _, rfl, rfl, hS, g, q _⟩

end
end Lw
namespace Lw
open PySem PySem.Spec PyProof.Rows L2 Wr
section
variable {P : Program} {w : World} {K : PySem.W.Frag} {mg : Str → Option Value} {base : Heap}
theorem G__law_fraction (T : Txt K mg) : FnOk P w K mg base CX0 1 T.a__law_fraction T.d__law_fraction
    ["_law_top", "_law_bottom"] sp_lowP := by
  refine T.f__law_fraction.ok sc__law_fraction (fun vs H Q E h => ?_) (fun cdv A outer s H vs Q E hr h => ?_)
  · obtain ⟨t, b, rfl, _⟩ := h
    rfl
  · obtain ⟨t, b, rfl, b0, bb, q⟩ := h
    refine ⟨_, (pss_cons (ps_set (i := 2) sc__law_fraction.nd rfl (.inl rfl) (pe_callB call_abs (by rfl) T.z_abs (by decide +kernel) (pa_cons (pv 0) pa_nil)))
    (pss_cons (ps_set (i := 3) sc__law_fraction.nd rfl (.inl rfl) (pv 1))
    (pss_cons (ps_while PassesOwn.never (pt_cmpR op_gt (pv 3) pe_int (nomark _))
    (pss_cons (ps_set (i := 4) sc__law_fraction.nd rfl (.inl rfl) (pe_op op_mod (pv 2) (pv 3)))
    (pss_cons (ps_set (i := 2) sc__law_fraction.nd rfl (.inl rfl) (pv 3))
    (pss_one (ps_set (i := 3) sc__law_fraction.nd rfl (.inl rfl) (pv 4))))))
    (pss_one (ps_ret (pe_tupS (pa_cons (pe_op op_fdivG (pv 0) (pv 2)) (pa_cons (pe_op op_fdivG (pv 1) (pv 2)) pa_nil)))))))), ?_⟩
    have g0 := gcd_posR (t := t) (show b ≠ 0 by omega)
    have g1 := gcd_leR (t := t) (show b ≠ 0 by omega)
    refine ⟨_, rfl, t, rfl, _, rfl, ?_⟩
    refine ⟨fun m σ H1 => ∃ (x y : Int) (y4 : Option V), σ = [some (.int t), some (.int b), some (.int x), some (.int y), y4] ∧ H1 = H ∧ m = y.toNat ∧
      0 ≤ y ∧ 0 ≤ x ∧ Int.gcd x y = Int.gcd t b,
      ⟨_, _, b, _, rfl, rfl, rfl, by omega, by split <;> omega, by split <;> simp [Int.gcd]⟩, fun m σ H1 h => ?_⟩
    obtain ⟨x, y, y4, rfl, rfl, rfl, h0, h1, h2⟩ := h
    refine ⟨_, rfl, _, _, rfl, rfl, _, rfl, ite2 (fun e => ⟨_, fun _ _ h => h, ?_⟩) fun e => ?_⟩
    · have y0 : 0 < y := of_decide_eq_true e
      refine ⟨_, rfl, _, rfl, _, _, rfl, rfl, y0, _, rfl, _, rfl, ?_⟩
      refine ⟨(x % y).toNat, ?_, y, x % y, _, rfl, rfl, rfl, Int.emod_nonneg x (by omega), h0, ?_⟩
      · have := Int.emod_lt_of_pos x y0
        have := Int.emod_nonneg x (show y ≠ 0 by omega)
        omega
      · rw [← h2, ← gcd_fmod x y, Int.fmod_eq_emod_of_nonneg x h0]
    · have y0 : ¬ 0 < y := fun z => e (decide_eq_true z)
      have : y = 0 := by omega
      subst this
      rw [Int.gcd_zero_right] at h2
      have ex : x = ((Int.gcd t b : Nat) : Int) := by omega
      subst ex
      have dg : ∀ i : Int, CDivG i ((Int.gcd t b : Nat) : Int) := fun i => divG (by omega) (Nat.lt_of_le_of_lt (by omega) bb) i
      refine ⟨_, rfl, _, rfl, _, _, rfl, rfl, dg _, _, rfl, _, rfl, _, _, rfl, rfl, dg _, (by show 2 ≤ sizeLine; decide), fun p np _ => ?_⟩
      refine q p _ (Same.new np) np ?_
      rw [upd_same]
      show some (HO.tup [.int (t.fdiv ((Int.gcd t b : Nat) : Int)), .int (b.fdiv ((Int.gcd t b : Nat) : Int))]) = _
      rw [Int.fdiv_eq_ediv_of_nonneg _ (by omega), Int.fdiv_eq_ediv_of_nonneg _ (by omega)]
      rfl

end
end Lw
namespace Lw
open PySem PySem.Spec PyProof.Rows L2 Wr
section
variable {P : Program} {w : World} {K : PySem.W.Frag} {mg : Str → Option Value} {base : Heap}
theorem same_core (T : Txt K mg) (n : Nat) (sp' : Sp)
    (G' : FnOk P w K mg base CX0 (1 + n) T.a__law_is_same T.d__law_is_same ["_law_actual", "_law_wanted"] sp')
    (hG : ∀ m, n = m + 1 → sp' = sp_same m) :
    FnOk P w K mg base CX0 (1 + n + 1) T.a__law_is_same T.d__law_is_same ["_law_actual", "_law_wanted"] (sp_same n) := by
  refine T.f__law_is_same.ok sc__law_is_same (fun vs H Q E h => ?_) (fun cdv A outer s H vs Q E hr h => ?_)
  · obtain ⟨v1, v2, d, z1, z2, B1, B2, rfl, _⟩ := h
    rfl
  · obtain ⟨v1, v2, d, z1, z2, B1, B2, rfl, h1, h2, hp, q⟩ := h
    refine ⟨_, (pss_cons (ps_if (pt_val (pe_callB is_tuple (by rfl) T.z_isinstance (by decide +kernel) (pa_cons (pv 1) (pa_cons (pe_bltn (v := .ty "tuple") (u := .type "tuple") (by rfl) T.z_tuple (by decide +kernel) rfl) pa_nil)))) (pss_cons (ps_if (PW.pt (pw_or (pt_not (pt_val (pe_callB is_tuple (by rfl) T.z_isinstance (by decide +kernel) (pa_cons (pv 0) (pa_cons (pe_bltn (v := .ty "tuple") (u := .type "tuple") (by rfl) T.z_tuple (by decide +kernel) rfl) pa_nil))))) (pw_or1 (pt_cmpR op_ne (pe_callB call_len_seq (by rfl) T.z_len (by decide +kernel) (pa_cons (pv 0) pa_nil)) (pe_callB call_len_seq (by rfl) T.z_len (by decide +kernel) (pa_cons (pv 1) pa_nil)) (nomark _))))) (pss_one (ps_ret pe_bl)) pss_nil)
    (pss_one (ps_ret (pe_callB (cr_all rfl) (by rfl) T.z_all (by decide +kernel) (pa_cons (pe_lc (own := [("_law_k", 2)]) (tt := tYes) (by rfl) sc__law_is_same.nd (pi_range1 rfl T.z_range (pa_cons (pe_callB call_len_seq (by rfl) T.z_len (by decide +kernel) (pa_cons (pv 1) pa_nil)) pa_nil)) (blkOk_by (own := [("_law_k", 2)]) (N := n__law_is_same) (sc := defScope s__law_is_same) (by decide +kernel)) (fun _ _ _ _ _ => (pg_name (i := 2) sc__law_is_same.nd rfl (.inl rfl))) (fun _ _ _ _ _ => pts_nil) (fun _ _ _ _ _ => (pe_call G' (hr.mono (by omega)) (by rfl) T.g__law_is_same T.f__law_is_same.kp T.b__law_is_same .nil pass0 (pa_cons (pe_ix (ix_tupK (K := K) rfl) (pv 0) (pv 2) (fun _ _ => rfl)) (pa_cons (pe_ix (ix_tupK (K := K) rfl) (pv 1) (pv 2) (fun _ _ => rfl)) pa_nil))))) pa_nil))))) pss_nil)
    (pss_cons (ps_if (pt_cmpR op_isN (pv 1) pe_non (nomark _)) (pss_one (ps_ret (pe_cmpR op_isN (pv 0) pe_non (nomark _)))) pss_nil)
    (pss_cons (ps_if (pt_val (pe_callB is_str (by rfl) T.z_isinstance (by decide +kernel) (pa_cons (pv 1) (pa_cons (pe_bltn (v := .ty "str") (u := .type "str") (by rfl) T.z_str (by decide +kernel) rfl) pa_nil)))) (pss_one (ps_ret (pe_and (pe_callB is_str (by rfl) T.z_isinstance (by decide +kernel) (pa_cons (pv 0) (pa_cons (pe_bltn (v := .ty "str") (u := .type "str") (by rfl) T.z_str (by decide +kernel) rfl) pa_nil))) (pe_one (pe_cmpR op_eq (pv 0) (pv 1) (nomark _)))))) pss_nil)
    (pss_cons (ps_if (PW.pt (pw_or (pt_not (pt_val (pe_callB is_int (by rfl) T.z_isinstance (by decide +kernel) (pa_cons (pv 0) (pa_cons (pe_bltn (v := .ty "int") (u := .type "int") (by rfl) T.z_int (by decide +kernel) rfl) pa_nil))))) (pw_or1 (pt_cmpR op_ne (pe_callB is_bool (by rfl) T.z_isinstance (by decide +kernel) (pa_cons (pv 0) (pa_cons (pe_bltn (v := .ty "bool") (u := .type "bool") (by rfl) T.z_bool (by decide +kernel) rfl) pa_nil))) (pe_callB is_bool (by rfl) T.z_isinstance (by decide +kernel) (pa_cons (pv 1) (pa_cons (pe_bltn (v := .ty "bool") (u := .type "bool") (by rfl) T.z_bool (by decide +kernel) rfl) pa_nil))) (nomark _))))) (pss_one (ps_ret pe_bl)) pss_nil)
    (pss_one (ps_ret (pe_cmpR op_eq (pv 0) (pv 1) (nomark _)))))))), ?_⟩
    refine ⟨_, rfl, v2, d, z2, B2, rfl, h2, _, rfl, ite2 (fun eT => ?_) fun eT => ?_⟩
    · obtain ⟨ds, rfl⟩ := isT_tup eT
      obtain ⟨m, rfl, hm, hlen⟩ := plD_tup hp
      obtain ⟨a1, xs, rfl, _, ea1, hx⟩ := h1.tupI
      obtain ⟨a2, ys, rfl, _, ea2, hy⟩ := h2.tupI
      have l1 := hx.length
      have l2 := hy.length
      have G1 := hG m rfl
      subst G1
      refine ⟨_, rfl, _, _, _, _, rfl, h1, _, rfl, iteF ?_⟩
      refine ⟨_, rfl, a1, _, rfl, .inr (.inl (.inl ea1)), _, rfl, a2, _, rfl, .inr (.inl (.inl ea2)), rfl, _, rfl, ?_⟩
      rw [l1, l2, decide_eq_true rfl]
      refine iteF ?_
      refine ⟨_, rfl, a2, _, rfl, .inr (.inl (.inl ea2)), _, rfl, by omega, by omega, fun D nD => ?_⟩
      have ey : ((ys.length : Nat) : Int).toNat = ds.length := by omega
      rw [ey]
      refine lc_range (fun i G => Same H G ∧ G D = some (.lst (List.replicate i (V.bl true)))) ⟨Same.new nD, upd_same⟩ (fun i G hi h => ?_) (fun G h => ?_)
      · obtain ⟨s1, eD⟩ := h
        refine ⟨rfl, ?_⟩
        have hd : ds[i]? = some ds[i] := List.getElem?_eq_getElem hi
        have h1x : xs[i]? = some xs[i] := List.getElem?_eq_getElem (by omega)
        have h2x : ys[i]? = some ys[i] := List.getElem?_eq_getElem (by omega)
        obtain ⟨d1, e1, y1⟩ := hx.at h1x
        obtain ⟨d2, e2, y2⟩ := hy.at h2x
        obtain rfl := Option.some.inj (hd.symm.trans e1)
        obtain rfl := Option.some.inj (hd.symm.trans e2)
        refine ⟨_, rfl, _, rfl, a1, _, _, xs[i], rfl, rfl, .inl (.inl (s1 _ _ ea1)), at_int (by omega) (by rw [show (0 + (i : Int)).toNat = i by omega]; exact h1x), ?_⟩
        refine ⟨_, rfl, _, rfl, a2, _, _, ys[i], rfl, rfl, .inl (.inl (s1 _ _ ea2)), at_int (by omega) (by rw [show (0 + (i : Int)).toNat = i by omega]; exact h2x), ?_⟩
        refine ⟨_, _, ds[i], z1, z2, B1, B2, rfl, y1.keep (Keep.same s1), y2.keep (Keep.same s1), hm _ (List.getElem_mem hi), fun G2 s2 => ?_⟩
        refine ⟨_, s2 _ _ eD, small1000 (by rw [List.length_replicate]; omega), (s1.trans s2).off nD, ?_⟩
        rw [upd_same]
        rw [List.replicate_succ']
      · obtain ⟨s1, eD⟩ := h
        refine ⟨D, List.replicate ds.length true, rfl, .inl (.inl (by rw [List.map_replicate]; exact eD)), ?_⟩
        rw [show (List.replicate ds.length true).all id = true from List.all_eq_true.mpr fun b m => (List.mem_replicate.mp m).2]
        exact q G s1
    · have hl := plD_leaf hp (by simpa using eT)
      have ne : (isT d = true) = False := eq_false eT
      cases d with
      | none =>
        obtain rfl : v1 = .non := by cases h1; rfl
        obtain rfl : v2 = .non := by cases h2; rfl
        refine ⟨_, rfl, rfl, _, rfl, ?_⟩
        rw [decide_eq_true rfl]
        refine iteT ⟨_, rfl, rfl, ?_⟩
        rw [decide_eq_true rfl]
        exact q H (Same.refl H)
      | str x =>
        obtain rfl : v1 = .str x := by cases h1; rfl
        obtain rfl : v2 = .str x := by cases h2; rfl
        refine ⟨_, rfl, rfl, _, rfl, ?_⟩
        rw [decide_eq_false (fun h => nomatch h)]
        refine iteF ?_
        refine ⟨_, rfl, _, _, z2, B2, rfl, h2, _, rfl, iteT ?_⟩
        refine ⟨_, rfl, _, _, z1, B1, rfl, h1, _, rfl, iteT ?_⟩
        refine ⟨_, rfl, _, rfl, rfl, ?_⟩
        rw [decide_eq_true rfl]
        exact q H (Same.refl H)
      | int x =>
        obtain rfl : v1 = .int x := by cases h1; rfl
        obtain rfl : v2 = .int x := by cases h2; rfl
        refine ⟨_, rfl, rfl, _, rfl, ?_⟩
        rw [decide_eq_false (fun h => nomatch h)]
        refine iteF ?_
        refine ⟨_, rfl, _, _, z2, B2, rfl, h2, _, rfl, iteF ?_⟩
        refine ⟨_, rfl, _, _, z1, B1, rfl, h1, _, rfl, iteF ?_⟩
        refine ⟨_, rfl, _, _, z1, B1, rfl, h1, _, rfl, _, _, z2, B2, rfl, h2, rfl, _, rfl, iteF ?_⟩
        refine ⟨_, rfl, _, rfl, rfl, ?_⟩
        rw [decide_eq_true rfl]
        exact q H (Same.refl H)
      | bool x =>
        obtain rfl : v1 = .bl x := by cases h1; rfl
        obtain rfl : v2 = .bl x := by cases h2; rfl
        refine ⟨_, rfl, rfl, _, rfl, ?_⟩
        rw [decide_eq_false (fun h => nomatch h)]
        refine iteF ?_
        refine ⟨_, rfl, _, _, z2, B2, rfl, h2, _, rfl, iteF ?_⟩
        refine ⟨_, rfl, _, _, z1, B1, rfl, h1, _, rfl, iteF ?_⟩
        refine ⟨_, rfl, _, _, z1, B1, rfl, h1, _, rfl, _, _, z2, B2, rfl, h2, rfl, _, rfl, iteF ?_⟩
        refine ⟨_, rfl, _, rfl, rfl, ?_⟩
        rw [decide_eq_true rfl]
        exact q H (Same.refl H)
      | _ => cases hl
theorem G__law_is_same (T : Txt K mg) : ∀ n : Nat, FnOk P w K mg base CX0 (1 + n + 1) T.a__law_is_same T.d__law_is_same ["_law_actual", "_law_wanted"] (sp_same n)
  | 0 => same_core T 0 (fun _ _ _ _ => False)
      ⟨fun _ _ _ _ h => h.elim, fun _ _ _ _ _ _ _ _ _ _ _ _ _ h => h.elim⟩ (fun m e => by omega)
  | n + 1 => same_core T (n + 1) (sp_same n) (G__law_is_same T n)
      (fun m e => by rw [show m = n by omega])

def sp_sameS : Sp := fun vs H Q _ => ∃ x : Str, vs = [.str x, .str x] ∧ Q (.bl true) H
theorem GH__law_is_same (T : Txt K mg) : L2H.FnH P w K mg base CX0 1 T.a__law_is_same T.d__law_is_same ["_law_actual", "_law_wanted"] sp_sameS := by
  refine okH T.f__law_is_same sc__law_is_same (fun vs H Q E h => ?_) (fun cdv A outer s H vs Q E p hot hr h => ?_)
  · obtain ⟨x, rfl, _⟩ := h
    rfl
  · obtain ⟨x, rfl, q⟩ := h
    refine ⟨_, (pss_cons (ps_if (pt_val (pe_callB is_tuple (by rfl) T.z_isinstance (by decide +kernel) (pa_cons (pv 1) (pa_cons (pe_bltn (v := .ty "tuple") (u := .type "tuple") (by rfl) T.z_tuple (by decide +kernel) rfl) pa_nil)))) (pss_cons (ps_if (PW.pt (pw_or (pt_not (pt_val (pe_callB is_tuple (by rfl) T.z_isinstance (by decide +kernel) (pa_cons (pv 0) (pa_cons (pe_bltn (v := .ty "tuple") (u := .type "tuple") (by rfl) T.z_tuple (by decide +kernel) rfl) pa_nil))))) (pw_or1 (pt_cmpR op_ne (pe_callB call_len_seq (by rfl) T.z_len (by decide +kernel) (pa_cons (pv 0) pa_nil)) (pe_callB call_len_seq (by rfl) T.z_len (by decide +kernel) (pa_cons (pv 1) pa_nil)) (nomark _))))) (pss_one (ps_ret pe_bl)) pss_nil)
    (pss_one ps_no)) pss_nil)
    (pss_cons (ps_if (pt_cmpR op_isN (pv 1) pe_non (nomark _)) (pss_one (ps_ret (pe_cmpR op_isN (pv 0) pe_non (nomark _)))) pss_nil)
    (pss_cons (ps_if (pt_val (pe_callB is_str (by rfl) T.z_isinstance (by decide +kernel) (pa_cons (pv 1) (pa_cons (pe_bltn (v := .ty "str") (u := .type "str") (by rfl) T.z_str (by decide +kernel) rfl) pa_nil)))) (pss_one (ps_ret (pe_and (pe_callB is_str (by rfl) T.z_isinstance (by decide +kernel) (pa_cons (pv 0) (pa_cons (pe_bltn (v := .ty "str") (u := .type "str") (by rfl) T.z_str (by decide +kernel) rfl) pa_nil))) (pe_one (pe_cmpR op_eq (pv 0) (pv 1) (nomark _)))))) pss_nil)
    (pss_cons (ps_if (PW.pt (pw_or (pt_not (pt_val (pe_callB is_int (by rfl) T.z_isinstance (by decide +kernel) (pa_cons (pv 0) (pa_cons (pe_bltn (v := .ty "int") (u := .type "int") (by rfl) T.z_int (by decide +kernel) rfl) pa_nil))))) (pw_or1 (pt_cmpR op_ne (pe_callB is_bool (by rfl) T.z_isinstance (by decide +kernel) (pa_cons (pv 0) (pa_cons (pe_bltn (v := .ty "bool") (u := .type "bool") (by rfl) T.z_bool (by decide +kernel) rfl) pa_nil))) (pe_callB is_bool (by rfl) T.z_isinstance (by decide +kernel) (pa_cons (pv 1) (pa_cons (pe_bltn (v := .ty "bool") (u := .type "bool") (by rfl) T.z_bool (by decide +kernel) rfl) pa_nil))) (nomark _))))) (pss_one (ps_ret pe_bl)) pss_nil)
    (pss_one (ps_ret (pe_cmpR op_eq (pv 0) (pv 1) (nomark _)))))))), ?_⟩
    refine ⟨_, rfl, _, _, False, No, rfl, .str x, _, rfl, iteF ?_⟩
    refine ⟨_, rfl, rfl, _, rfl, ?_⟩
    rw [decide_eq_false (fun h => nomatch h)]
    refine iteF ?_
    refine ⟨_, rfl, _, _, False, No, rfl, .str x, _, rfl, iteT ?_⟩
    refine ⟨_, rfl, _, _, False, No, rfl, .str x, _, rfl, iteT ?_⟩
    refine ⟨_, rfl, _, rfl, rfl, ?_⟩
    rw [decide_eq_true rfl]
    exact q

end
end Lw
namespace Lw
open PySem PySem.Spec PyProof.Rows L2 Wr
section
variable {P : Program} {w : World} {K : PySem.W.Frag} {mg : Str → Option Value} {base : Heap}
def sp_dec : Sp := fun vs H Q _ => ∃ i : Int, vs = [.int i] ∧ i.natAbs < 10 ^ 20 ∧ Q (.str (SX.S (textZ i))) H
theorem cat1 (c : Nat) (l : List Nat) : ((⟨#[c]⟩ : Str) ++ SX.S l) = SX.S (c :: l) := by
  show (⟨#[c] ++ l.toArray⟩ : Str) = ⟨(c :: l).toArray⟩
  simp
theorem digAt (m : Nat) : atI (Str.ofString "0123456789").cps.toList ((m : Int) % 10) = some (48 + m % 10) := by
  have key : ∀ d, d < 10 → atI (Str.ofString "0123456789").cps.toList ((d : Nat) : Int) = some (48 + d) := by decide +kernel
  have := key (m % 10) (Nat.mod_lt m (by decide))
  rw [← this]
  congr 1
def decI (i : Int) (m : Nat) (l : List Nat) : Prop := l = [] ∧ m = i.natAbs ∨ l ≠ [] ∧ TL.numL i.natAbs = (if m = 0 then [] else TL.numL m) ++ l
theorem decI_step {i : Int} {m : Nat} {l : List Nat} (h : decI i m l) (hc : 0 < m ∨ l = []) : decI i (m / 10) ((48 + m % 10) :: l) := by
  refine .inr ⟨by simp, ?_⟩
  have key : TL.numL m = (if m / 10 = 0 then [] else TL.numL (m / 10)) ++ [48 + m % 10] := by
    by_cases h10 : m < 10
    · rw [if_pos (by omega), TL.numL_lt h10, Nat.mod_eq_of_lt h10]
      rfl
    · rw [if_neg (by omega), TL.numL_step (by omega)]
  rcases h with ⟨rfl, rfl⟩ | ⟨h1, h2⟩
  · exact key
  · rw [h2, if_neg (by rcases hc with h | h; omega; exact absurd h h1), key, List.append_assoc]
    rfl
theorem decI_len {i : Int} {m : Nat} {l : List Nat} (h : decI i m l) (hi : i.natAbs < 10 ^ 20) : l.length ≤ 20 := by
  rcases h with ⟨rfl, rfl⟩ | ⟨h1, h2⟩
  · exact Nat.zero_le _
  · have := numL_len20 hi
    rw [h2, List.length_append] at this
    omega
theorem G__law_digits (T : Txt K mg) : FnOk P w K mg base CX0 1 T.a__law_digits T.d__law_digits
    ["_law_number"] sp_dec := by
  refine T.f__law_digits.ok sc__law_digits (fun vs H Q E h => ?_) (fun cdv A outer s H vs Q E hr h => ?_)
  · obtain ⟨i, rfl, _⟩ := h
    rfl
  · obtain ⟨i, rfl, hi, q⟩ := h
    refine ⟨_, (pss_cons (ps_set (i := 1) sc__law_digits.nd rfl (.inl rfl) pe_str)
    (pss_cons (ps_set (i := 2) sc__law_digits.nd rfl (.inl rfl) (pe_callB call_abs (by rfl) T.z_abs (by decide +kernel) (pa_cons (pv 0) pa_nil)))
    (pss_cons (ps_while PassesOwn.never (PW.pt (pw_or (pt_cmpR op_gt (pv 2) pe_int (nomark _)) (pw_or1 (pt_cmpR op_eq (pv 1) pe_str (nomark _)))))
    (pss_cons (ps_set (i := 1) sc__law_digits.nd rfl (.inl rfl) (pe_op op_add_str (pe_ix ix_str pe_str (pe_op op_mod (pv 2) pe_int) (fun _ _ => rfl)) (pv 1)))
    (pss_one (ps_set (i := 2) sc__law_digits.nd rfl (.inl rfl) (pe_op op_fdiv (pv 2) pe_int)))))
    (pss_cons (ps_if (pt_cmpR op_lt (pv 0) pe_int (nomark _)) (pss_one (ps_ret (pe_op op_add_str pe_str (pv 1)))) pss_nil)
    (pss_one (ps_ret (pv 1))))))), ?_⟩
    refine ⟨_, rfl, i, rfl, ?_⟩
    refine ⟨fun k σ G => ∃ (m : Nat) (l : List Nat), σ = [some (.int i), some (.str (SX.S l)), some (.int (m : Int))] ∧ G = H ∧ k = m + (if l = [] then 1 else 0) ∧ decI i m l,
      ⟨_, i.natAbs, [], by rw [show ((i.natAbs : Nat) : Int) = if i < 0 then -i else i by split <;> omega]; rfl, rfl, rfl, .inl ⟨rfl, rfl⟩⟩, fun k σ G h => ?_⟩
    obtain ⟨m, l, rfl, rfl, rfl, hI⟩ := h
    have ll := decI_len hI hi
    refine ⟨_, rfl, _, _, rfl, rfl, _, rfl, ite2 (fun e => ?_) fun e => ?_⟩
    · have m0 : 0 < m := by have := of_decide_eq_true e; omega
      refine ⟨_, fun _ _ h => h, ?_⟩
      have hI2 := decI_step hI (.inl m0)
      refine ⟨_, rfl, _, _, rfl, rfl, (show (0 : Int) < 10 by decide), Str.ofString "0123456789", ((m : Int) % 10), 48 + m % 10, rfl, rfl, (by show 10 ≤ sizeLine; decide), digAt m, _, rfl, _, _, rfl, rfl, (by show 1 + (SX.S l).length ≤ sizeLine; rw [SX.S_len]; exact Nat.le_trans (show 1 + l.length ≤ 1000 by omega) (by decide)), ?_⟩
      refine ⟨_, rfl, _, _, rfl, rfl, ⟨by decide, by decide⟩, ?_⟩
      refine ⟨_, ?_, m / 10, (48 + m % 10) :: l, ?_, rfl, rfl, hI2⟩
      · rw [if_neg (by simp)]
        omega
      · show [some (V.int i), some (V.str ((⟨#[48 + m % 10]⟩ : Str) ++ SX.S l)), some (V.int ((m : Int) / 10))] = _
        rw [show ((⟨#[48 + m % 10]⟩ : Str) ++ SX.S l) = SX.S ((48 + m % 10) :: l) from cat1 _ _]
        congr 4
    · refine ⟨_, rfl, rfl, _, rfl, ite2 (fun e2 => ?_) fun e2 => ?_⟩
      · have l0 : l = [] := by
          have h := V.str.inj (of_decide_eq_true e2)
          have h2 : (SX.S l).cps = (Str.ofString "").cps := by rw [h]
          have h3 : l.toArray = #[] := h2
          simpa using h3
        refine ⟨_, fun _ _ h => h, ?_⟩
        have hI2 := decI_step hI (.inr l0)
        refine ⟨_, rfl, _, _, rfl, rfl, (show (0 : Int) < 10 by decide), Str.ofString "0123456789", ((m : Int) % 10), 48 + m % 10, rfl, rfl, (by show 10 ≤ sizeLine; decide), digAt m, _, rfl, _, _, rfl, rfl, (by show 1 + (SX.S l).length ≤ sizeLine; rw [SX.S_len]; exact Nat.le_trans (show 1 + l.length ≤ 1000 by omega) (by decide)), ?_⟩
        refine ⟨_, rfl, _, _, rfl, rfl, ⟨by decide, by decide⟩, ?_⟩
        refine ⟨_, ?_, m / 10, (48 + m % 10) :: l, ?_, rfl, rfl, hI2⟩
        · rw [if_neg (by simp)]
          rw [if_pos l0]; omega
        · show [some (V.int i), some (V.str ((⟨#[48 + m % 10]⟩ : Str) ++ SX.S l)), some (V.int ((m : Int) / 10))] = _
          rw [show ((⟨#[48 + m % 10]⟩ : Str) ++ SX.S l) = SX.S ((48 + m % 10) :: l) from cat1 _ _]
          congr 4
      · have m0 : m = 0 := by
          have : ¬ (0 < (m : Int)) := fun z => e (decide_eq_true z)
          omega
        have l0 : l ≠ [] := fun h => e2 (by rw [h]; exact decide_eq_true rfl)
        have hl : TL.numL i.natAbs = l := by
          rcases hI with ⟨h, _⟩ | ⟨_, h⟩
          · exact absurd h l0
          · rw [if_pos m0] at h
            exact h
        refine ⟨_, rfl, _, _, rfl, rfl, _, rfl, ite2 (fun e3 => ?_) fun e3 => ?_⟩
        · refine ⟨_, rfl, _, _, rfl, rfl, (by show 1 + (SX.S l).length ≤ sizeLine; rw [SX.S_len]; exact Nat.le_trans (show 1 + l.length ≤ 1000 by omega) (by decide)), ?_⟩
          rw [show ((Str.ofString "-") ++ SX.S l) = SX.S (45 :: l) from cat1 _ _]
          rw [textZ_neg (of_decide_eq_true e3), hl] at q
          exact q
        · rw [textZ_pos (fun h => e3 (decide_eq_true h)), hl] at q
          exact ⟨_, rfl, q⟩

end
end Lw
namespace Lw
open PySem PySem.Spec PyProof.Rows L2 Wr
section
variable {P : Program} {w : World} {K : PySem.W.Frag} {mg : Str → Option Value} {base : Heap}
def sp_refd : Sp := fun vs H Q _ => ∃ (v : V) (d : PyData) (z : Prop) (B : Addr → Prop), vs = [v] ∧ DV z B H v d ∧ isFrac d = false ∧ ∀ H', Same H H' → Q (.bl true) H'
theorem G__law_is_refused (T : Txt K mg) : FnOk P w K mg base CX0 5 T.a__law_is_refused T.d__law_is_refused
    ["_law_value"] sp_refd := by
  refine T.f__law_is_refused.ok sc__law_is_refused (fun vs H Q E h => ?_) (fun cdv A outer s H vs Q E hr h => ?_)
  · obtain ⟨v, d, z, B, rfl, _⟩ := h
    rfl
  · obtain ⟨v, d, z, B, rfl, hd, hf, q⟩ := h
    refine ⟨_, (pss_cons (ps_try_only rfl rfl ⟨rfl, by decide, .inl T.h_InvalidFractionError⟩ takes0
    (fun W pn xe tk _ => (pss_one (ps_expr (pe_callS (G_format_fraction T) (hr.mono (by omega)) rfl T.g_format_fraction T.f_format_fraction.kp T.b_format_fraction (fun σ => passAt tk σ) (pa_cons (pv 0) pa_nil)))))
    (fun a oe cls d pn _ _ => (pss_one (ps_ret pe_bl))))
    (pss_one (ps_ret pe_bl))), ?_⟩
    exact ⟨_, rfl, v, d, z, B, rfl, hd, fun _ H' s1 => ⟨true, T.m_InvalidFractionError, fun _ a ha => q H' s1, (fun z => nomatch z)⟩, fun h => absurd h (by rw [hf]; exact fun z => nomatch z)⟩

end
end Lw
namespace Lw
open PySem PySem.Spec PyProof.Rows L2 Wr
section
variable {P : Program} {w : World} {K : PySem.W.Frag} {mg : Str → Option Value} {base : Heap}
theorem sql_same {K : PySem.W.Frag} {H H' : Hp} {a : Addr} {xs : List V} (h : SqL K H a xs) (s : Same H H') : SqL K H' a xs := by
  rcases h with (h | ⟨o, h⟩) | h
  · exact .inl (.inl (s _ _ h))
  · exact .inl (.inr ⟨o, s _ _ h⟩)
  · exact .inr h
theorem noFrac1 {i j : Int} (h : j ≤ 0) : isFrac (prD (i, j)) = false := by
  show (decide (1 ≤ j) && decide (Int.gcd i j = 1)) = false
  rw [decide_eq_false (by omega), Bool.false_and]
theorem noFrac2 (i j : Int) : isFrac (prD (2 * i, 2 + 2 * j)) = false := by
  show (decide (1 ≤ 2 + 2 * j) && decide (Int.gcd (2 * i) (2 + 2 * j) = 1)) = false
  rw [decide_eq_false (p := Int.gcd (2 * i) (2 + 2 * j) = 1), Bool.and_false]
  intro h
  have d : (2 : Int) ∣ ((Int.gcd (2 * i) (2 + 2 * j) : Nat) : Int) := Int.dvd_coe_gcd ⟨i, rfl⟩ ⟨1 + j, by omega⟩
  rw [h] at d
  omega
theorem G_law (T : Txt K mg) : FnG P w K mg base CX0 8 T.a_law T.d_law ["_law_script"] (sp_law K) := by
  refine okG0 T.f_law sc_law (fun vs H Q E h => ?_) (fun cdv A outer s H vs Q E hg hr h => ?_)
  · obtain ⟨a, ns, rfl, _⟩ := h
    rfl
  · obtain ⟨a, ns, rfl, hS0, hl, q⟩ := h
    refine ⟨_, (pss_cons (ps_set (i := 1) sc_law.nd rfl (.inl rfl) (pe_op op_sub (pe_op op_pow pe_int pe_int) pe_int))
    (pss_cons (ps_set (i := 2) sc_law.nd rfl (.inl rfl) (pe_op op_sub (pe_op op_mod (pe_call (G__law_cell T) (hr.mono (by omega)) (by rfl) T.g__law_cell T.f__law_cell.kp T.b__law_cell .nil pass0 (pa_cons (pv 0) (pa_cons pe_int pa_nil))) (pe_op op_add (pe_op op_mul pe_int (pv 1)) pe_int)) (pv 1)))
    (pss_cons (ps_set (i := 3) sc_law.nd rfl (.inl rfl) (pe_op op_add pe_int (pe_op op_mod (pe_call (G__law_cell T) (hr.mono (by omega)) (by rfl) T.g__law_cell T.f__law_cell.kp T.b__law_cell .nil pass0 (pa_cons (pv 0) (pa_cons pe_int pa_nil))) (pv 1))))
    (pss_mid (ps_if (pt_cmpR op_eq (pe_op op_mod (pe_call (G__law_cell T) (hr.mono (by omega)) (by rfl) T.g__law_cell T.f__law_cell.kp T.b__law_cell .nil pass0 (pa_cons (pv 0) (pa_cons pe_int pa_nil))) pe_int) pe_int (nomark _)) (pss_cons (ps_set (i := 2) sc_law.nd rfl (.inl rfl) (pe_op op_sub (pe_op op_mod (pe_call (G__law_cell T) (hr.mono (by omega)) (by rfl) T.g__law_cell T.f__law_cell.kp T.b__law_cell .nil pass0 (pa_cons (pv 0) (pa_cons pe_int pa_nil))) pe_int) pe_int))
    (pss_one (ps_set (i := 3) sc_law.nd rfl (.inl rfl) (pe_op op_add pe_int (pe_op op_mod (pe_call (G__law_cell T) (hr.mono (by omega)) (by rfl) T.g__law_cell T.f__law_cell.kp T.b__law_cell .nil pass0 (pa_cons (pv 0) (pa_cons pe_int pa_nil))) pe_int))))) pss_nil)
    (pss_cons (ps_set (i := 4) sc_law.nd rfl (.inl rfl) (pe_call (G__law_fraction T) (hr.mono (by omega)) (by rfl) T.g__law_fraction T.f__law_fraction.kp T.b__law_fraction .nil pass0 (pa_cons (pv 2) (pa_cons (pv 3) pa_nil))))
    (pss_cons (ps_set (i := 5) sc_law.nd rfl (.inl rfl) (pe_call (G__law_digits T) (hr.mono (by omega)) (by rfl) T.g__law_digits T.f__law_digits.kp T.b__law_digits .nil pass0 (pa_cons (pe_ix (ix_tupK (K := K) rfl) (pv 4) pe_int (fun _ _ => rfl)) pa_nil)))
    (pss_mid (ps_if (pt_cmpR op_ne (pe_ix (ix_tupK (K := K) rfl) (pv 4) pe_int (fun _ _ => rfl)) pe_int (nomark _)) (pss_one (ps_set (i := 5) sc_law.nd rfl (.inl rfl) (pe_op op_add_str (pe_op op_add_str (pv 5) pe_str) (pe_call (G__law_digits T) (hr.mono (by omega)) (by rfl) T.g__law_digits T.f__law_digits.kp T.b__law_digits .nil pass0 (pa_cons (pe_ix (ix_tupK (K := K) rfl) (pv 4) pe_int (fun _ _ => rfl)) pa_nil))))) pss_nil)
    (pss_cons (ps_set (i := 6) sc_law.nd rfl (.inl rfl) (pe_call (FnOk_calm (G_parse_fraction T)) (hr.mono (by omega)) (by rfl) T.g_parse_fraction T.f_parse_fraction.kp T.b_parse_fraction .nil pass0 (pa_cons (pv 5) pa_nil)))
    (pss_cons (ps_if (PW.pt (pw_or (pt_not (pt_val (pe_call (G__law_is_same T 1) (hr.mono (by omega)) (by rfl) T.g__law_is_same T.f__law_is_same.kp T.b__law_is_same .nil pass0 (pa_cons (pv 6) (pa_cons (pv 4) pa_nil))))) (pw_or1 (pt_not (pt_val (pe_call (G__law_is_same T 0) (hr.mono (by omega)) (by rfl) T.g__law_is_same T.f__law_is_same.kp T.b__law_is_same .nil pass0 (pa_cons (pe_call (FnOk_calm (G_format_fraction T)) (hr.mono (by omega)) (by rfl) T.g_format_fraction T.f_format_fraction.kp T.b_format_fraction .nil pass0 (pa_cons (pv 6) pa_nil)) (pa_cons (pv 5) pa_nil)))))))) (pss_one (ps_ret pe_bl)) pss_nil)
    (pss_cons (ps_set (i := 7) sc_law.nd rfl (.inl rfl) (pe_lstS (pa_cons (pe_lit 8 _ _ rfl) (pa_cons (pe_lit 8 _ _ rfl) (pa_cons (pe_lit 8 _ _ rfl) (pa_cons pe_non (pa_cons pe_int (pa_cons pe_bl (pa_cons pe_str (pa_cons (pe_lit 8 _ _ rfl) (pa_cons (pe_lit 8 _ _ rfl) (pa_cons (pe_lit 8 _ _ rfl) (pa_cons (pe_lit 8 _ _ rfl) (pa_cons (pe_lit 8 _ _ rfl) (pa_cons (pe_callTy call_listS (by rfl) T.z_list (by decide +kernel) (pa_cons (pv 4) pa_nil)) pa_nil)))))))))))))))
    (pss_cons (ps_for PassesOwn.never rfl (pi_list (pv 7)) (pg_name (i := 8) sc_law.nd rfl (.inl rfl))
    (pss_one (ps_if (pt_not (pt_val (pe_call (G__law_is_refused T) (hr.mono (by omega)) (by rfl) T.g__law_is_refused T.f__law_is_refused.kp T.b__law_is_refused .nil pass0 (pa_cons (pv 8) pa_nil)))) (pss_one (ps_ret pe_bl)) pss_nil)))
    (pss_cons (ps_set (i := 9) sc_law.nd rfl (.inl rfl) (pe_tupS (pa_cons (pe_op op_mod (pe_ix (ix_tupK (K := K) rfl) (pv 4) pe_int (fun _ _ => rfl)) pe_int) (pa_cons (pe_un un_neg (pe_op op_mod (pe_op op_fdiv (pe_call (G__law_cell T) (hr.mono (by omega)) (by rfl) T.g__law_cell T.f__law_cell.kp T.b__law_cell .nil pass0 (pa_cons (pv 0) (pa_cons pe_int pa_nil))) pe_int) pe_int)) pa_nil))))
    (pss_mid (ps_if (pt_cmpR op_eq (pe_op op_mod (pe_call (G__law_cell T) (hr.mono (by omega)) (by rfl) T.g__law_cell T.f__law_cell.kp T.b__law_cell .nil pass0 (pa_cons (pv 0) (pa_cons pe_int pa_nil))) pe_int) pe_int (nomark _)) (pss_one (ps_set (i := 9) sc_law.nd rfl (.inl rfl) (pe_tupS (pa_cons (pe_op op_mul pe_int (pe_op op_mod (pe_ix (ix_tupK (K := K) rfl) (pv 4) pe_int (fun _ _ => rfl)) pe_int)) (pa_cons (pe_op op_add pe_int (pe_op op_mul pe_int (pe_op op_mod (pe_ix (ix_tupK (K := K) rfl) (pv 4) pe_int (fun _ _ => rfl)) pe_int))) pa_nil))))) pss_nil)
    (pss_cons (L2N.ps_try_as (i := 10) rfl rfl sc_law.nd rfl rfl ⟨rfl, by decide, .inl T.h_InvalidFractionError⟩ takesN0
    (fun W pn xe tk _ => (pss_one (ps_expr (pe_callS (GN_format_fraction T) (hr.mono (by omega)) rfl T.g_format_fraction T.f_format_fraction.kp T.b_format_fraction (fun σ => L2N.passAt tk σ) (pa_cons (pv 9) pa_nil)))))
    (fun a oe cls d pn hz hf => (pss_one (ps_ret (pe_and (pe_not (pe_callB (call_isErr rfl hz.zc hf) (by rfl) T.z_isinstance (by decide +kernel) (pa_cons (pv 10) (pa_cons (pe_glob (v := .ref T.e_InvalidTextError) (by rfl) T.h_InvalidTextError rfl) pa_nil)))) (pe_one (L2H.pe_callH (E := fun _ => E0) (GH__law_is_same T) ((roomH_mk hr _).mono (by omega)) (hot_suite hz hf) (by rfl) T.g__law_is_same T.f__law_is_same.kp T.b__law_is_same (fun σ => passAt0) (pa_cons (L2H.pe_callH (E := fun _ => E0) (GH_format_fraction T) ((roomH_mk hr _).mono (by omega)) (hot_suite hz hf) (by rfl) T.g_format_fraction T.f_format_fraction.kp T.b_format_fraction (fun σ => passAt0) (pa_cons (pv 6) pa_nil)) (pa_cons (pv 5) pa_nil)))))))))
    (pss_one (ps_ret pe_bl)))))))))))))))), ?_⟩
    have hM : (10 : Int) ^ (13 : Int).toNat - 1 = 9999999999999 := by decide
    refine ⟨_, _, rfl, rfl, ⟨by decide, by decide, by decide⟩, _, _, rfl, rfl, ?_⟩
    refine ⟨_, rfl, a, ns, _, rfl, hS0, by omega, fun c0 => ?_⟩
    refine ⟨_, rfl, _, _, rfl, rfl, .inl ⟨by decide, by decide⟩, _, _, rfl, rfl, ?_⟩
    have p1 : (0 : Int) < 2 * (10 ^ (13 : Int).toNat - 1) + 1 := by rw [hM]; decide
    have p2 : (0 : Int) < 10 ^ (13 : Int).toNat - 1 := by rw [hM]; decide
    refine ⟨_, _, rfl, rfl, p1, _, rfl, _, _, rfl, rfl, ?_⟩
    refine ⟨_, rfl, a, ns, _, rfl, hS0, by omega, fun c1 => ?_⟩
    refine ⟨_, rfl, _, _, rfl, rfl, p2, _, _, rfl, rfl, ?_⟩
    refine ⟨fun τ G => ∃ (M : V) (t b : Int), τ = [some (.ref a), some M, some (.int t), some (.int b), none, none, none, none, none, none, none] ∧ G = H ∧ 0 < b ∧ t.natAbs ≤ 10 ^ 13 ∧ b.natAbs ≤ 10 ^ 13, ?_, fun τ G h => ?_⟩
    · refine ⟨_, rfl, a, ns, _, rfl, hS0, by omega, fun c2 => ?_⟩
      refine ⟨_, _, rfl, rfl, (by decide : (0 : Int) < 2), rfl, _, rfl, ite2 (fun e => ?_) fun e => ?_⟩
      · refine ⟨_, rfl, a, ns, _, rfl, hS0, by omega, fun c3 => ?_⟩
        refine ⟨_, _, rfl, rfl, (by decide : (0 : Int) < 41), _, _, rfl, rfl, ?_⟩
        refine ⟨_, rfl, a, ns, _, rfl, hS0, by omega, fun c4 => ?_⟩
        refine ⟨_, _, rfl, rfl, (by decide : (0 : Int) < 12), _, _, rfl, rfl, ?_⟩
        exact ⟨_, _, _, rfl, rfl, by omega, by omega, by omega⟩
      · refine ⟨_, _, _, rfl, rfl, ?_, ?_, ?_⟩
        · have := Int.emod_nonneg c1 (show (10 : Int) ^ (13 : Int).toNat - 1 ≠ 0 by omega)
          omega
        · have h1 := Int.emod_nonneg c0 (show 2 * ((10 : Int) ^ (13 : Int).toNat - 1) + 1 ≠ 0 by omega)
          have h2 := Int.emod_lt_of_pos c0 p1
          rw [hM] at h1 h2 ⊢
          omega
        · have h1 := Int.emod_nonneg c1 (show (10 : Int) ^ (13 : Int).toNat - 1 ≠ 0 by omega)
          have h2 := Int.emod_lt_of_pos c1 p2
          rw [hM] at h1 h2 ⊢
          omega
    obtain ⟨M, t, b, rfl, rfl, b0, tb, bb⟩ := h
    refine ⟨_, rfl, _, rfl, t, b, rfl, b0, Nat.lt_of_le_of_lt bb (by exact Nat.lt_of_lt_of_le (show 10 ^ 13 < 2 ^ 50 by decide) (Nat.pow_le_pow_right (by decide) (by decide))), fun V1 G1 s1 n1 e1 => ?_⟩
    have hf := lowP_frac (t := t) b0
    have hle := lowP_le (t := t) b0
    generalize lowP t b = f at hf hle e1
    obtain ⟨vt, vb⟩ := f
    have ht : vt.natAbs < 10 ^ 20 := Nat.lt_of_le_of_lt (Nat.le_trans hle.1 tb) (by decide)
    have hb : vb.natAbs < 10 ^ 20 := Nat.lt_of_le_of_lt (Nat.le_trans hle.2 bb) (by decide)
    have hb1 : 1 ≤ vb := by
      have h2 : (decide (1 ≤ vb) && decide (Int.gcd vt vb = 1)) = true := hf
      rw [Bool.and_eq_true, decide_eq_true_eq] at h2
      exact h2.1
    refine ⟨_, rfl, V1, _, 0, _, rfl, rfl, .inl (.inl e1), at_int (by decide) rfl, vt, rfl, ht, ?_⟩
    replace e1 : G1 V1 = some (.tup [V.int vt, V.int vb]) := e1
    have hD1 : ∀ {G2 : Hp} {p : Addr}, G2 p = some (.tup [V.int vt, V.int vb]) → DV False No G2 (.ref p) (prD (vt, vb)) := fun e => .tup (fun h => h) e (.cons (.int _) (.cons (.int _) .nil))
    have tz : TL.numL vb.natAbs = textZ vb := numL_textZ (by omega)
    have lz : ∀ i : Int, i.natAbs < 10 ^ 20 → (textZ i).length ≤ 21 := fun i h => by
      have := numL_len20 h
      unfold textZ
      split
      · rw [List.length_cons]; omega
      · omega
    have lt := lz vt ht
    have lb := lz vb hb
    refine ⟨fun τ G => τ = [some (.ref a), some M, some (.int t), some (.int b), some (.ref V1), some (.str (SX.S (fracL (vt, vb)))), none, none, none, none, none] ∧ G = G1, ?_, fun τ G h => ?_⟩
    · refine ⟨_, rfl, V1, _, 1, _, rfl, rfl, .inl (.inl e1), at_int (by decide) rfl, rfl, _, rfl, ite2 (fun e => ?_) fun e => ?_⟩
      · have n : vb ≠ 1 := nb_int e
        refine ⟨_, rfl, _, _, rfl, rfl, ?_, ?_⟩
        · show (SX.S _).length + 1 ≤ _
          rw [SX.S_len]
          exact small1000' (by omega)
        refine ⟨_, rfl, V1, _, 1, _, rfl, rfl, .inl (.inl e1), at_int (by decide) rfl, vb, rfl, hb, ?_⟩
        have c1 : SX.S (textZ vt) ++ (Str.ofString "/") = SX.S (textZ vt ++ [47]) := SX.S_cat _ [47]
        refine ⟨_, _, rfl, rfl, ?_, ?_, rfl⟩
        · rw [c1, SX.S_len, SX.S_len, List.length_append]
          exact small1000' (by show (textZ vt).length + 1 + _ ≤ 1000; omega)
        · rw [c1, SX.S_cat]
          rw [show fracL (vt, vb) = textZ vt ++ [47] ++ textZ vb from by
            unfold fracL
            rw [if_neg n, List.append_assoc, ← tz]
            rfl]
          rfl
      · have n : vb = 1 := nb_int' e
        refine ⟨?_, rfl⟩
        rw [show fracL (vt, vb) = textZ vt from if_pos n]
        rfl
    obtain ⟨rfl, rfl⟩ := h
    refine ⟨_, rfl, (vt, vb), rfl, hf, ht, hb, fun V2 G2 s2 n2 e2 => ?_⟩
    replace e2 : G2 V2 = some (.tup [V.int vt, V.int vb]) := e2
    refine ⟨_, rfl, _, rfl, .ref V2, .ref V1, prD (vt, vb), False, False, No, No, rfl, hD1 e2, hD1 (s2 _ _ e1), rfl, fun G3 s3 => ⟨_, rfl, iteF ?_⟩⟩
    refine ⟨_, rfl, .ref V2, prD (vt, vb), False, No, rfl, hD1 (s3 _ _ e2), (fun e => absurd hf (by rw [e]; exact fun z => nomatch z)), fun _ => ⟨(vt, vb), rfl, ht, hb, fun G4 s4 => ?_⟩⟩
    refine ⟨_, rfl, .str (SX.S (fracL (vt, vb))), .str (SX.S (fracL (vt, vb))), .str (SX.S (fracL (vt, vb))), False, False, No, No, rfl, .str _, .str _, rfl, fun G5 s5 => ⟨_, rfl, iteF ?_⟩⟩
    have s25 : Same G2 G5 := s3.trans (s4.trans s5)
    -- the others
    intro w1 J1 t1 d1 w2 J2 t2 d2 w3 J3 t3 d3 w8 J8 t8 d8 w9 J9 t9 d9 w10 J10 t10 d10 w11 J11 t11 d11 w12 J12 t12 d12
    have s1L : Same G J12 := s2.trans (s25.trans (t1.trans (t2.trans (t3.trans (t8.trans (t9.trans (t10.trans (t11.trans t12))))))))
    have s2L : Same G2 J12 := s25.trans (t1.trans (t2.trans (t3.trans (t8.trans (t9.trans (t10.trans (t11.trans t12)))))))
    refine ⟨_, rfl, V1, _, rfl, .inl (.inl (s1L _ _ e1)), fun L nL sL => ?_⟩
    have tL : Same J12 (upd J12 L (.lst [V.int vt, V.int vb])) := Same.new nL
    have eL : (upd J12 L (.lst [V.int vt, V.int vb])) L = some (.lst [V.int vt, V.int vb]) := upd_same
    generalize upd J12 L (.lst [V.int vt, V.int vb]) = JL at tL eL
    refine ⟨(by show 13 ≤ sizeLine; decide), fun O nO sO => ?_⟩
    have tO : Same JL (upd JL O (.lst [w1, w2, w3, .non, .int 5, .bl true, .str (Str.ofString "1/2"), w8, w9, w10, w11, w12, .ref L])) := Same.new nO
    have eO : (upd JL O (.lst [w1, w2, w3, .non, .int 5, .bl true, .str (Str.ofString "1/2"), w8, w9, w10, w11, w12, .ref L])) O = some (.lst [w1, w2, w3, .non, .int 5, .bl true, .str (Str.ofString "1/2"), w8, w9, w10, w11, w12, .ref L]) := upd_same
    generalize upd JL O (.lst [w1, w2, w3, .non, .int 5, .bl true, .str (Str.ofString "1/2"), w8, w9, w10, w11, w12, .ref L]) = JO at tO eO
    have u12 := tL.trans tO
    have u11 := t12.trans u12
    have u10 := t11.trans u11
    have u9 := t10.trans u10
    have u8 := t9.trans u9
    have u3 := t8.trans u8
    have u2 := t3.trans u3
    have u1 := t2.trans u2
    have all : ∀ x ∈ [w1, w2, w3, V.non, .int 5, .bl true, .str (Str.ofString "1/2"), w8, w9, w10, w11, w12, .ref L], ∃ (d : PyData) (z : Prop) (B : Addr → Prop), DV z B JO x d ∧ isFrac d = false := by
      intro x hm
      simp only [List.mem_cons, List.not_mem_nil, or_false] at hm
      rcases hm with rfl | rfl | rfl | rfl | rfl | rfl | rfl | rfl | rfl | rfl | rfl | rfl | rfl
      · exact ⟨_, _, _, d1.keep (Keep.same u1), rfl⟩
      · exact ⟨_, _, _, d2.keep (Keep.same u2), rfl⟩
      · exact ⟨_, _, _, d3.keep (Keep.same u3), rfl⟩
      · exact ⟨_, False, No, .non, rfl⟩
      · exact ⟨_, False, No, .int _, rfl⟩
      · exact ⟨_, False, No, .bl _, rfl⟩
      · exact ⟨_, False, No, .str _, rfl⟩
      · exact ⟨_, _, _, d8.keep (Keep.same u8), rfl⟩
      · exact ⟨_, _, _, d9.keep (Keep.same u9), rfl⟩
      · exact ⟨_, _, _, d10.keep (Keep.same u10), rfl⟩
      · exact ⟨_, _, _, d11.keep (Keep.same u11), rfl⟩
      · exact ⟨_, _, _, d12.keep (Keep.same u12), rfl⟩
      · exact ⟨.list [.int vt, .int vb], False, No, .lst (fun h => h) (fun z => z.elim) (tO _ _ eL) (.cons (.int _) (.cons (.int _) .nil)), rfl⟩
    refine ⟨_, rfl, O, rfl, ⟨_, .inl (.inl eO)⟩, ?_⟩
    refine for_list (K := K) (a := O) (xs := [w1, w2, w3, V.non, .int 5, .bl true, .str (Str.ofString "1/2"), w8, w9, w10, w11, w12, .ref L]) (fun i σ G7 => ∃ y8, σ = [some (.ref a), some M, some (.int t), some (.int b), some (.ref V1), some (.str (SX.S (fracL (vt, vb)))), some (.ref V2), some (.ref O), y8, none, none] ∧ Same JO G7)
      ⟨_, rfl, Same.refl _⟩ (fun i σ G7 _ h => ?_) (fun i x σ G7 hx h => ?_) (fun σ G7 h => ?_)
    · obtain ⟨_, _, sG⟩ := h
      exact .inl (.inl (sG _ _ eO))
    · obtain ⟨y8, rfl, sG⟩ := h
      obtain ⟨d, z, B, hd, hn⟩ := all x (List.mem_of_getElem? hx)
      exact ⟨_, rfl, x, d, z, B, rfl, hd.keep (Keep.same sG), hn, fun G' s' => ⟨_, rfl, iteF ⟨_, rfl, sG.trans s'⟩⟩⟩
    obtain ⟨y8, rfl, sG⟩ := h
    have sV1 : Same G G7 := s1L.trans (u12.trans sG)
    have sV2 : Same G2 G7 := s2L.trans (u12.trans sG)
    replace e1 := sV1 _ _ e1
    replace e2 := sV2 _ _ e2
    have hS7 : SqL K G7 a (ns.map V.int) := sql_same hS0 (s1.trans sV1)
    -- what is no fraction
    refine ⟨_, rfl, V1, _, 0, _, rfl, rfl, .inl (.inl e1), at_int (by decide) rfl, _, _, rfl, rfl, (by decide : (0 : Int) < 1000), ?_⟩
    refine ⟨_, rfl, a, ns, _, rfl, hS7, by omega, fun c5 => ?_⟩
    refine ⟨_, _, rfl, rfl, ⟨by decide, by decide⟩, _, _, rfl, rfl, (by decide : (0 : Int) < 5), _, rfl, ?_⟩
    refine ⟨(by show 2 ≤ sizeLine; decide), fun W1 nW1 _ => ?_⟩
    have tW : Same G7 (upd G7 W1 (.tup [.int (vt % 1000), .int (-(c5 / 2 % 5))])) := Same.new nW1
    have eW : (upd G7 W1 (.tup [.int (vt % 1000), .int (-(c5 / 2 % 5))])) W1 = some (.tup [.int (vt % 1000), .int (-(c5 / 2 % 5))]) := upd_same
    have hS8 := sql_same hS7 tW
    have f1 := tW _ _ e1
    refine ⟨fun τ G8 => ∃ (i j : Int) (W : Addr), τ = [some (.ref a), some M, some (.int t), some (.int b), some (.ref V1), some (.str (SX.S (fracL (vt, vb)))), some (.ref V2), some (.ref O), y8, some (.ref W), none] ∧
      G8 W = some (.tup [.int i, .int j]) ∧ isFrac (prD (i, j)) = false ∧ Same G7 G8, ?_, fun τ G8 h => ?_⟩
    · refine ⟨_, rfl, a, ns, _, rfl, hS8, by omega, fun c6 => ?_⟩
      refine ⟨_, _, rfl, rfl, (by decide : (0 : Int) < 2), rfl, _, rfl, ite2 (fun e => ?_) fun e => ?_⟩
      · refine ⟨_, rfl, V1, _, 0, _, rfl, rfl, .inl (.inl f1), at_int (by decide) rfl, _, _, rfl, rfl, (by decide : (0 : Int) < 400), ?_⟩
        refine ⟨_, _, rfl, rfl, .inl ⟨by decide, by decide⟩, ?_⟩
        refine ⟨_, rfl, V1, _, 1, _, rfl, rfl, .inl (.inl f1), at_int (by decide) rfl, _, _, rfl, rfl, (by decide : (0 : Int) < 400), ?_⟩
        refine ⟨_, _, rfl, rfl, .inl ⟨by decide, by decide⟩, _, _, rfl, rfl, ?_⟩
        refine ⟨(by show 2 ≤ sizeLine; decide), fun W2 nW2 _ => ?_⟩
        exact ⟨2 * (vt % 400), 2 + 2 * (vb % 400), W2, rfl, upd_same, noFrac2 _ _, tW.trans (Same.new nW2)⟩
      · refine ⟨_, _, W1, rfl, eW, noFrac1 ?_, tW⟩
        have := Int.emod_nonneg (c5 / 2) (show (5 : Int) ≠ 0 by decide)
        omega
    obtain ⟨i, j, W, rfl, eW8, nf, tW8⟩ := h
    have hW : DV False No G8 (.ref W) (prD (i, j)) := .tup (fun h => h) eW8 (.cons (.int _) (.cons (.int _) .nil))
    refine ⟨_, rfl, .ref W, prD (i, j), False, No, rfl, hW, fun _ G9 s9 => ⟨true, T.m_InvalidFractionError, fun _ ea hea => ?_, (fun z => nomatch z)⟩, fun h => absurd h (by rw [nf]; exact fun z => nomatch z)⟩
    have e29 := s9 _ _ (tW8 _ _ e2)
    refine ⟨_, rfl, T.e_InvalidFractionError, rfl, rfl, T.q_InvalidFractionError, V.ref T.e_InvalidTextError, .ref T.e_InvalidTextError, false, rfl, (fun u r => r), T.o_InvalidFractionError_InvalidTextError, _, rfl, _, rfl, iteT ?_⟩
    refine ⟨_, rfl, (vt, vb), .ref V2, False, No, rfl, hD1 e29, hf, ht, hb, fun GA sA => ?_⟩
    exact ⟨_, rfl, SX.S (fracL (vt, vb)), rfl, q GA⟩

end
end Lw
namespace Lw
open PySem PySem.Spec PyProof.Rows L2 Wr
theorem all_mk {l : PySem.W.OpenLaw} {w : World} {K : PySem.W.Frag} {h : Heap}
    {mg : Str → Option Value} {fa f0 f1 f2 f3 f4 f5 f6 f7 f8 f9 f10 f11 f12 f13 : Addr} (X : K.In h) (G : h.Ns mainGlobals mg)
    (hfa : mg "law" = some (.ref fa))
    {od0 an0 : Option Addr} {sl0 : Array (Option Value)} {oc0 kV0 dc0 pm0 cd0 ct0 : Value}
    (a0 : PySem.W.nsIn K mainGlobals "is_whole" = some (some (.ref f0)))
    (l0 : K.lookup f0 = some ⟨oc0, od0, .func (PySem.W.fnOf "is_whole" "is_whole" (defArgs s_is_whole) (defBody s_is_whole) (defScope s_is_whole) .none kV0 dc0 pm0 an0 cd0 ct0), sl0⟩)
    (c0 : PySem.W.codeIn K cd0 "is_whole" = true) (k0 : PySem.W.keepIn K (.ref f0) = true)
    {od1 an1 : Option Addr} {sl1 : Array (Option Value)} {oc1 kV1 dc1 pm1 cd1 ct1 : Value}
    (a1 : PySem.W.nsIn K mainGlobals "common_divisor" = some (some (.ref f1)))
    (l1 : K.lookup f1 = some ⟨oc1, od1, .func (PySem.W.fnOf "common_divisor" "common_divisor" (defArgs s_common_divisor) (defBody s_common_divisor) (defScope s_common_divisor) .none kV1 dc1 pm1 an1 cd1 ct1), sl1⟩)
    (c1 : PySem.W.codeIn K cd1 "common_divisor" = true) (k1 : PySem.W.keepIn K (.ref f1) = true)
    {od2 an2 : Option Addr} {sl2 : Array (Option Value)} {oc2 kV2 dc2 pm2 cd2 ct2 : Value}
    (a2 : PySem.W.nsIn K mainGlobals "is_valid_fraction" = some (some (.ref f2)))
    (l2 : K.lookup f2 = some ⟨oc2, od2, .func (PySem.W.fnOf "is_valid_fraction" "is_valid_fraction" (defArgs s_is_valid_fraction) (defBody s_is_valid_fraction) (defScope s_is_valid_fraction) .none kV2 dc2 pm2 an2 cd2 ct2), sl2⟩)
    (c2 : PySem.W.codeIn K cd2 "is_valid_fraction" = true) (k2 : PySem.W.keepIn K (.ref f2) = true)
    {od3 an3 : Option Addr} {sl3 : Array (Option Value)} {oc3 kV3 dc3 pm3 cd3 ct3 : Value}
    (a3 : PySem.W.nsIn K mainGlobals "digits_of" = some (some (.ref f3)))
    (l3 : K.lookup f3 = some ⟨oc3, od3, .func (PySem.W.fnOf "digits_of" "digits_of" (defArgs s_digits_of) (defBody s_digits_of) (defScope s_digits_of) .none kV3 dc3 pm3 an3 cd3 ct3), sl3⟩)
    (c3 : PySem.W.codeIn K cd3 "digits_of" = true) (k3 : PySem.W.keepIn K (.ref f3) = true)
    {od4 an4 : Option Addr} {sl4 : Array (Option Value)} {oc4 kV4 dc4 pm4 cd4 ct4 : Value}
    (a4 : PySem.W.nsIn K mainGlobals "number_of" = some (some (.ref f4)))
    (l4 : K.lookup f4 = some ⟨oc4, od4, .func (PySem.W.fnOf "number_of" "number_of" (defArgs s_number_of) (defBody s_number_of) (defScope s_number_of) .none kV4 dc4 pm4 an4 cd4 ct4), sl4⟩)
    (c4 : PySem.W.codeIn K cd4 "number_of" = true) (k4 : PySem.W.keepIn K (.ref f4) = true)
    {od5 an5 : Option Addr} {sl5 : Array (Option Value)} {oc5 kV5 dc5 pm5 cd5 ct5 : Value}
    (a5 : PySem.W.nsIn K mainGlobals "format_fraction" = some (some (.ref f5)))
    (l5 : K.lookup f5 = some ⟨oc5, od5, .func (PySem.W.fnOf "format_fraction" "format_fraction" (defArgs s_format_fraction) (defBody s_format_fraction) (defScope s_format_fraction) .none kV5 dc5 pm5 an5 cd5 ct5), sl5⟩)
    (c5 : PySem.W.codeIn K cd5 "format_fraction" = true) (k5 : PySem.W.keepIn K (.ref f5) = true)
    {od6 an6 : Option Addr} {sl6 : Array (Option Value)} {oc6 kV6 dc6 pm6 cd6 ct6 : Value}
    (a6 : PySem.W.nsIn K mainGlobals "integer_of" = some (some (.ref f6)))
    (l6 : K.lookup f6 = some ⟨oc6, od6, .func (PySem.W.fnOf "integer_of" "integer_of" (defArgs s_integer_of) (defBody s_integer_of) (defScope s_integer_of) .none kV6 dc6 pm6 an6 cd6 ct6), sl6⟩)
    (c6 : PySem.W.codeIn K cd6 "integer_of" = true) (k6 : PySem.W.keepIn K (.ref f6) = true)
    {od7 an7 : Option Addr} {sl7 : Array (Option Value)} {oc7 kV7 dc7 pm7 cd7 ct7 : Value}
    (a7 : PySem.W.nsIn K mainGlobals "parse_fraction" = some (some (.ref f7)))
    (l7 : K.lookup f7 = some ⟨oc7, od7, .func (PySem.W.fnOf "parse_fraction" "parse_fraction" (defArgs s_parse_fraction) (defBody s_parse_fraction) (defScope s_parse_fraction) .none kV7 dc7 pm7 an7 cd7 ct7), sl7⟩)
    (c7 : PySem.W.codeIn K cd7 "parse_fraction" = true) (k7 : PySem.W.keepIn K (.ref f7) = true)
    {od8 an8 : Option Addr} {sl8 : Array (Option Value)} {oc8 kV8 dc8 pm8 cd8 ct8 : Value}
    (a8 : PySem.W.nsIn K mainGlobals "_law_cell" = some (some (.ref f8)))
    (l8 : K.lookup f8 = some ⟨oc8, od8, .func (PySem.W.fnOf "_law_cell" "_law_cell" (defArgs s__law_cell) (defBody s__law_cell) (defScope s__law_cell) .none kV8 dc8 pm8 an8 cd8 ct8), sl8⟩)
    (c8 : PySem.W.codeIn K cd8 "_law_cell" = true) (k8 : PySem.W.keepIn K (.ref f8) = true)
    {od9 an9 : Option Addr} {sl9 : Array (Option Value)} {oc9 kV9 dc9 pm9 cd9 ct9 : Value}
    (a9 : PySem.W.nsIn K mainGlobals "_law_fraction" = some (some (.ref f9)))
    (l9 : K.lookup f9 = some ⟨oc9, od9, .func (PySem.W.fnOf "_law_fraction" "_law_fraction" (defArgs s__law_fraction) (defBody s__law_fraction) (defScope s__law_fraction) .none kV9 dc9 pm9 an9 cd9 ct9), sl9⟩)
    (c9 : PySem.W.codeIn K cd9 "_law_fraction" = true) (k9 : PySem.W.keepIn K (.ref f9) = true)
    {od10 an10 : Option Addr} {sl10 : Array (Option Value)} {oc10 kV10 dc10 pm10 cd10 ct10 : Value}
    (a10 : PySem.W.nsIn K mainGlobals "_law_is_same" = some (some (.ref f10)))
    (l10 : K.lookup f10 = some ⟨oc10, od10, .func (PySem.W.fnOf "_law_is_same" "_law_is_same" (defArgs s__law_is_same) (defBody s__law_is_same) (defScope s__law_is_same) .none kV10 dc10 pm10 an10 cd10 ct10), sl10⟩)
    (c10 : PySem.W.codeIn K cd10 "_law_is_same" = true) (k10 : PySem.W.keepIn K (.ref f10) = true)
    {od11 an11 : Option Addr} {sl11 : Array (Option Value)} {oc11 kV11 dc11 pm11 cd11 ct11 : Value}
    (a11 : PySem.W.nsIn K mainGlobals "_law_digits" = some (some (.ref f11)))
    (l11 : K.lookup f11 = some ⟨oc11, od11, .func (PySem.W.fnOf "_law_digits" "_law_digits" (defArgs s__law_digits) (defBody s__law_digits) (defScope s__law_digits) .none kV11 dc11 pm11 an11 cd11 ct11), sl11⟩)
    (c11 : PySem.W.codeIn K cd11 "_law_digits" = true) (k11 : PySem.W.keepIn K (.ref f11) = true)
    {od12 an12 : Option Addr} {sl12 : Array (Option Value)} {oc12 kV12 dc12 pm12 cd12 ct12 : Value}
    (a12 : PySem.W.nsIn K mainGlobals "_law_is_refused" = some (some (.ref f12)))
    (l12 : K.lookup f12 = some ⟨oc12, od12, .func (PySem.W.fnOf "_law_is_refused" "_law_is_refused" (defArgs s__law_is_refused) (defBody s__law_is_refused) (defScope s__law_is_refused) .none kV12 dc12 pm12 an12 cd12 ct12), sl12⟩)
    (c12 : PySem.W.codeIn K cd12 "_law_is_refused" = true) (k12 : PySem.W.keepIn K (.ref f12) = true)
    {od13 an13 : Option Addr} {sl13 : Array (Option Value)} {oc13 kV13 dc13 pm13 cd13 ct13 : Value}
    (a13 : PySem.W.nsIn K mainGlobals "law" = some (some (.ref f13)))
    (l13 : K.lookup f13 = some ⟨oc13, od13, .func (PySem.W.fnOf "law" "law" (defArgs s_law) (defBody s_law) (defScope s_law) .none kV13 dc13 pm13 an13 cd13 ct13), sl13⟩)
    (c13 : PySem.W.codeIn K cd13 "law" = true) (k13 : PySem.W.keepIn K (.ref f13) = true)
    {e_InvalidFractionError : Addr} (q_InvalidFractionError : PySem.W.nsIn K mainGlobals "InvalidFractionError" = some (some (.ref e_InvalidFractionError)))
    (x_InvalidFractionError : PySem.W.excIn K e_InvalidFractionError [.type "ValueError", .type "Exception", .type "BaseException", .type "object"] "ValueError.__new__" = true) (k_InvalidFractionError : PySem.W.keepIn K (.ref e_InvalidFractionError) = true)
    (s_InvalidFractionError : PySem.W.subIn K (.ref e_InvalidFractionError) (.type "BaseException") = some true) (t_InvalidFractionError : PySem.W.typeIn K (.ref e_InvalidFractionError) = some (.type "type"))
    (i_InvalidFractionError : PySem.W.isClsIn K e_InvalidFractionError = true) (u_InvalidFractionError : PySem.W.subIn K (.ref e_InvalidFractionError) (.ref e_InvalidFractionError) = some true)
    {e_InvalidTextError : Addr} (q_InvalidTextError : PySem.W.nsIn K mainGlobals "InvalidTextError" = some (some (.ref e_InvalidTextError)))
    (x_InvalidTextError : PySem.W.excIn K e_InvalidTextError [.type "ValueError", .type "Exception", .type "BaseException", .type "object"] "ValueError.__new__" = true) (k_InvalidTextError : PySem.W.keepIn K (.ref e_InvalidTextError) = true)
    (s_InvalidTextError : PySem.W.subIn K (.ref e_InvalidTextError) (.type "BaseException") = some true) (t_InvalidTextError : PySem.W.typeIn K (.ref e_InvalidTextError) = some (.type "type"))
    (i_InvalidTextError : PySem.W.isClsIn K e_InvalidTextError = true) (u_InvalidTextError : PySem.W.subIn K (.ref e_InvalidTextError) (.ref e_InvalidTextError) = some true)
    (u_InvalidFractionError_InvalidTextError : PySem.W.subIn K (.ref e_InvalidFractionError) (.ref e_InvalidTextError) = some false)
    (u_InvalidTextError_InvalidFractionError : PySem.W.subIn K (.ref e_InvalidTextError) (.ref e_InvalidFractionError) = some false)
    (ga_InvalidFractionError : PySem.W.findIn K (.ref e_InvalidFractionError) "__getattribute__" = some (some (.builtin "BaseException.__getattribute__"))) (gk_InvalidFractionError : PySem.W.findIn K (.ref e_InvalidFractionError) "__getattr__" = some none)
    (hd_InvalidFractionError : PySem.W.hasDictIn K e_InvalidFractionError = true) (hc_InvalidFractionError : PySem.W.findIn K (.ref e_InvalidFractionError) "__class__" = some (some (.builtin "object.__class__")))
    (hn_InvalidFractionError : PySem.W.specialIn K (.builtin "object.__class__") "__get__" = some (some (.builtin "getset_descriptor.__get__"))) (ht_InvalidFractionError : PySem.W.takesIn K (.builtin "object.__class__") = some true) (hm_InvalidFractionError : PySem.W.mroIn K e_InvalidFractionError (.type "object") = some true)
    (z_isinstance : PySem.W.nsIn K mainGlobals "isinstance" = some none)
    (z_int : PySem.W.nsIn K mainGlobals "int" = some none)
    (z_bool : PySem.W.nsIn K mainGlobals "bool" = some none)
    (z_tuple : PySem.W.nsIn K mainGlobals "tuple" = some none)
    (z_len : PySem.W.nsIn K mainGlobals "len" = some none)
    (z_divmod : PySem.W.nsIn K mainGlobals "divmod" = some none)
    (z_str : PySem.W.nsIn K mainGlobals "str" = some none)
    (z_reversed : PySem.W.nsIn K mainGlobals "reversed" = some none)
    (z_range : PySem.W.nsIn K mainGlobals "range" = some none)
    (z_abs : PySem.W.nsIn K mainGlobals "abs" = some none)
    (z_all : PySem.W.nsIn K mainGlobals "all" = some none)
    (z_list : PySem.W.nsIn K mainGlobals "list" = some none)
    {u_BLOCK_DIGITS : Tok} (n_BLOCK_DIGITS : PySem.W.nsIn K mainGlobals "BLOCK_DIGITS" = some (some (.int 50 u_BLOCK_DIGITS)))
    {u_BLOCK : Tok} (n_BLOCK : PySem.W.nsIn K mainGlobals "BLOCK" = some (some (.int 100000000000000000000000000000000000000000000000000 u_BLOCK)))
    : ∃ fd : FuncData, (∀ (s : Shared) (v : Value), BindsTo s fd ⟨[v], []⟩ [("_law_script", v)]) ∧
      ∀ base : Heap, K.In base → base.Ns mainGlobals mg → FnG l.prog w K mg base CX0 8 fa fd ["_law_script"] (sp_law K) := by
  have e := hfa.symm.trans (PySem.W.mg_of X G a13)
  cases e
  have F0 := fun_mk (st := s_is_whole) l0 c0 k0
  have B0 := F0.binds (ps := ["value"]) fun _ _ _ _ _ _ us hl => match us, hl with | [_], _ => rfl
  have F1 := fun_mk (st := s_common_divisor) l1 c1 k1
  have B1 := F1.binds (ps := ["top", "bottom"]) fun _ _ _ _ _ _ us hl => match us, hl with | [_, _], _ => rfl
  have F2 := fun_mk (st := s_is_valid_fraction) l2 c2 k2
  have B2 := F2.binds (ps := ["value"]) fun _ _ _ _ _ _ us hl => match us, hl with | [_], _ => rfl
  have F3 := fun_mk (st := s_digits_of) l3 c3 k3
  have B3 := F3.binds (ps := ["number"]) fun _ _ _ _ _ _ us hl => match us, hl with | [_], _ => rfl
  have F4 := fun_mk (st := s_number_of) l4 c4 k4
  have B4 := F4.binds (ps := ["digits"]) fun _ _ _ _ _ _ us hl => match us, hl with | [_], _ => rfl
  have F5 := fun_mk (st := s_format_fraction) l5 c5 k5
  have B5 := F5.binds (ps := ["value"]) fun _ _ _ _ _ _ us hl => match us, hl with | [_], _ => rfl
  have F6 := fun_mk (st := s_integer_of) l6 c6 k6
  have B6 := F6.binds (ps := ["text"]) fun _ _ _ _ _ _ us hl => match us, hl with | [_], _ => rfl
  have F7 := fun_mk (st := s_parse_fraction) l7 c7 k7
  have B7 := F7.binds (ps := ["text"]) fun _ _ _ _ _ _ us hl => match us, hl with | [_], _ => rfl
  have F8 := fun_mk (st := s__law_cell) l8 c8 k8
  have B8 := F8.binds (ps := ["_law_script", "_law_k"]) fun _ _ _ _ _ _ us hl => match us, hl with | [_, _], _ => rfl
  have F9 := fun_mk (st := s__law_fraction) l9 c9 k9
  have B9 := F9.binds (ps := ["_law_top", "_law_bottom"]) fun _ _ _ _ _ _ us hl => match us, hl with | [_, _], _ => rfl
  have F10 := fun_mk (st := s__law_is_same) l10 c10 k10
  have B10 := F10.binds (ps := ["_law_actual", "_law_wanted"]) fun _ _ _ _ _ _ us hl => match us, hl with | [_, _], _ => rfl
  have F11 := fun_mk (st := s__law_digits) l11 c11 k11
  have B11 := F11.binds (ps := ["_law_number"]) fun _ _ _ _ _ _ us hl => match us, hl with | [_], _ => rfl
  have F12 := fun_mk (st := s__law_is_refused) l12 c12 k12
  have B12 := F12.binds (ps := ["_law_value"]) fun _ _ _ _ _ _ us hl => match us, hl with | [_], _ => rfl
  have F13 := fun_mk (st := s_law) l13 c13 k13
  have B13 := F13.binds (ps := ["_law_script"]) fun _ _ _ _ _ _ us hl => match us, hl with | [_], _ => rfl
  let T : Txt K mg := { a_is_whole := _, d_is_whole := _, f_is_whole := F0, b_is_whole := B0, g_is_whole := PySem.W.mg_of X G a0, a_common_divisor := _, d_common_divisor := _, f_common_divisor := F1, b_common_divisor := B1, g_common_divisor := PySem.W.mg_of X G a1, a_is_valid_fraction := _, d_is_valid_fraction := _, f_is_valid_fraction := F2, b_is_valid_fraction := B2, g_is_valid_fraction := PySem.W.mg_of X G a2, a_digits_of := _, d_digits_of := _, f_digits_of := F3, b_digits_of := B3, g_digits_of := PySem.W.mg_of X G a3, a_number_of := _, d_number_of := _, f_number_of := F4, b_number_of := B4, g_number_of := PySem.W.mg_of X G a4, a_format_fraction := _, d_format_fraction := _, f_format_fraction := F5, b_format_fraction := B5, g_format_fraction := PySem.W.mg_of X G a5, a_integer_of := _, d_integer_of := _, f_integer_of := F6, b_integer_of := B6, g_integer_of := PySem.W.mg_of X G a6, a_parse_fraction := _, d_parse_fraction := _, f_parse_fraction := F7, b_parse_fraction := B7, g_parse_fraction := PySem.W.mg_of X G a7, a__law_cell := _, d__law_cell := _, f__law_cell := F8, b__law_cell := B8, g__law_cell := PySem.W.mg_of X G a8, a__law_fraction := _, d__law_fraction := _, f__law_fraction := F9, b__law_fraction := B9, g__law_fraction := PySem.W.mg_of X G a9, a__law_is_same := _, d__law_is_same := _, f__law_is_same := F10, b__law_is_same := B10, g__law_is_same := PySem.W.mg_of X G a10, a__law_digits := _, d__law_digits := _, f__law_digits := F11, b__law_digits := B11, g__law_digits := PySem.W.mg_of X G a11, a__law_is_refused := _, d__law_is_refused := _, f__law_is_refused := F12, b__law_is_refused := B12, g__law_is_refused := PySem.W.mg_of X G a12, a_law := _, d_law := _, f_law := F13, b_law := B13, g_law := PySem.W.mg_of X G a13, e_InvalidFractionError := e_InvalidFractionError, h_InvalidFractionError := PySem.W.mg_of X G q_InvalidFractionError, x_InvalidFractionError := x_InvalidFractionError, k_InvalidFractionError := k_InvalidFractionError, s_InvalidFractionError := s_InvalidFractionError, t_InvalidFractionError := t_InvalidFractionError, m_InvalidFractionError := exm_is s_InvalidFractionError i_InvalidFractionError t_InvalidFractionError u_InvalidFractionError, m_InvalidFractionError_InvalidTextError := exm_is s_InvalidTextError i_InvalidTextError t_InvalidTextError u_InvalidFractionError_InvalidTextError, e_InvalidTextError := e_InvalidTextError, h_InvalidTextError := PySem.W.mg_of X G q_InvalidTextError, x_InvalidTextError := x_InvalidTextError, k_InvalidTextError := k_InvalidTextError, s_InvalidTextError := s_InvalidTextError, t_InvalidTextError := t_InvalidTextError, m_InvalidTextError := exm_is s_InvalidTextError i_InvalidTextError t_InvalidTextError u_InvalidTextError, m_InvalidTextError_InvalidFractionError := exm_is s_InvalidFractionError i_InvalidFractionError t_InvalidFractionError u_InvalidTextError_InvalidFractionError, q_InvalidFractionError := ⟨ga_InvalidFractionError, gk_InvalidFractionError, s_InvalidFractionError, hd_InvalidFractionError, hc_InvalidFractionError, hn_InvalidFractionError, ht_InvalidFractionError, hm_InvalidFractionError⟩, o_InvalidFractionError_InvalidTextError := kitOne_no u_InvalidFractionError i_InvalidTextError t_InvalidTextError u_InvalidFractionError_InvalidTextError, z_isinstance := PySem.W.mg_none_of X G z_isinstance, z_int := PySem.W.mg_none_of X G z_int, z_bool := PySem.W.mg_none_of X G z_bool, z_tuple := PySem.W.mg_none_of X G z_tuple, z_len := PySem.W.mg_none_of X G z_len, z_divmod := PySem.W.mg_none_of X G z_divmod, z_str := PySem.W.mg_none_of X G z_str, z_reversed := PySem.W.mg_none_of X G z_reversed, z_range := PySem.W.mg_none_of X G z_range, z_abs := PySem.W.mg_none_of X G z_abs, z_all := PySem.W.mg_none_of X G z_all, z_list := PySem.W.mg_none_of X G z_list, u_BLOCK_DIGITS := u_BLOCK_DIGITS, g_BLOCK_DIGITS := PySem.W.mg_of X G n_BLOCK_DIGITS, u_BLOCK := u_BLOCK, g_BLOCK := PySem.W.mg_of X G n_BLOCK }
  exact ⟨_, fun s v => .of_eq rfl, fun base _ _ => G_law (P := l.prog) (w := w) (base := base) T⟩
end Lw
open PySem PySem.W PyProof.Rows
set_option maxHeartbeats 0 in
theorem PySem.Challenge.cw_wagerroom_k58_text_of_a_fraction_holds : PySem.Challenge.rw_wagerroom_k58_text_of_a_fraction.Holds := by
  w_on; o_law; k_head; (case hw => w_witness2)
  k_fill
  refine Wr.walk_ofG (l := PySem.Challenge.rw_wagerroom_k58_text_of_a_fraction) (n := 63) (k := 8) (x := "_law_script")
    (sp := fun K => Wr.sp_law K) rfl (by decide) rfl ⟨rfl, by decide, by decide⟩
    (fun w h Y => PySem.W.kIn_of Y) ?F Wr.law_start
  case F =>
    intro w mg fa h KX G hmg
    refine' Lw.all_mk KX G hmg ?a0 ?l0 ?c0 ?k0 ?a1 ?l1 ?c1 ?k1 ?a2 ?l2 ?c2 ?k2 ?a3 ?l3 ?c3 ?k3 ?a4 ?l4 ?c4 ?k4 ?a5 ?l5 ?c5 ?k5 ?a6 ?l6 ?c6 ?k6 ?a7 ?l7 ?c7 ?k7 ?a8 ?l8 ?c8 ?k8 ?a9 ?l9 ?c9 ?k9 ?a10 ?l10 ?c10 ?k10 ?a11 ?l11 ?c11 ?k11 ?a12 ?l12 ?c12 ?k12 ?a13 ?l13 ?c13 ?k13 ?q_InvalidFractionError ?x_InvalidFractionError ?k_InvalidFractionError ?s_InvalidFractionError ?t_InvalidFractionError ?i_InvalidFractionError ?u_InvalidFractionError ?q_InvalidTextError ?x_InvalidTextError ?k_InvalidTextError ?s_InvalidTextError ?t_InvalidTextError ?i_InvalidTextError ?u_InvalidTextError ?u_InvalidFractionError_InvalidTextError ?u_InvalidTextError_InvalidFractionError ?ga_InvalidFractionError ?gk_InvalidFractionError ?hd_InvalidFractionError ?hc_InvalidFractionError ?hn_InvalidFractionError ?ht_InvalidFractionError ?hm_InvalidFractionError ?z_isinstance ?z_int ?z_bool ?z_tuple ?z_len ?z_divmod ?z_str ?z_reversed ?z_range ?z_abs ?z_all ?z_list ?n_BLOCK_DIGITS ?n_BLOCK
    (case a0 => k_is); (case l0 => k_is); (case c0 => k_is); (case k0 => k_is); (case a1 => k_is); (case l1 => k_is); (case c1 => k_is); (case k1 => k_is); (case a2 => k_is); (case l2 => k_is); (case c2 => k_is); (case k2 => k_is); (case a3 => k_is); (case l3 => k_is); (case c3 => k_is); (case k3 => k_is); (case a4 => k_is); (case l4 => k_is); (case c4 => k_is); (case k4 => k_is); (case a5 => k_is); (case l5 => k_is); (case c5 => k_is); (case k5 => k_is); (case a6 => k_is); (case l6 => k_is); (case c6 => k_is); (case k6 => k_is); (case a7 => k_is); (case l7 => k_is); (case c7 => k_is); (case k7 => k_is); (case a8 => k_is); (case l8 => k_is); (case c8 => k_is); (case k8 => k_is); (case a9 => k_is); (case l9 => k_is); (case c9 => k_is); (case k9 => k_is); (case a10 => k_is); (case l10 => k_is); (case c10 => k_is); (case k10 => k_is); (case a11 => k_is); (case l11 => k_is); (case c11 => k_is); (case k11 => k_is); (case a12 => k_is); (case l12 => k_is); (case c12 => k_is); (case k12 => k_is); (case a13 => k_is); (case l13 => k_is); (case c13 => k_is); (case k13 => k_is); (case q_InvalidFractionError => k_is); (case x_InvalidFractionError => k_exc); (case k_InvalidFractionError => k_is); (case s_InvalidFractionError => k_is); (case t_InvalidFractionError => k_is); (case i_InvalidFractionError => k_is); (case u_InvalidFractionError => k_is); (case q_InvalidTextError => k_is); (case x_InvalidTextError => k_exc); (case k_InvalidTextError => k_is); (case s_InvalidTextError => k_is); (case t_InvalidTextError => k_is); (case i_InvalidTextError => k_is); (case u_InvalidTextError => k_is); (case u_InvalidFractionError_InvalidTextError => k_is); (case u_InvalidTextError_InvalidFractionError => k_is); (case ga_InvalidFractionError => k_is); (case gk_InvalidFractionError => k_is); (case hd_InvalidFractionError => k_is); (case hc_InvalidFractionError => k_is); (case hn_InvalidFractionError => k_is); (case ht_InvalidFractionError => k_is); (case hm_InvalidFractionError => k_is); (case z_isinstance => k_is); (case z_int => k_is); (case z_bool => k_is); (case z_tuple => k_is); (case z_len => k_is); (case z_divmod => k_is); (case z_str => k_is); (case z_reversed => k_is); (case z_range => k_is); (case z_abs => k_is); (case z_all => k_is); (case z_list => k_is); (case n_BLOCK_DIGITS => k_is); (case n_BLOCK => k_is)
