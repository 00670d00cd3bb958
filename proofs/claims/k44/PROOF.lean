import PyProof.Rows.All
import HandS.ForMost
import HandS.Defaults
import HandS.HeadEnd
import KE.DatumIndex
import PyProof.ReprRoads
import HandS.SetKeys
import HandS.Zip
import HandS.Walk
import KE.GoesMore
import KE.GoesEnum
import KE.GoesZip
import HandS.IsInst
import HandS.SetTxt0
import HandS.SetFor
import HandS.Strs
import PyProof.Rows.SortStr
import HandS.More
import HandS.SlotsOwn
import OpenK.KOps
import PyProof.InstNe
import PyProof.StrLawsRepr
import PyProof.FitsInt
import KE.KExcSuper
import HandS.Nested
import HandS.ClsMeth
import HandS.ExcInit
import HandS.FStr
import HandS.Exc
import HandS.WordsExc
import KE.KOpsOwn
import HandS.Dict
import HandS.DictComp
import OpenK.KMeth
import HandS.ExcCtx
import HandS.DictTup
import HandS.Star
import HandS.TupSets
import KE.KSortTupG
import HandS.Deep
import HandS.Lambda
import HandS.TryMany
import HandS.ExcField
import PyProof.DictUpdate
import HandS.Finally
import HandS.TupMul
import HandS.TupAny
import PyProof.EqAt
import HandS.DictEq
import PyProof.DictRoadsH
import KE.DataFind
import HandS.Head0
import HandS.Head1
import HandS.Head2
import HandS.HeadHook1
import HandS.HeadHook2
import HandS.HeadHook3
import KE.KStateDown
import PySem.Challenge.RW_heldback_k44_whole_piles_or_crossings
set_option Elab.async false
set_option linter.all false
set_option maxRecDepth 100000
set_option maxHeartbeats 4000000
/-! Defs that may ask for repr: their promise holds where no repr is under way. -/
namespace Hb
open PySem PySem.Spec PyProof.Rows L2

structure FnG (P : Program) (w : World) (K : PySem.W.Frag) (mg : Str → Option Value) (base : Heap)
    (CX : CXT) (k : Nat) (f : Addr) (fd : FuncData) (ps : List Str) (sp : Sp) : Prop where
  many : ∀ {vs H Q E}, sp vs H Q E → vs.length = ps.length
  go : ∀ {A : Around} {outer : List Env} {s : Shared} {H : Hp} {args : Args} {us : List Value} {vs : List V} {Q : VK} {E : XK},
    A.guards = some [] → Room k A → Env0 P w K mg base A outer s H → BindsTo s fd args (ps.zip us) → Vals vs us →
    sp vs H Q E → codeAny (model P w) A (.call (.ref f) args) (CR CX outer P w H s Q E) s

section
variable {P : Program} {w : World} {K : PySem.W.Frag} {mg : Str → Option Value} {base : Heap} {CX : CXT}

theorem FnG.of {k : Nat} {f : Addr} {fd : FuncData} {ps : List Str} {sp : Sp}
    (F : FnOk P w K mg base CX k f fd ps sp) : FnG P w K mg base CX k f fd ps sp :=
  ⟨fun h => F.len _ _ _ _ h, fun _ hr e b r h => F.run _ _ _ _ _ _ _ _ _ hr e b r h⟩

theorem okG {x qual : Str} {params : Arguments} {body : List Stmt} {scope : Scope} {dvs : List V} {kws : List (Str × V)}
    {f : Addr} {fd : FuncData} {N ps : List Str} {k : Nat} {sp : Sp}
    (F : FunD K x qual params body scope dvs kws f fd) (S : FnScope N ps scope)
    (many : ∀ vs H Q E, sp vs H Q E → vs.length = ps.length)
    (inside : ∀ (cdv : Value) (A : Around) (outer : List Env) (s : Shared) (H : Hp) (vs : List V) (Q : VK) (E : XK),
      A.guards = some [] → Room k (A.deeper (envOfC qual scope s.heap.objs.size f cdv)) → sp vs H Q E →
      ∃ t, PSs (cxOf CX P w K mg base N qual scope f cdv A outer s H E) body t ∧
        t { nx := fun _ H' => Q .non H', rt := Q } (start N vs) H) :
    FnG P w K mg base CX (k + 1) f fd ps sp := by
  obtain ⟨oc, od, dV, kV, doc, pm, an, cdv, ct, osl, rfl, lk, hcd, _, _⟩ := F.ex
  refine ⟨fun h => many _ _ _ _ h, ?_⟩
  intro A outer s H args us vs Q E hg hr e0 hb r hsp
  have kin : K.In s.heap := e0.mod.kin.keeps (fun b o e => (e0.bs b o e).1)
  have lm : s.heap.NoLimit := e0.mod.nolimit.keeps (fun b o e => (e0.bs b o e).1)
  have kinds : ∀ y ∈ ps.zip us, scope.names.lookup y.1 = some .local ∨
      (scope.names.lookup y.1 = some .cell ∧
        ((cellsFrom (s.heap.objs.size + 1) scope.names []).lookup y.1).isSome = true) := by
    intro y hy
    obtain ⟨n, v⟩ := y
    have hm := S.par n (List.of_mem_zip hy).1
    exact hm.imp id fun q => ⟨q, PySem.W.cellsFrom_some _ _ _ (Or.inl q)⟩
  apply codeAny_call_function hr.depth (kin _ _ lk) rfl S.co S.gen rfl (PySem.W.codeRec_of kin hcd)
  apply hb
  apply wpAny_newFunctionEnv_cells S.kind kinds
  intro env he s1 x
  subst he
  refine ⟨lm.keeps x.toInCall.keep, ?_⟩
  apply codeAny_func
  obtain ⟨t, ht, hq⟩ := inside cdv A outer s H vs Q E hg (hr.deeper _) hsp
  have I0 := inv_start (CX := CX) (E := E) (cd := cdv) (f := f) (qual := qual) S hr.hd e0 (many _ _ _ _ hsp) r x
  refine wpAny_mono (ht.run [] s1 (start N vs) H _ I0 hq) ?_ (fun _ _ z => z)
  intro fl s' hs
  cases fl with
  | next =>
    obtain ⟨σ', H', J, q⟩ := hs
    exact ⟨V.non, H', J.os, J.bare, J.base, J.hok, rfl, q⟩
  | ret u =>
    obtain ⟨v, σ', H', J, rv, q⟩ := hs
    exact ⟨v, H', J.os, J.bare, J.base, J.hok, rv, q⟩
  | brk =>
    obtain ⟨_, _, _, q⟩ := hs
    exact q.elim
  | cont =>
    obtain ⟨_, _, _, q⟩ := hs
    exact q.elim
end

section
variable {X : Cx} {CX : CXT} {k : Nat} {f : Addr} {fd : FuncData} {ps : List Str} {sp : Sp} {dvs : List V} {ds : List Value}
variable {E : XK} {x : Str} {p pos : Pos} {e : Expr} {es : List Expr} {t : TA}
theorem go_fnG {pins : List (Addr × Obj)} {σ : L2.St} {H : Hp} {s : Shared} {Q : VK} {us : List Value} {vs : List V}
    (F : FnG X.prog X.w X.K X.mg X.base CX k f fd ps sp) (hg : X.A.guards = some []) (hr : Room k X.A)
    (hb : Binds X.K fd ps ds) (hd : Vals dvs ds) (hx : Passes CX X E) (I : Inv X pins σ H s) (r : Vals vs us)
    (h : sp (vs ++ dvs) H Q E) : wpAny (model X.prog X.w) X.A (call (.ref f) us) (EP X pins σ Q) X.xe s := by
  have rr := r.append hd
  have hl : (us ++ ds).length = ps.length := rr.length.symm.trans (F.many h)
  apply wpAny_call
  refine codeAny_mono (F.go hg hr I.env0 (hb s us I.kIn hl) rr h) ?_
  intro res s' hq
  rcases res with e | fl
  · exact hx pins σ H s e s' I hq
  · cases fl with
    | ret u => exact I.after hq
    | next => exact hq.elim
    | brk => exact hq.elim
    | cont => exact hq.elim
theorem pe_callG (F : FnG X.prog X.w X.K X.mg X.base CX k f fd ps sp) (hg : X.A.guards = some []) (hr : Room k X.A)
    (hgl : Gl X x) (hm : X.mg x = some (.ref f)) (hk : PySem.W.keepIn X.K (.ref f) = true) (hb : Binds X.K fd ps ds)
    (hd : Vals dvs ds) (hx : Passes CX X E) (ha : PA X (e :: es) t) (hdb : (x == ("__debug__" : Str)) = false := by decide)
    (he : starEach (e :: es) X.env = (false, eval e X.env) :: starEach es X.env := by rfl)
    (hpl : (backTo pos (starEach es X.env)).any (·.1) = false := by rfl) :
    PE X (.Call (.Name x p) (e :: es) [] pos) (tCall sp dvs E t) := by
  constructor
  intro pins s σ H Q I h
  apply wpAny_Call_Name_kw
  apply ld_glob I hgl hm _ hdb
  apply PySem.W.callWith_K (h₀ := X.base) I.ok.mod.kin hk _ he hpl
  refine thn (ha.run pos pins s σ H _ I h) ?_
  rintro us s1 ⟨vs, H1, I1, r, q⟩
  exact ⟨I1.kIn, go_fnG F hg hr hb hd hx I1 r q⟩

/-- repr of data -/
def rReprD (K : PySem.W.Frag) : List V → Hp → VK → Prop := fun xs H Q =>
  ∃ (a : Addr) (d : PyData), xs = [.ref a] ∧ Dp K H (.ref a) d ∧ d.showable = true ∧ d.shown.length ≤ sizeLine ∧ d.depth ≤ 30 ∧ Q (.str d.shown) H
mutual
theorem noDict_dp {K : PySem.W.Frag} {H : Hp} : ∀ (d : PyData) (v : V), Dp K H v d → d.hasDict = false
  | .none, _, _ => by simp only [PyData.hasDict]
  | .bool _, _, _ => by simp only [PyData.hasDict]
  | .int _, _, _ => by simp only [PyData.hasDict]
  | .str _, _, _ => by simp only [PyData.hasDict]
  | .list ds, _, h => by
    cases h with
    | lst _ ha => simp only [PyData.hasDict]; exact noDict_all ds _ ha
  | .tuple ds, _, h => by
    cases h with
    | tup _ ha => simp only [PyData.hasDict]; exact noDict_all ds _ ha
  | .dict _, _, h => by cases h
theorem noDict_all {K : PySem.W.Frag} {H : Hp} : ∀ (ds : List PyData) (vs : List V), DpAll K H vs ds → PyData.hasDictAll ds = false
  | [], _, _ => by simp only [PyData.hasDictAll]
  | d :: ds, _, h => by
    cases h with
    | cons h1 h2 => simp only [PyData.hasDictAll, noDict_dp d _ h1, noDict_all ds _ h2, Bool.or_self]
end
theorem call_reprD (hg : X.A.guards = some []) (hu : X.A.units + 64 < cLine) : CallR X (.builtin "repr") (rReprD X.K) := by
  intro pins s σ H xs us Q I r h
  obtain ⟨a, d, rfl, hd, hs, hz, hdep, q⟩ := h
  obtain ⟨u, rfl, ru⟩ : ∃ u, us = [u] ∧ RelV (V.ref a) u := by
    cases r with
    | cons r1 r2 => cases r2; exact ⟨_, rfl, r1⟩
  obtain ⟨as, rd⟩ := Dp.reads I d _ u hd ru
  have nd := noDict_dp d _ hd
  have fin : ∀ (h' : Heap) (u' tk : Tok), (∀ b o, s.heap.get? b = some o → h'.get? b = some o) →
      EP X pins σ Q (.str d.shown u') { s with heap := h', toks := tk } := fun h' u' tk hk =>
    ⟨.str d.shown, H, I.kept hk, ⟨u', rfl⟩, q⟩
  obtain rfl : u = Value.ref a := ru
  exact repr_of_reads' rd hs (PyData.noDict_hsm nd) hg (by omega) (fun _ _ e => e) fin hz
end
end Hb
set_option maxHeartbeats 4000000
/-! The end of a law whose def's promise holds where no repr is under way. -/
namespace Hb
open PySem PySem.Spec PyProof.Rows L2

theorem law_goG {P : Program} {w : World} {K : PySem.W.Frag} {mg mb : Str → Option Value} {CX : CXT} {k : Nat} {fa a : Addr}
    {fd : FuncData} {x : Str} {sp : Sp} {s₁ : Shared} {vs : List Value} {ns : List Int}
    (KX : K.In s₁.heap) (hns : s₁.heap.Ns mainGlobals mg) (hb : s₁.heap.Ns builtinsNs mb)
    (hbb : ∀ x : Str, x ≠ "__name__" → mb x = bootBuiltins x) (hlim : s₁.heap.NoLimit) (hg : s₁.gens = #[])
    (ha : s₁.heap.get? a = some { cls := .type "list", data := .seq vs.toArray }) (hi : IntsAre vs ns)
    (hl : ns.length ≤ sizeLine) (hr : Room k callerA)
    (F : ∀ base : Heap, K.In base → base.Ns mainGlobals mg → FnG P w K mg base CX k fa fd [x] sp)
    (hbind : ∀ (s : Shared) (u : Value), BindsTo s fd ⟨[u], []⟩ [(x, u)])
    (hsp : ∀ H : Hp, Only H → SqL K H a (ns.map V.int) → sp [.ref a] H (fun v _ => v = .bl true) fun _ _ _ => False)
    (hCX : ∀ H e s', CX [] H s₁ (fun _ _ _ => False) e s' → False) :
    codeAny (model P w) callerA (.call (.ref fa) ⟨[.ref a], []⟩)
      (fun r s' => r = .ok (.ret (.bool true)) ∧ OldK s₁.heap s'.heap ∧ s'.os = s₁.os ∧ AllBare s'.gens) s₁ := by
  have rv := vals_ints hi
  have len := hi.length
  have main : ∀ H : Hp, Only H → SqL K H a (ns.map V.int) → HOk P w H s₁.heap → (∀ b, H b ≠ none → b = a) →
      (H a ≠ none → K.lookup a = none) → codeAny (model P w) callerA (.call (.ref fa) ⟨[.ref a], []⟩)
      (fun r s' => r = .ok (.ret (.bool true)) ∧ OldK s₁.heap s'.heap ∧ s'.os = s₁.os ∧ AllBare s'.gens) s₁ := by
    intro H only hS hok alone hK
    have isA : ∀ {b u}, H b = some u → b = a := fun {b u} q => alone b (by rw [q]; exact fun z => nomatch z)
    have noDict : ∀ {b : Addr} {o : Obj} {es : Array DictEntry} {ep : Nat}, s₁.heap.get? b = some o → o.data = .dict es ep → H b = none := by
      intro b o es ep e d
      rcases q : H b with _ | u
      · rfl
      · obtain rfl := isA q
        rw [ha] at e
        cases e
        exact nomatch (show Data.seq vs.toArray _ = Data.dict es ep from d)
    have keepNs : ∀ {b : Addr} {m : Str → Option Value}, s₁.heap.Ns b m → (hidT s₁.heap H).Ns b m := by
      rintro b m ⟨o, es, ep, e, d, r⟩
      exact ⟨o, es, ep, hidT_get e (noDict e d), d, r⟩
    have kin : K.In (hidT s₁.heap H) := by
      intro b o e
      refine hidT_get (KX b o e) ?_
      rcases q : H b with _ | u
      · rfl
      · obtain rfl := isA q
        rw [hK (by rw [q]; exact fun z => nomatch z)] at e
        cases e
    obtain ⟨mc, l1, l2⟩ := hlim
    have modl : Mod K mg (hidT s₁.heap H) := ⟨kin, keepNs hns, ⟨mb, keepNs hb, hbb⟩, ⟨mc, keepNs l1, l2⟩⟩
    have noF : ∀ b ∈ frs [], H b = none := fun b z => absurd (show b ∈ ([] : List Addr) from z) (List.not_mem_nil)
    have env : Env0 P w K mg (hidT s₁.heap H) callerA [] s₁ H :=
      ⟨rfl, modl, fun b o e => of_hidT e, Nat.le_of_eq (hidT_size _ _), trivial, noF, hok, .of_eq hg⟩
    refine codeAny_mono ((F _ kin (keepNs hns)).go (us := [.ref a]) (vs := [.ref a]) rfl hr env (hbind s₁ (.ref a)) (.cons rfl .nil) (hsp H only hS)) ?_
    intro r s' h
    rcases r with e | fl
    · exact (hCX H e s' h).elim
    · cases fl with
      | next => exact False.elim h
      | brk => exact False.elim h
      | cont => exact False.elim h
      | ret u =>
        obtain ⟨v, H', os, bare, un, hok', r', q⟩ := h
        obtain rfl : v = .bl true := q
        obtain rfl : u = Value.bool true := r'
        refine ⟨rfl, ?_, os, bare⟩
        apply OldK.of_keep
        intro b o e
        rcases q : H b with _ | u
        · exact un.keep b o e q (fun z => absurd (show b ∈ ([] : List Addr) from z) List.not_mem_nil) List.not_mem_nil
        · rcases only b with z | ⟨ob, xs, z⟩
          · rw [q] at z
            cases z
          · obtain ⟨e1, _⟩ := hok b _ z
            obtain ⟨e2, _⟩ := hok' b _ (un.frzs b ob _ z)
            rw [e] at e1
            cases e1
            exact e2
  rcases hk : K.lookup a with _ | o
  · let H : Hp := fun b => if b = a then some (.frz { cls := .type "list", data := .seq vs.toArray } (.lst (ns.map V.int))) else none
    have at_a : H a = some (.frz { cls := .type "list", data := .seq vs.toArray } (.lst (ns.map V.int))) := if_pos rfl
    have off : ∀ {b}, b ≠ a → H b = none := fun h => if_neg h
    refine main H ?_ (.inl (.inr ⟨_, at_a⟩)) ?_ ?_ (fun _ => hk)
    · intro b
      by_cases hb : b = a
      · rw [hb]; exact .inr ⟨_, _, at_a⟩
      · exact .inl (off hb)
    · intro b u z
      by_cases hb : b = a
      · subst hb
        rw [at_a] at z
        cases z
        exact ⟨ha, by rw [List.length_map]; exact hl, vs, _, rv, ha⟩
      · rw [off hb] at z
        cases z
    · intro b z
      by_cases hb : b = a
      · exact hb
      · exact absurd (off hb) z
  · have e := KX a o hk
    rw [ha] at e
    cases e
    refine main (fun _ => none) (fun _ => .inl rfl) ?_ (fun b u z => nomatch (show (none : Option HO) = some u from z)) (fun b z => absurd rfl z) (fun z => absurd rfl z)
    exact .inr ⟨_, vs.toArray, _, hk, rfl, rfl, rfl, by rw [List.size_toArray, len]; exact hl, by simpa using rv⟩

theorem walkG {l : PySem.W.OpenLaw} {n k : Nat} {q : Program} {loose : List Str} {XP : (Str → Option Value) → Heap → Prop}
    {YP : World → Heap → Prop} {d : DefRec} {CX : CXT} {x : Str}
    (hn : l.most = some n) (hn2 : n ≤ sizeLine) (hdf : d.params.defaults = []) (hr : Room k callerA)
    (F : ∀ (w : World) (mg : Str → Option Value) (fa : Addr) (h : Heap), YP w h → h.Ns mainGlobals mg → mg d.name = some (.ref fa) →
      ∃ (K : PySem.W.Frag) (fd : FuncData) (sp : Sp), K.In h ∧ (∀ (s : Shared) (u : Value), BindsTo s fd ⟨[u], []⟩ [(x, u)]) ∧
        (∀ (H : Hp) (a : Addr) (ns : List Int), ns.length ≤ n → Only H → SqL K H a (ns.map V.int) →
          sp [.ref a] H (fun v _ => v = .bl true) fun _ _ _ => False) ∧
        ∀ base : Heap, K.In base → base.Ns mainGlobals mg → FnG l.prog w K mg base CX k fa fd [x] sp)
    (hCX : ∀ (H : Hp) (s : Shared) (e : Value) (s' : Shared), CX [] H s (fun _ _ _ => False) e s' → False) :
    PySem.W.WalkO q loose XP YP l.row.toRowW d [] (fun f vs => PySem.call f vs) := by
  apply Att.attach_call hn hdf
  intro w s₀ s₁ mg mb fa o pm cd doc a vs ns G Y ho hd hcd hmg hobj hints hlen hg
  obtain ⟨K, fd, sp, KX, hb, hsp, hF⟩ := F w mg fa _ Y G.T.g hmg
  refine law_goG KX G.T.g G.T.b G.T.builtins G.T.nolimit hg hobj hints ?_ hr hF hb ?_ (fun H e s' => hCX H s₁ e s')
  · exact Nat.le_trans hlen hn2
  · exact fun H hO hS => hsp H a ns hlen hO hS
end Hb
set_option maxHeartbeats 4000000
namespace Hb
open PySem PySem.Spec PyProof.Rows L2

/-! ### heaps -/
structure Kp (S : List Addr) (H H' : Hp) : Prop where
  keep : ∀ b o, H b = some o → b ∉ S → H' b = some o
  tup : ∀ b xs, H b = some (.tup xs) → H' b = some (.tup xs)
  frz : ∀ b o u, H b = some (.frz o u) → H' b = some (.frz o u)
theorem Kp.refl (S : List Addr) (H : Hp) : Kp S H H := ⟨fun _ _ h _ => h, fun _ _ h => h, fun _ _ _ h => h⟩
theorem Kp.trans {S : List Addr} {H H1 H2 : Hp} (x : Kp S H H1) (y : Kp S H1 H2) : Kp S H H2 :=
  ⟨fun b o h n => y.keep b o (x.keep b o h n) n, fun b o h => y.tup b o (x.tup b o h), fun b o u h => y.frz b o u (x.frz b o u h)⟩
theorem Kp.new {S : List Addr} {H H1 : Hp} (x : Kp S H H1) {p : Addr} (hp : H1 p = none) (o : HO) : Kp S H (upd H1 p o) :=
  ⟨fun b u h n => by rw [upd_ne (ne_of_none (x.keep b u h n) hp)]; exact x.keep b u h n,
   fun b u h => by rw [upd_ne (ne_of_none (x.tup b u h) hp)]; exact x.tup b u h,
   fun b u v h => by rw [upd_ne (ne_of_none (x.frz b u v h) hp)]; exact x.frz b u v h⟩
/-- an object that may change (no tuple, no locked one) is changed -/
theorem Kp.put {S : List Addr} {H H1 : Hp} (x : Kp S H H1) {p : Addr} (hp : p ∈ S) {v : HO} (hv : H1 p = some v) (nt : ∀ xs, v ≠ .tup xs := by intro _ z; cases z) (nf : ∀ o u, v ≠ .frz o u := by intro _ _ z; cases z) (o : HO) : Kp S H (upd H1 p o) :=
  ⟨fun b u h n => by rw [upd_ne (fun e => n (by rw [e]; exact hp))]; exact x.keep b u h n,
   fun b u h => by
    have q := x.tup b u h
    rw [upd_ne (fun e => by subst e; rw [hv] at q; injection q with q; exact nt _ q)]
    exact q,
   fun b u w h => by
    have q := x.frz b u w h
    rw [upd_ne (fun e => by subst e; rw [hv] at q; injection q with q; exact nf _ _ q)]
    exact q⟩
/-- what was new since H may change -/
theorem Kp.own {S : List Addr} {H H1 : Hp} (x : Kp S H H1) {p : Addr} (hp : H p = none) (o : HO) : Kp S H (upd H1 p o) :=
  ⟨fun b u h n => by rw [upd_ne (ne_of_none h hp)]; exact x.keep b u h n,
   fun b u h => by rw [upd_ne (ne_of_none h hp)]; exact x.tup b u h,
   fun b u v h => by rw [upd_ne (ne_of_none h hp)]; exact x.frz b u v h⟩
theorem Kp.mono {S T : List Addr} {H H1 : Hp} (x : Kp S H H1) (hs : ∀ b ∈ S, b ∈ T) : Kp T H H1 := ⟨fun b u h n => x.keep b u h fun m => n (hs b m), x.tup, x.frz⟩
/-- .. and leaves out of S what was not there at the beginning -/
theorem Kp.off {S T : List Addr} {H H1 : Hp} (x : Kp S H H1) (hs : ∀ b ∈ S, b ∈ T ∨ H b = none) : Kp T H H1 :=
  ⟨fun b u h n => x.keep b u h fun m => (hs b m).elim n (fun q => by rw [q] at h; cases h), x.tup, x.frz⟩
theorem Kp.free {S : List Addr} {H H1 : Hp} (x : Kp S H H1) {p : Addr} (hp : H1 p = none) (hs : p ∉ S) : H p = none := by
  rcases q : H p with _ | o
  · rfl
  · rw [x.keep p o q hs] at hp; cases hp
theorem Kp.seqT {K : PySem.W.Frag} {S : List Addr} {H H1 : Hp} (x : Kp S H H1) {a : Addr} {xs : List V} (h : SqT K H a xs) : SqT K H1 a xs := by
  rcases h with (h | ⟨o, h⟩) | h
  · exact .inl (.inl (x.tup _ _ h))
  · exact .inl (.inr ⟨o, x.frz _ _ _ h⟩)
  · exact .inr h

/-! ### tests -/
theorem iteT_of {b : Bool} {A B : Prop} (hb : b = true) (h : A) : if b = true then A else B := by rw [if_pos hb]; exact h
theorem iteF_of {b : Bool} {A B : Prop} (hb : b = false) (h : B) : if b = true then A else B := by rw [hb, if_neg Bool.false_ne_true]; exact h

/-! ### a word between a statement and what follows -/
def tVia (t u : TS) : TS := fun D σ H => ∃ J : L2.St → Hp → Prop, t { D with nx := J } σ H ∧ ∀ σ1 H1, J σ1 H1 → u D σ1 H1
section
variable {X : Cx}
theorem pss_via {st : Stmt} {rest : List Stmt} {t u : TS} (a : PS X st t) (b : PSs X rest u) : PSs X (st :: rest) (tVia t u) := by
  constructor
  rintro pins s σ H D I ⟨J, hj, hu⟩
  apply wpAny_execs_cons
  refine thn (a.run pins s σ H { D with nx := J } I hj) ?_
  intro f s1 q
  cases f with
  | next =>
    obtain ⟨σ1, H1, I1, j⟩ := q
    exact b.run pins s1 σ1 H1 D I1 (hu σ1 H1 j)
  | ret _ => exact q
  | brk => exact q
  | cont => exact q
end

theorem PE.to {X : Cx} {e : Expr} {te te' : TE} (h : PE X e te') (q : te' = te) : PE X e te := by rw [← q]; exact h
theorem PS.to {X : Cx} {e : Stmt} {te te' : TS} (h : PS X e te') (q : te' = te) : PS X e te := by rw [← q]; exact h
theorem PTs.to {X : Cx} {e : List Expr} {te te' : TT} (h : PTs X e te') (q : te' = te) : PTs X e te := by rw [← q]; exact h
theorem PT.to {X : Cx} {e : Expr} {te te' : TT} (h : PT X e te') (q : te' = te) : PT X e te := by rw [← q]; exact h

/-! ### data of ints -/
theorem dp_ints {K : PySem.W.Frag} {H : Hp} : ∀ ns : List Int, DpAll K H (ns.map V.int) (ns.map PyData.int)
  | [] => .nil
  | n :: ns => .cons (.int n) (dp_ints ns)
theorem lay_ints : ∀ ns : List Int, PyData.canLayAll0 (ns.map PyData.int) = true ∧ PyData.depthAll (ns.map PyData.int) = 0
  | [] => ⟨rfl, rfl⟩
  | n :: ns => by
    obtain ⟨h1, h2⟩ := lay_ints ns
    constructor
    · simp only [List.map_cons, PyData.canLayAll0, PyData.canLay0, h1, Bool.and_self]
    · simp only [List.map_cons, PyData.depthAll, PyData.depth, h2, Nat.max_self]
theorem shaped_ints (ns : List Int) : SeqAt.shaped (.list (ns.map PyData.int)) = true := by
  obtain ⟨h1, h2⟩ := lay_ints ns
  unfold SeqAt.shaped
  simp only [PyData.canLay0, PyData.depth, h1, h2, Bool.true_and]
  decide

/-! ### defs of the top -/
structure Df (K : PySem.W.Frag) (mg : Str → Option Value) (x : Str) (st : Stmt) (ps : List Str) (f : Addr) (fd : FuncData) : Prop where
  fn : FunD K x x (defArgs st) (defBody st) (defScope st) [] [] f fd
  gl : mg x = some (.ref f)
  bd : Binds K fd ps []
/-- the built-in names that mean what they mean -/
structure Bl (mg : Str → Option Value) : Prop where
  int : mg "int" = none
  str : mg "str" = none
  bool : mg "bool" = none
  isi : mg "isinstance" = none
  all : mg "all" = none
  zip : mg "zip" = none
  enum : mg "enumerate" = none
  set : mg "set" = none
  sorted : mg "sorted" = none
  repr : mg "repr" = none
  len : mg "len" = none
  list : mg "list" = none
  range : mg "range" = none
  tuple : mg "tuple" = none

/-! ### the spring of draws -/
/-- at a, the rest of the script at b; n draws may still be made -/
def Spr (a b : Addr) (n : Nat) (H : Hp) : Prop := ∃ (ns : List Int) (d c m : Int),
  H a = some (.lst [.ref b, .int d, .int c, .int m]) ∧ H b = some (.lst (ns.map V.int)) ∧ ns.length ≤ 63 ∧ 0 ≤ c ∧ c + (n : Int) ≤ 20000000 ∧ 0 ≤ m ∧ m < 2147483647
theorem Spr.less {a b : Addr} {n k : Nat} {H : Hp} (h : Spr a b n H) (hk : k ≤ n) : Spr a b k H := by
  obtain ⟨ns, d, c, m, h1, h2, h3, h4, h5, h6, h7⟩ := h
  exact ⟨ns, d, c, m, h1, h2, h3, h4, by omega, h6, h7⟩
theorem Spr.isA {a b : Addr} {n : Nat} {H : Hp} (h : Spr a b n H) : ∃ xs, H a = some (.lst xs) := by
  obtain ⟨ns, d, c, m, h1, _⟩ := h; exact ⟨_, h1⟩
theorem Spr.isB {a b : Addr} {n : Nat} {H : Hp} (h : Spr a b n H) : ∃ xs, H b = some (.lst xs) := by
  obtain ⟨ns, d, c, m, _, h2, _⟩ := h; exact ⟨_, h2⟩
theorem Spr.keep {a b : Addr} {n : Nat} {H H' : Hp} {S : List Addr} (h : Spr a b n H) (k : Kp S H H') (ha : a ∉ S) (hb : b ∉ S) : Spr a b n H' := by
  obtain ⟨ns, d, c, m, h1, h2, r⟩ := h
  exact ⟨ns, d, c, m, k.keep _ _ h1 ha, k.keep _ _ h2 hb, r⟩
theorem Spr.upd {a b : Addr} {n : Nat} {H : Hp} (h : Spr a b n H) {p : Addr} (hp : H p = none) (o : HO) : Spr a b n (L2.upd H p o) := 
  h.keep (S := []) ((Kp.refl _ _).new hp o) (by simp) (by simp)
def spDraw : Sp := fun vs H Q _ => ∃ (a b : Addr) (n : Nat) (k : Int), vs = [.ref a, .int k] ∧ Spr a b (n + 1) H ∧ 0 < k ∧ k < 1073741824 ∧
  ∀ (r : Int) (H' : Hp), 0 ≤ r → r < k → Spr a b n H' → Kp [a, b] H H' → Q (.int r) H'
end Hb
set_option maxHeartbeats 4000000
namespace Hb
open PySem PySem.Spec PyProof.Rows L2

/-! ### the names that a part may have -/
structure Pool where
  cs : List Str
  ws : List Str
  fs : List Str
/-! ### steps -/
inductive Kd where | w | c | n | l | t | f | h
  deriving DecidableEq
def formT : List (Str × List Kd) := [("say", [.w]), ("set", [.c, .n]), ("add", [.c, .n]), ("copy", [.c, .c, .n]), ("less", [.c, .n, .l, .l]), ("below", [.c, .c, .n, .l, .l]), ("times", [.t, .l]),
  ("fault", [.f]), ("catch", [.f, .h, .l, .l]), ("last", [.l, .l]), ("back", []), ("either", [.h, .l, .l]), ("whether", [.h, .l, .l, .l]), ("each", [.h, .l, .l]), ("hole", [])]
def form (x : Str) : Option (List Kd) := formT.lookup x
mutual
inductive Stp where
  | mk (w : Str) (its : List Itm)
inductive Itm where
  | s (x : Str)
  | n (i : Int)
  | h (xs : List Str)
  | l (ss : List Stp)
end
mutual
def Stp.d : Stp → PyData
  | .mk w its => .tuple (.str w :: Itm.ds its)
def Itm.d : Itm → PyData
  | .s x => .str x
  | .n i => .int i
  | .h xs => .tuple (xs.map .str)
  | .l ss => .tuple (Stp.ds ss)
def Stp.ds : List Stp → List PyData
  | [] => []
  | x :: xs => x.d :: Stp.ds xs
def Itm.ds : List Itm → List PyData
  | [] => []
  | x :: xs => x.d :: Itm.ds xs
end
/-- one to eight letters -/
def okName (x : Str) : Prop := 1 ≤ x.length ∧ x.length ≤ 8 ∧ ∀ c ∈ x.cps.toList, 97 ≤ c ∧ c ≤ 122
mutual
def Stp.ok (P : Pool) : Stp → Prop
  | .mk w its => ∃ ks, form w = some ks ∧ Itm.oks P ks its
def Itm.ok (P : Pool) : Kd → Itm → Prop
  | .w, .s x => okName x ∧ x ∈ P.ws
  | .c, .s x => okName x ∧ x ∈ P.cs
  | .f, .s x => okName x ∧ x ≠ "back" ∧ x ∈ P.fs
  | .n, .n i => i.natAbs < 10 ^ 31
  | .t, .n i => 0 ≤ i ∧ i ≤ 3
  | .h, .h xs => (∀ x ∈ xs, okName x ∧ x ∈ P.cs) ∧ xs.Nodup
  | .l, .l ss => Stp.okL P ss
  | _, _ => False
def Stp.okL (P : Pool) : List Stp → Prop
  | [] => True
  | x :: xs => Stp.ok P x ∧ Stp.okL P xs
def Itm.oks (P : Pool) : List Kd → List Itm → Prop
  | [], [] => True
  | k :: ks, i :: is => Itm.ok P k i ∧ Itm.oks P ks is
  | _, _ => False
end
/-! ### what a thing's text may come to -/
mutual
def wt : PyData → Nat
  | .none => 4
  | .bool _ => 5
  | .int _ => 40
  | .str x => 10 * x.length + 4
  | .list xs => 4 + wts xs
  | .tuple xs => 4 + wts xs
  | .dict _ => 0
def wts : List PyData → Nat
  | [] => 0
  | x :: xs => wt x + 2 + wts xs
end
/-! ### tuples all through, as they stand -/
mutual
inductive Tp (K : PySem.W.Frag) (H : Hp) : V → PyData → Prop
  | non : Tp K H .non .none
  | bl (b : Bool) : Tp K H (.bl b) (.bool b)
  | int (i : Int) : Tp K H (.int i) (.int i)
  | str (x : Str) : Tp K H (.str x) (.str x)
  | tup {a : Addr} {xs : List V} {ds : List PyData} : SqT K H a xs → TpA K H xs ds → Tp K H (.ref a) (.tuple ds)
inductive TpA (K : PySem.W.Frag) (H : Hp) : List V → List PyData → Prop
  | nil : TpA K H [] []
  | cons {v : V} {vs : List V} {d : PyData} {ds : List PyData} : Tp K H v d → TpA K H vs ds → TpA K H (v :: vs) (d :: ds)
end
section
variable {K : PySem.W.Frag} {H H1 : Hp}
mutual
theorem Tp.keep {S : List Addr} (k : Kp S H H1) : ∀ {v : V} {d : PyData}, Tp K H v d → Tp K H1 v d
  | _, _, .non => .non
  | _, _, .bl b => .bl b
  | _, _, .int i => .int i
  | _, _, .str x => .str x
  | _, _, .tup h a => .tup (k.seqT h) (TpA.keep k a)
theorem TpA.keep {S : List Addr} (k : Kp S H H1) : ∀ {vs : List V} {ds : List PyData}, TpA K H vs ds → TpA K H1 vs ds
  | _, _, .nil => .nil
  | _, _, .cons h t => .cons (Tp.keep k h) (TpA.keep k t)
end
mutual
theorem Tp.dp : ∀ {v : V} {d : PyData}, Tp K H v d → Dp K H v d
  | _, _, .non => .non
  | _, _, .bl b => .bl b
  | _, _, .int i => .int i
  | _, _, .str x => .str x
  | _, _, .tup h a => .tup h (TpA.dp a)
theorem TpA.dp : ∀ {vs : List V} {ds : List PyData}, TpA K H vs ds → DpAll K H vs ds
  | _, _, .nil => .nil
  | _, _, .cons h t => .cons (Tp.dp h) (TpA.dp t)
end
theorem TpA.append : ∀ {vs us : List V} {ds es : List PyData}, TpA K H vs ds → TpA K H us es → TpA K H (vs ++ us) (ds ++ es)
  | _, _, _, _, .nil, h => h
  | _, _, _, _, .cons h t, u => .cons h (TpA.append t u)
theorem TpA.length : ∀ {vs : List V} {ds : List PyData}, TpA K H vs ds → vs.length = ds.length
  | _, _, .nil => rfl
  | _, _, .cons _ t => congrArg (· + 1) t.length
theorem tpa_strs : ∀ xs : List Str, TpA K H (xs.map V.str) (xs.map PyData.str)
  | [] => .nil
  | x :: xs => .cons (.str x) (tpa_strs xs)
end
theorem wts_append : ∀ xs ys : List PyData, wts (xs ++ ys) = wts xs + wts ys
  | [], ys => by simp [wts]
  | x :: xs, ys => by
    have := wts_append xs ys
    simp only [List.cons_append, wts, this]
    omega
theorem ds_append : ∀ xs ys : List Stp, Stp.ds (xs ++ ys) = Stp.ds xs ++ Stp.ds ys
  | [], ys => by simp [Stp.ds]
  | x :: xs, ys => by
    have := ds_append xs ys
    simp only [List.cons_append, Stp.ds, this]
theorem okL_append {P : Pool} : ∀ {xs ys : List Stp}, Stp.okL P xs → Stp.okL P ys → Stp.okL P (xs ++ ys)
  | [], ys, _, h => by simpa using h
  | x :: xs, ys, h, g => by
    simp only [Stp.okL] at h
    simp only [List.cons_append, Stp.okL]
    exact ⟨h.1, okL_append h.2 g⟩
theorem depthAll_append : ∀ xs ys : List PyData, PyData.depthAll (xs ++ ys) = max (PyData.depthAll xs) (PyData.depthAll ys)
  | [], ys => by simp [PyData.depthAll]
  | x :: xs, ys => by
    have := depthAll_append xs ys
    simp only [List.cons_append, PyData.depthAll, this]
    omega
/-- a step (of a part that is drawn): as it should be, no deeper than D, no longer than W -/
structure Gd (P : Pool) (D W : Nat) (t : Stp) : Prop where
  ok : t.ok P
  dep : t.d.depth ≤ D
  len : wt t.d ≤ W
structure GdL (P : Pool) (D W : Nat) (ts : List Stp) : Prop where
  ok : Stp.okL P ts
  dep : PyData.depthAll (Stp.ds ts) ≤ D
  len : wts (Stp.ds ts) ≤ W
theorem Gd.mono {P : Pool} {D W D' W' : Nat} {t : Stp} (h : Gd P D W t) (hd : D ≤ D') (hw : W ≤ W') : Gd P D' W' t := ⟨h.ok, Nat.le_trans h.dep hd, Nat.le_trans h.len hw⟩
theorem GdL.mono {P : Pool} {D W D' W' : Nat} {t : List Stp} (h : GdL P D W t) (hd : D ≤ D') (hw : W ≤ W') : GdL P D' W' t := ⟨h.ok, Nat.le_trans h.dep hd, Nat.le_trans h.len hw⟩
theorem GdL.nil {P : Pool} {D W : Nat} : GdL P D W [] := ⟨trivial, Nat.zero_le _, Nat.zero_le _⟩
theorem GdL.snoc {P : Pool} {D W W' V : Nat} {ts : List Stp} {t : Stp} (h : GdL P D W ts) (g : Gd P D W' t) (hv : W + W' + 2 ≤ V) : GdL P D V (ts ++ [t]) := by
  refine ⟨okL_append h.ok (by simp only [Stp.okL]; exact ⟨g.ok, trivial⟩), ?_, ?_⟩
  · rw [ds_append, depthAll_append]
    simp only [Stp.ds, PyData.depthAll]
    have h1 := h.dep
    have h2 := g.dep
    omega
  · rw [ds_append, wts_append]
    simp only [Stp.ds, wts]
    have h1 := h.len
    have h2 := g.len
    omega

/-! ### what of them may stand where -/
structure Pool.Ok (p : Pool) : Prop where
  c0 : 0 < p.cs.length
  c1 : p.cs.length ≤ 6
  w0 : 0 < p.ws.length
  w1 : p.ws.length ≤ 6
  f0 : 0 < p.fs.length
  f1 : p.fs.length ≤ 6
  cn : ∀ x ∈ p.cs, okName x
  wn : ∀ x ∈ p.ws, okName x
  fn : ∀ x ∈ p.fs, okName x ∧ x ≠ "back"
  nd : p.cs.Nodup
/-- it stands at p (a dict of three lists) -/
def PoolAt (H : Hp) (p : Addr) (P : Pool) : Prop := ∃ c w f : Addr,
  H p = some (.dK [(.inr "cells", .ref c), (.inr "words", .ref w), (.inr "faults", .ref f)]) ∧
  H c = some (.lst (P.cs.map V.str)) ∧ H w = some (.lst (P.ws.map V.str)) ∧ H f = some (.lst (P.fs.map V.str)) ∧ P.Ok
/-- lists in which no text stands -/
def Sep (H : Hp) (S : List Addr) : Prop := ∀ s ∈ S, ∃ xs, H s = some (.lst xs) ∧ ∀ z, V.str z ∉ xs
theorem Sep.not {H : Hp} {S : List Addr} (h : Sep H S) {p : Addr} {z : Str} {zs : List Str} (e : H p = some (.lst ((z :: zs).map V.str))) : p ∉ S := fun m => by
  obtain ⟨xs, e1, e2⟩ := h p m
  rw [e] at e1
  injection e1 with e1
  injection e1 with e1
  exact e2 z (by rw [← e1]; exact List.mem_cons_self)
theorem Sep.notD {H : Hp} {S : List Addr} (h : Sep H S) {p : Addr} {o : HO} (e : H p = some o) (n : ∀ xs, o ≠ .lst xs) : p ∉ S := fun m => by
  obtain ⟨xs, e1, e2⟩ := h p m
  rw [e] at e1
  injection e1 with e1
  exact n xs e1
theorem Sep.nil {H : Hp} : Sep H [] := fun _ h => absurd h List.not_mem_nil
theorem Sep.cons {H : Hp} {S : List Addr} (h : Sep H S) {a : Addr} {xs : List V} (e : H a = some (.lst xs)) (n : ∀ z, V.str z ∉ xs) : Sep H (a :: S) := fun s m => by
  rcases List.mem_cons.mp m with rfl | m
  · exact ⟨xs, e, n⟩
  · exact h s m
theorem Spr.sep {a b : Addr} {n : Nat} {H : Hp} (h : Spr a b n H) : Sep H [a, b] := by
  obtain ⟨ns, d, c, m, h1, h2, _⟩ := h
  refine (Sep.nil.cons h2 fun z hz => ?_).cons h1 fun z hz => ?_
  · obtain ⟨i, _, e⟩ := List.mem_map.mp hz
    cases e
  · simp at hz
theorem Sep.free {H : Hp} {S : List Addr} (h : Sep H S) {p : Addr} (e : H p = none) : p ∉ S := fun m => by
  obtain ⟨xs, e1, e2⟩ := h p m
  rw [e] at e1
  cases e1
theorem cons_of_pos {α : Type} {xs : List α} (h : 0 < xs.length) : ∃ y ys, xs = y :: ys := by
  cases xs with
  | nil => cases h
  | cons y ys => exact ⟨y, ys, rfl⟩
theorem PoolAt.keep {H H1 : Hp} {p : Addr} {P : Pool} {S : List Addr} (h : PoolAt H p P) (k : Kp S H H1) (hs : Sep H S) : PoolAt H1 p P := by
  obtain ⟨c, w, f, h1, h2, h3, h4, h5⟩ := h
  have key : ∀ {b : Addr} {zs : List Str}, 0 < zs.length → H b = some (.lst (zs.map V.str)) → H1 b = some (.lst (zs.map V.str)) := fun {b zs} hz e => by
    obtain ⟨y, ys, rfl⟩ := cons_of_pos hz
    exact k.keep _ _ e (hs.not e)
  exact ⟨c, w, f, k.keep _ _ h1 (hs.notD h1 (by intro _ z; cases z)), key h5.c0 h2, key h5.w0 h3, key h5.f0 h4, h5⟩
end Hb
set_option maxHeartbeats 4000000
namespace Hb
open PySem PySem.Spec PyProof.Rows L2
def top (i : Nat) : Stmt := PySem.Challenge.pw_heldback_k44_whole_piles_or_crossings.main.body.getD i (.Pass ⟨0, 0, 0, 0⟩)
abbrev st_draw : Stmt := top 27
theorem sc_draw : FnScope ["_law_stream", "_law_many", "_law_digit", "_law_mixed_here"] ["_law_stream", "_law_many"] (defScope st_draw) := ⟨rfl, rfl, rfl, by decide +kernel, rfl, by decide +kernel, by decide +kernel⟩
section
variable {P : Program} {w : World} {K : PySem.W.Frag} {mg : Str → Option Value} {base : Heap} {f : Addr} {fd : FuncData}
theorem nzA : (2147483629 : Int) ≠ 0 := by decide
theorem nzB : (1000000007 : Int) ≠ 0 := by decide
theorem nzC : (2147483647 : Int) ≠ 0 := by decide
theorem mulOk {c : Int} (h0 : 0 ≤ c) (h1 : c ≤ 20000000) : -(2 ^ 64) < 40503 * c ∧ 40503 * c < 2 ^ 64 := by omega
theorem sqOk {c m : Int} (h0 : 0 ≤ c) (h1 : c ≤ 20000000) (hm : 0 ≤ m) (hm2 : m < 2147483629) : (m * 48271 + 40503 * c * c + 13).natAbs < 2 ^ 64 := by
  have e : 40503 * c * c ≤ 40503 * 20000000 * 20000000 := Int.mul_le_mul (by omega) h1 h0 (by omega)
  have e0 : 0 ≤ 40503 * c * c := Int.mul_nonneg (by omega) h0
  omega
theorem ok_draw (D : Df K mg "_law_draw" st_draw ["_law_stream", "_law_many"] f fd) (B : Bl mg) : FnOk P w K mg base CX0 1 f fd ["_law_stream", "_law_many"] spDraw := by
  refine D.fn.ok sc_draw (fun vs H Q E h => ?_) (fun cdv A outer s H vs Q E hr h => ?_)
  · obtain ⟨a, b, n, k, rfl, _⟩ := h
    rfl
  obtain ⟨a, b, n, k, rfl, ⟨ns, d, c, m, h1, h2, h3, h4, h5, h6, h7⟩, k0, k1, q⟩ := h
  have nd := sc_draw.nd
  refine ⟨_, PSs.nox (pss_cons (ps_asg (pe_op op_add (pe_ix ix_list (pv 0) pe_int (fun _ _ => rfl)) pe_int) (pg_sub (pv 0) pe_int set_list))
    (pss_via (ps_if (PW.pt (pw_and (pt_cmpR op_eq (pe_ix ix_list (pv 0) pe_int (fun _ _ => rfl)) pe_int (nomark _)) (pw_and1 (pt_cmpR (op_neD hr.units) (pe_ix ix_list (pv 0) pe_int (fun _ _ => rfl)) (pe_lst pa_nil) (nomark _)))))
        (pss_cons (ps_asg (pe_bm PySem.F.plainAttrs_list PySem.F.slot_list_pop PySem.F.type_list_pop mt_popAt (pe_ix ix_list (pv 0) pe_int (fun _ _ => rfl)) (pa_cons pe_int pa_nil)) (pg_sub (pv 0) pe_int set_list))
        (pss_one (ps_if (pt_cmpR op_lt (pe_ix ix_list (pv 0) pe_int (fun _ _ => rfl)) (pe_op op_pow pe_int pe_int) (nomark _))
          (pss_cons (ps_asg (pe_op op_modN (pe_callTy call_int1 (by rfl) B.int (by decide +kernel) (pa_cons (pe_op op_add (pe_op op_add (pe_op op_mul (pe_ix ix_list (pv 0) pe_int (fun _ _ => rfl)) pe_int) (pe_ix ix_list (pv 0) pe_int (fun _ _ => rfl))) pe_int) pa_nil)) pe_int) (pg_sub (pv 0) pe_int set_list))
          (pss_one (ps_asg pe_int (pg_sub (pv 0) pe_int set_list)))) pss_nil))) pss_nil)
    (pss_cons (ps_if (pt_cmpR op_gt (pe_ix ix_list (pv 0) pe_int (fun _ _ => rfl)) pe_int (nomark _))
        (pss_cons (ps_set (i := 2) nd rfl (.inl rfl) (pe_op op_modN (pe_callTy call_int1 (by rfl) B.int (by decide +kernel) (pa_cons (pe_ix ix_list (pv 0) pe_int (fun _ _ => rfl)) pa_nil)) (pv 1)))
        (pss_cons (ps_asg (pe_op op_fdivN (pe_ix ix_list (pv 0) pe_int (fun _ _ => rfl)) (pv 1)) (pg_sub (pv 0) pe_int set_list))
        (pss_one (ps_ret (pv 2))))) pss_nil)
    (pss_cons (ps_set (i := 3) nd rfl (.inl rfl) (pe_op op_modN (pe_op op_pow (pe_op op_add (pe_op op_add (pe_ix ix_list (pv 0) pe_int (fun _ _ => rfl)) (pe_op op_mul pe_int (pe_ix ix_list (pv 0) pe_int (fun _ _ => rfl)))) pe_int) pe_int) pe_int))
    (pss_one (ps_ret (pe_op op_modN (pe_op op_modN (pe_op op_pow (pe_op op_add (pe_op op_add (pe_op op_mul (pv 3) pe_int) (pe_op op_mul (pe_op op_mul pe_int (pe_ix ix_list (pv 0) pe_int (fun _ _ => rfl))) (pe_ix ix_list (pv 0) pe_int (fun _ _ => rfl)))) pe_int) pe_int) pe_int) (pv 1)))))))), ?_⟩
  have nab : a ≠ b := ne_of h1 h2 (by intro z; injection z with z; cases ns <;> cases z)
  refine ⟨_, rfl, a, _, _, .int c, rfl, rfl, SqL.of h1, rfl, c, 1, rfl, rfl, _, rfl, a, _, _, 2, rfl, rfl, h1, rfl, ?_⟩
  have g0 : Kp [a, b] H (upd H a (.lst [.ref b, .int d, .int (c + 1), .int m])) := (Kp.refl _ _).put (by simp) h1 (o := _)
  have ha1 : upd H a (.lst [.ref b, .int d, .int (c + 1), .int m]) a = some (.lst [.ref b, .int d, .int (c + 1), .int m]) := upd_same
  have hb1 : upd H a (.lst [.ref b, .int d, .int (c + 1), .int m]) b = some (.lst (ns.map V.int)) := by rw [upd_ne nab.symm]; exact h2
  refine ⟨fun σ H1 => σ = [some (.ref a), some (.int k), none, none] ∧ ∃ (ns : List Int) (d m : Int), H1 a = some (.lst [.ref b, .int d, .int (c + 1), .int m]) ∧ H1 b = some (.lst (ns.map V.int)) ∧ ns.length ≤ 63 ∧ 0 ≤ m ∧ m < 2147483647 ∧ Kp [a, b] H H1, ?_, ?_⟩
  · refine ⟨_, rfl, a, _, _, .int d, rfl, rfl, SqL.of ha1, rfl, rfl, _, rfl, ?_⟩
    refine ite2 (fun _ => ?_) (fun _ => ?_)
    · -- the script is asked
      refine ⟨_, rfl, a, _, _, .ref b, rfl, rfl, SqL.of ha1, rfl, Nat.zero_le _, fun p hp => ?_⟩
      have hap : a ≠ p := ne_of_none ha1 hp
      have hbp : b ≠ p := ne_of_none hb1 hp
      have g1 := g0.new hp (.lst [])
      have ha2 : upd (upd H a (.lst [.ref b, .int d, .int (c + 1), .int m])) p (.lst []) a = some (.lst [.ref b, .int d, .int (c + 1), .int m]) := by rw [upd_ne hap]; exact ha1
      have hb2 : upd (upd H a (.lst [.ref b, .int d, .int (c + 1), .int m])) p (.lst []) b = some (.lst (ns.map V.int)) := by rw [upd_ne hbp]; exact hb1
      have hp2 : upd (upd H a (.lst [.ref b, .int d, .int (c + 1), .int m])) p (.lst []) p = some (.lst []) := upd_same
      refine ⟨.list (ns.map PyData.int), .list [], Dp.lst (SqL.of hb2) (dp_ints ns), Dp.lst (SqL.of hp2) .nil, shaped_ints ns, rfl, ?_⟩
      refine ⟨_, rfl, ?_⟩
      cases ns with
      | nil =>
        refine iteF_of (by rfl) ?_
        exact ⟨rfl, [], d, m, ha2, hb2, h3, h6, h7, g1⟩
      | cons z zs =>
        refine iteT_of (by rfl) ?_
        refine ⟨_, rfl, a, _, _, .ref b, rfl, rfl, SqL.of ha2, rfl, .inl ⟨rfl, _, SqL.of hb2⟩, ?_⟩
        refine ⟨b, _, 0, 0, .int z, rfl, rfl, hb2, by decide, by decide, by simp [seqIndex?], rfl, ?_⟩
        have g3 : Kp [a, b] H (upd (upd (upd H a (.lst [.ref b, .int d, .int (c + 1), .int m])) p (.lst [])) b (.lst (zs.map V.int))) := g1.put (by simp) hb2 (o := _)
        have ha3 : upd (upd (upd H a (.lst [.ref b, .int d, .int (c + 1), .int m])) p (.lst [])) b (.lst (zs.map V.int)) a = some (.lst [.ref b, .int d, .int (c + 1), .int m]) := by rw [upd_ne nab]; exact ha2
        refine ⟨_, rfl, a, _, _, 1, rfl, rfl, ha3, rfl, ?_⟩
        have g4 : Kp [a, b] H (upd (upd (upd (upd H a (.lst [.ref b, .int d, .int (c + 1), .int m])) p (.lst [])) b (.lst (zs.map V.int))) a (.lst [.ref b, .int z, .int (c + 1), .int m])) := g3.put (by simp) ha3 (o := _)
        have ha4 : upd (upd (upd (upd H a (.lst [.ref b, .int d, .int (c + 1), .int m])) p (.lst [])) b (.lst (zs.map V.int))) a (.lst [.ref b, .int z, .int (c + 1), .int m]) a = some (.lst [.ref b, .int z, .int (c + 1), .int m]) := upd_same
        have hb4 : upd (upd (upd (upd H a (.lst [.ref b, .int d, .int (c + 1), .int m])) p (.lst [])) b (.lst (zs.map V.int))) a (.lst [.ref b, .int z, .int (c + 1), .int m]) b = some (.lst (zs.map V.int)) := by rw [upd_ne nab.symm, upd_same]
        have hz : zs.length ≤ 63 := by simp at h3; omega
        refine ⟨_, rfl, a, _, _, .int z, rfl, rfl, SqL.of ha4, rfl, 10, 18, rfl, rfl, ⟨by decide, by decide, by decide⟩, _, _, rfl, rfl, _, rfl, ?_⟩
        refine ite2 (fun _ => ?_) (fun _ => ?_)
        · refine ⟨_, rfl, a, _, _, .int m, rfl, rfl, SqL.of ha4, rfl, m, 31, rfl, rfl, .inr ⟨by decide, by decide⟩, _, rfl, a, _, _, .int z, rfl, rfl, SqL.of ha4, rfl, _, _, rfl, rfl, _, _, rfl, rfl, ?_⟩
          refine .inl ⟨_, rfl, _, _, rfl, rfl, nzC, ?_⟩
          refine ⟨_, rfl, a, _, _, 3, rfl, rfl, ha4, rfl, ?_⟩
          refine ⟨_, rfl, a, _, _, 1, rfl, rfl, upd_same, rfl, ?_⟩
          have e1 := Int.fmod_nonneg_of_pos (m * 31 + z + 7) (b := 2147483647) (by decide)
          have e2 := Int.fmod_lt_of_pos (m * 31 + z + 7) (b := 2147483647) (by decide)
          refine ⟨rfl, zs, 0, (m * 31 + z + 7).fmod 2147483647, upd_same, ?_, hz, e1, e2, (g4.put (by simp) ha4 (o := _)).put (by simp) upd_same (o := _)⟩
          rw [upd_ne nab.symm, upd_ne nab.symm]; exact hb4
        · exact ⟨rfl, zs, z, m, ha4, hb4, hz, h6, h7, g4⟩
    · exact ⟨rfl, ns, d, m, ha1, hb1, h3, h6, h7, g0⟩
  · rintro σ H1 ⟨rfl, ns, d, m, ha, hb, hl, hm0, hm1, g⟩
    have done : ∀ (d' : Int), Spr a b n (upd H1 a (.lst [.ref b, .int d', .int (c + 1), .int m])) := fun d' =>
      ⟨ns, d', c + 1, m, upd_same, by rw [upd_ne nab.symm]; exact hb, hl, by omega, by omega, hm0, hm1⟩
    refine ⟨_, rfl, a, _, _, .int d, rfl, rfl, SqL.of ha, rfl, _, _, rfl, rfl, _, rfl, ?_⟩
    refine ite2 (fun _ => ?_) (fun _ => ?_)
    · refine ⟨_, rfl, a, _, _, .int d, rfl, rfl, SqL.of ha, rfl, .inl ⟨_, rfl, _, rfl, _, _, rfl, rfl, by omega, ?_⟩⟩
      refine ⟨_, rfl, a, _, _, .int d, rfl, rfl, SqL.of ha, rfl, _, rfl, _, _, rfl, rfl, ⟨by omega, by omega⟩, ?_⟩
      refine ⟨_, rfl, a, _, _, 1, rfl, rfl, ha, rfl, ?_⟩
      refine ⟨_, rfl, ?_⟩
      exact q _ _ (Int.fmod_nonneg_of_pos _ k0) (Int.fmod_lt_of_pos _ k0) (done _) (g.put (by simp) ha (o := _))
    · have hs : Spr a b n H1 := ⟨ns, d, c + 1, m, ha, hb, hl, by omega, by omega, hm0, hm1⟩
      refine ⟨_, rfl, a, _, _, .int m, rfl, rfl, SqL.of ha, rfl, _, rfl, a, _, _, .int (c + 1), rfl, rfl, SqL.of ha, rfl, _, _, rfl, rfl, .inl ⟨by decide, by decide⟩, _, _, rfl, rfl, _, _, rfl, rfl, _, _, rfl, rfl, ⟨by decide, by decide, by omega⟩, _, _, rfl, rfl, nzA, ?_⟩
      have M0 : 0 ≤ Int.fmod ((m + 104729 * (c + 1) + 17) ^ (5 : Int).toNat) 2147483629 := Int.fmod_nonneg_of_pos _ (by decide)
      have M1 : Int.fmod ((m + 104729 * (c + 1) + 17) ^ (5 : Int).toNat) 2147483629 < 2147483629 := Int.fmod_lt_of_pos _ (by decide)
      refine ⟨_, rfl, _, _, rfl, rfl, .inr ⟨by decide, by decide⟩, _, rfl, a, _, _, .int (c + 1), rfl, rfl, SqL.of ha, rfl, _, _, rfl, rfl, .inl ⟨by decide, by decide⟩, _, rfl, a, _, _, .int (c + 1), rfl, rfl, SqL.of ha, rfl, _, _, rfl, rfl, .inl (mulOk (by omega) (by omega)), _, _, rfl, rfl, _, _, rfl, rfl, _, _, rfl, rfl, ⟨by decide, by decide, sqOk (by omega) (by omega) M0 M1⟩, _, _, rfl, rfl, nzB, _, rfl, _, _, rfl, rfl, by omega, ?_⟩
      exact q _ _ (Int.fmod_nonneg_of_pos _ k0) (Int.fmod_lt_of_pos _ k0) hs g
end
end Hb
set_option maxHeartbeats 4000000
namespace Hb
open PySem PySem.Spec PyProof.Rows L2
abbrev st_pick : Stmt := top 29
abbrev st_mixed : Stmt := top 30
theorem sc_pick : FnScope ["_law_stream", "_law_some_here"] ["_law_stream", "_law_some_here"] (defScope st_pick) := ⟨rfl, rfl, rfl, by decide +kernel, rfl, by decide +kernel, by decide +kernel⟩
theorem sc_mixed : FnScope ["_law_stream", "_law_some_here", "_law_left", "_law_k"] ["_law_stream", "_law_some_here"] (defScope st_mixed) := ⟨rfl, rfl, rfl, by decide +kernel, rfl, by decide +kernel, by decide +kernel⟩
def spPick (K : PySem.W.Frag) : Sp := fun vs H Q _ => ∃ (a b : Addr) (n : Nat) (x : V), vs = [.ref a, x] ∧ Spr a b (n + 1) H ∧
  ((∃ (p : Addr) (xs : List V), x = .ref p ∧ SqL K H p xs ∧ (∀ H', Kp [a, b] H H' → SqL K H' p xs) ∧ 0 < xs.length ∧ xs.length ≤ 1000 ∧ ∀ v H', v ∈ xs → Spr a b n H' → Kp [a, b] H H' → Q v H') ∨
   (∃ z : Str, x = .str z ∧ 0 < z.length ∧ z.length ≤ 1000 ∧ ∀ c H', c ∈ z.cps.toList → Spr a b n H' → Kp [a, b] H H' → Q (.str ⟨#[c]⟩) H'))
section
variable {P : Program} {w : World} {K : PySem.W.Frag} {mg : Str → Option Value} {base : Heap} {f g : Addr} {fd gd : FuncData}
theorem atI_mem {α : Type} {xs : List α} {r : Int} (h0 : 0 ≤ r) (h1 : r < (xs.length : Int)) : ∃ v, v ∈ xs ∧ atI xs r = some v := by
  have e : r = ((r.toNat : Nat) : Int) := by omega
  have hl : r.toNat < xs.length := by omega
  refine ⟨xs[r.toNat], List.getElem_mem hl, ?_⟩
  have q := atI_nat (xs := xs) (List.getElem?_eq_getElem hl)
  rwa [← e] at q
theorem ok_pick (D : Df K mg "_law_pick" st_pick ["_law_stream", "_law_some_here"] f fd) (D_draw : Df K mg "_law_draw" st_draw ["_law_stream", "_law_many"] g gd) (B : Bl mg) : FnOk P w K mg base CX0 2 f fd ["_law_stream", "_law_some_here"] (spPick K) := by
  have G_draw := ok_draw (P := P) (w := w) (base := base) D_draw B
  refine D.fn.ok sc_pick (fun vs H Q E h => ?_) (fun cdv A outer s H vs Q E hr h => ?_)
  · obtain ⟨a, b, n, k, rfl, _⟩ := h
    rfl
  obtain ⟨a, b, n, x, rfl, hS, h⟩ := h
  refine ⟨_, PSs.nox (pss_one (ps_ret (pe_ix ix_seq (pv 1) (pe_call G_draw (hr.mono (by decide)) (by rfl) D_draw.gl D_draw.fn.kp D_draw.bd .nil pass0 (pa_cons (pv 0) (pa_cons (pe_callB call_len (by rfl) B.len PySem.boot_len (pa_cons (pv 1) pa_nil)) pa_nil))) (fun _ _ => rfl)))), ?_⟩
  rcases h with ⟨p, xs, rfl, hq, hq', h0, h1, q⟩ | ⟨z, rfl, h0, h1, q⟩
  · refine ⟨_, rfl, _, rfl, _, rfl, _, xs.length, rfl, .inl ⟨_, hq, rfl⟩, ?_⟩
    refine ⟨a, b, n, (xs.length : Int), rfl, hS, by omega, by omega, fun r H' r0 r1 s' k => ?_⟩
    obtain ⟨v, hv, e⟩ := atI_mem r0 r1
    exact .inl ⟨p, xs, r, v, rfl, rfl, hq' _ k, e, q v H' hv s' k⟩
  · refine ⟨_, rfl, _, rfl, _, rfl, _, z.length, rfl, ⟨by rw [sizeLine_eq]; omega, rfl⟩, ?_⟩
    refine ⟨a, b, n, (z.length : Int), rfl, hS, by omega, by omega, fun r H' r0 r1 s' k => ?_⟩
    have e3 : z.cps.toList.length = z.length := by simp [Str.length]
    obtain ⟨c, hc, e⟩ := atI_mem (xs := z.cps.toList) r0 (by rw [e3]; exact r1)
    exact .inr (.inr ⟨z, r, c, rfl, rfl, by rw [sizeLine_eq]; omega, e, q c H' hc s' k⟩)
theorem perm_erase {α : Type} {l : List α} {i : Nat} (h : i < l.length) : (l[i] :: l.eraseIdx i).Perm l := by
  rw [List.eraseIdx_eq_take_drop_succ]
  have e : l = l.take i ++ l[i] :: l.drop (i + 1) := by rw [← List.drop_eq_getElem_cons h, List.take_append_drop]
  refine List.Perm.trans List.perm_middle.symm ?_
  rw [← e]
def spMixed (K : PySem.W.Frag) : Sp := fun vs H Q _ => ∃ (a b p : Addr) (n : Nat) (xs : List V), vs = [.ref a, .ref p] ∧ Spr a b (n + xs.length) H ∧ SqL K H p xs ∧ xs.length ≤ 1000 ∧
  ∀ (r : Addr) (ys : List V) (H' : Hp), ys.Perm xs → H r = none → H' r = some (.lst ys) → Spr a b n H' → Kp [a, b] H H' → Q (.ref r) H'
theorem ok_mixed (D : Df K mg "_law_mixed" st_mixed ["_law_stream", "_law_some_here"] f fd) (D_draw : Df K mg "_law_draw" st_draw ["_law_stream", "_law_many"] g gd) (B : Bl mg) : FnOk P w K mg base CX0 2 f fd ["_law_stream", "_law_some_here"] (spMixed K) := by
  have G_draw := ok_draw (P := P) (w := w) (base := base) D_draw B
  refine D.fn.ok sc_mixed (fun vs H Q E h => ?_) (fun cdv A outer s H vs Q E hr h => ?_)
  · obtain ⟨a, b, p, n, xs, rfl, _⟩ := h
    rfl
  obtain ⟨a, b, p, n, xs, rfl, hS, hp, hl, q⟩ := h
  have nd := sc_mixed.nd
  refine ⟨_, PSs.nox (pss_cons (ps_set (i := 2) nd rfl (.inr rfl) (pe_callTy call_list_of (by rfl) B.list (by decide +kernel) (pa_cons (pv 1) pa_nil)))
    (pss_one (ps_ret (pe_lc (own := [("_law_k", 3)]) (g := gName 3) (tt := tYes) rfl nd (pi_range1 rfl B.range (pa_cons (pe_callB call_len_seq (by rfl) B.len PySem.boot_len (pa_cons (pv 2) pa_nil)) pa_nil))
      (blkOk_by (own := [("_law_k", 3)]) (N := ["_law_stream", "_law_some_here", "_law_left", "_law_k"]) (sc := defScope st_mixed) (by decide +kernel)) (fun _ _ _ _ _ => pg_name (i := 3) nd rfl (Or.inl rfl)) (fun _ _ _ _ _ => pts_nil)
      (fun _ _ _ _ _ => by (apply PE.to); (focus (exact (pe_bm PySem.F.plainAttrs_list PySem.F.slot_list_pop PySem.F.type_list_pop mt_popAt (pv 2) (pa_cons (pe_call G_draw (hr.mono (by decide)) (by rfl) D_draw.gl D_draw.fn.kp D_draw.bd .nil pass0 (pa_cons (pv 0) (pa_cons (pe_callB call_len_seq (by rfl) B.len PySem.boot_len (pa_cons (pv 2) pa_nil)) pa_nil))) pa_nil)))); (focus ((try dsimp only [Cx.blk, Cx.nox, cxOf]); (try exact rfl)))))))), ?_⟩
  refine ⟨_, rfl, p, xs, rfl, .inl hp, fun l hl0 => ?_⟩
  refine ⟨_, rfl, l, xs, rfl, .inl (SqL.of upd_same), (xs.length : Int), rfl, by omega, by omega, fun D' hD => ?_⟩
  have nDl : D' ≠ l := fun e => by rw [e, upd_same] at hD; cases hD
  have hD0 : H D' = none := by rw [upd_ne nDl] at hD; exact hD
  have k0 : Kp [a, b] H (upd H l (.lst xs)) := (Kp.refl _ _).new hl0 _
  have k1 : Kp [a, b] H (upd (upd H l (.lst xs)) D' (.lst [])) := k0.own hD0 _
  have hla := hS.sep.free hl0
  have hDa := hS.sep.free hD0
  refine lc_range (lo := 0) (n := ((xs.length : Int) - 0).toNat) (fun i H' => ∃ left acc, H' l = some (.lst left) ∧ H' D' = some (.lst acc) ∧ (acc ++ left).Perm xs ∧ acc.length = i ∧ Spr a b (n + left.length) H' ∧ Kp [a, b] H H') ?_ ?_ ?_
  · exact ⟨xs, [], by rw [upd_ne nDl.symm, upd_same], upd_same, List.Perm.refl _, rfl, (hS.keep (S := []) ((Kp.refl _ _).new hl0 _) (by simp) (by simp)).upd hD _, k1⟩
  · rintro i H' hi ⟨left, acc, e1, e2, pm, hc, hs, k⟩
    have hln : acc.length + left.length = xs.length := by have := pm.length_eq; rwa [List.length_append] at this
    refine ⟨rfl, ?_⟩
    refine ⟨_, rfl, .inl ⟨rfl, _, SqL.of e1⟩, _, rfl, _, rfl, l, left, rfl, .inl (SqL.of e1), ?_⟩
    refine ⟨a, b, n + (left.length - 1), (left.length : Int), rfl, hs.less (by omega), by omega, by omega, fun r H2 r0 r1 s2 k2 => ?_⟩
    have f1 : H2 l = some (.lst left) := k2.keep _ _ e1 hla
    have f2 : H2 D' = some (.lst acc) := k2.keep _ _ e2 hDa
    have hrl : r.toNat < left.length := by omega
    refine ⟨l, left, r, r.toNat, left[r.toNat], rfl, rfl, f1, by omega, by omega, ?_, List.getElem?_eq_getElem hrl, ?_⟩
    · unfold seqIndex?
      simp only [show ¬ r < 0 from by omega, if_false]
      simp; omega
    · refine ⟨acc, by rw [upd_ne nDl]; exact f2, by rw [sizeLine_eq]; omega, left.eraseIdx r.toNat, acc ++ [left[r.toNat]], by rw [upd_ne nDl.symm, upd_same], upd_same, ?_, by simp [hc], ?_, ?_⟩
      · refine List.Perm.trans ?_ pm
        rw [List.append_assoc]
        exact List.Perm.append_left _ (perm_erase hrl)
      · have hz : (left.eraseIdx r.toNat).length = left.length - 1 := by rw [List.length_eraseIdx]; simp [hrl]
        rw [hz]
        have s3 : Spr a b (n + (left.length - 1)) (upd H2 l (.lst (left.eraseIdx r.toNat))) := by
          refine s2.keep (S := [l]) ((Kp.refl _ _).put (by simp) f1 (o := _)) ?_ ?_
          · intro m; exact hla (by simp at m; simp [m])
          · intro m; exact hla (by simp at m; simp [m])
        refine s3.keep (S := [D']) ((Kp.refl _ _).put (by simp) (v := .lst acc) (by rw [upd_ne nDl]; exact f2) (o := _)) ?_ ?_
        · intro m; exact hDa (by simp at m; simp [m])
        · intro m; exact hDa (by simp at m; simp [m])
      · exact ((k.trans k2).own hl0 _).own hD0 _
  · rintro H' ⟨left, acc, e1, e2, pm, hc, hs, k⟩
    have hln : acc.length + left.length = xs.length := by have := pm.length_eq; rwa [List.length_append] at this
    have : left = [] := List.eq_nil_of_length_eq_zero (by omega)
    subst this
    rw [List.append_nil] at pm
    exact q D' acc H' pm hD0 e2 (by simpa using hs) k
end
end Hb
set_option maxHeartbeats 4000000
namespace Hb
open PySem PySem.Spec PyProof.Rows L2
abbrev st_name : Stmt := top 32
theorem sc_name : FnScope ["_law_stream", "_law_size", "_law_k"] ["_law_stream"] (defScope st_name) := ⟨rfl, rfl, rfl, by decide +kernel, rfl, by decide +kernel, by decide +kernel⟩
theorem joinL_ones : ∀ cs : List Nat, TL.joinL [] ((cs.map fun c => (⟨#[c]⟩ : Str)).map TL.tl) = cs
  | [] => rfl
  | [c] => rfl
  | c :: d :: r => by
    have h := joinL_ones (d :: r)
    simp only [List.map_cons] at h ⊢
    simp only [TL.joinL]
    rw [h]
    rfl
theorem join_ones (cs : List Nat) : Txt.join "" (cs.map fun c => (⟨#[c]⟩ : Str)) = ⟨cs.toArray⟩ := by
  rw [TL.join_eq]
  have h := TL.tl_join "" (cs.map fun c => (⟨#[c]⟩ : Str))
  have e : TL.tl ("" : Str) = [] := by decide +kernel
  rw [e, joinL_ones] at h
  apply Str.mk.injEq _ _ |>.mpr
  apply Array.toList_inj.mp
  exact h
theorem ones_len (cs : List Nat) : ((cs.map fun c => (⟨#[c]⟩ : Str)).map (·.length)).sum = cs.length := by
  induction cs with
  | nil => rfl
  | cons c cs ih =>
    simp only [List.map_cons, List.sum_cons, ih, List.length_cons]
    show 1 + cs.length = cs.length + 1
    omega
theorem abc_ok : ∀ c ∈ ("abcdefghijklmnopqrstuvwxyz" : Str).cps.toList, 97 ≤ c ∧ c ≤ 122 := by decide +kernel
theorem abc_len : ("abcdefghijklmnopqrstuvwxyz" : Str).length = 26 := by decide +kernel
def spName : Sp := fun vs H Q _ => ∃ (a b : Addr) (n : Nat), vs = [.ref a] ∧ Spr a b (n + 9) H ∧
  ∀ (x : Str) (H' : Hp), okName x → x.length ≠ 4 → Spr a b n H' → Kp [a, b] H H' → Q (.str x) H'
def spNumber : Sp := fun vs H Q _ => ∃ (a b : Addr) (n : Nat), vs = [.ref a] ∧ Spr a b (n + 3) H ∧
  ∀ (i : Int) (H' : Hp), i.natAbs < 10 ^ 31 → Spr a b n H' → Kp [a, b] H H' → Q (.int i) H'
section
variable {P : Program} {w : World} {K : PySem.W.Frag} {mg : Str → Option Value} {base : Heap} {f g h1 : Addr} {fd gd hd1 : FuncData}
theorem ok_name (D : Df K mg "_law_name" st_name ["_law_stream"] f fd) (G_draw : FnOk P w K mg base CX0 1 g gd ["_law_stream", "_law_many"] spDraw) (D_draw : Df K mg "_law_draw" st_draw ["_law_stream", "_law_many"] g gd)
    (G_pick : FnOk P w K mg base CX0 2 h1 hd1 ["_law_stream", "_law_some_here"] (spPick K)) (D_pick : Df K mg "_law_pick" st_pick ["_law_stream", "_law_some_here"] h1 hd1) (B : Bl mg) : FnOk P w K mg base CX0 3 f fd ["_law_stream"] spName := by
  refine D.fn.ok sc_name (fun vs H Q E h => ?_) (fun cdv A outer s H vs Q E hr h => ?_)
  · obtain ⟨a, b, n, rfl, _⟩ := h
    rfl
  obtain ⟨a, b, n, rfl, hS, q⟩ := h
  have nd := sc_name.nd
  refine ⟨_, PSs.nox (pss_cons (ps_set (i := 1) nd rfl (.inl rfl) (pe_ix ix_list (pe_lst (pa_cons pe_int (pa_cons pe_int (pa_cons pe_int (pa_cons pe_int (pa_cons pe_int (pa_cons pe_int pa_nil))))))) (pe_call G_draw (hr.mono (by decide)) (by rfl) D_draw.gl D_draw.fn.kp D_draw.bd .nil pass0 (pa_cons (pv 0) (pa_cons pe_int pa_nil))) (fun _ _ => rfl)))
    (pss_one (ps_ret (pe_join pe_str (pe_lc (own := [("_law_k", 2)]) (g := gName 2) (tt := tYes) rfl nd (pi_range1 rfl B.range (pa_cons (pv 1) pa_nil))
      (blkOk_by (own := [("_law_k", 2)]) (N := ["_law_stream", "_law_size", "_law_k"]) (sc := defScope st_name) (by decide +kernel)) (fun _ _ _ _ _ => pg_name (i := 2) nd rfl (Or.inl rfl)) (fun _ _ _ _ _ => pts_nil)
      (fun _ _ _ _ _ => by (apply PE.to); (focus (exact pe_call G_pick (hr.mono (by decide)) (by rfl) D_pick.gl D_pick.fn.kp D_pick.bd .nil pass0 (pa_cons (pv 0) (pa_cons pe_str pa_nil)))); (focus ((try dsimp only [Cx.blk, Cx.nox, cxOf]); (try exact rfl))))))))), ?_⟩
  refine ⟨by decide, fun l hl => ?_⟩
  have hla := hS.sep.free hl
  refine ⟨_, rfl, a, b, n + 8, 6, rfl, hS.upd hl _, by decide, by decide, fun r H1 r0 r1 s1 k1 => ?_⟩
  have f1 := k1.keep _ _ upd_same hla
  have kk1 : Kp [a, b] H H1 := ((Kp.refl _ _).new hl _).trans k1
  obtain ⟨v, hv, e⟩ := atI_mem (xs := [V.int 1, .int 1, .int 2, .int 3, .int 5, .int 8]) r0 r1
  refine ⟨l, _, r, v, rfl, rfl, SqL.of f1, e, ?_⟩
  obtain ⟨z, rfl, hz⟩ : ∃ z : Int, v = .int z ∧ (z = 1 ∨ z = 2 ∨ z = 3 ∨ z = 5 ∨ z = 8) := by
    simp only [List.mem_cons, List.not_mem_nil, or_false] at hv
    rcases hv with rfl | rfl | rfl | rfl | rfl | rfl
    · exact ⟨1, rfl, by simp⟩
    · exact ⟨1, rfl, by simp⟩
    · exact ⟨2, rfl, by simp⟩
    · exact ⟨3, rfl, by simp⟩
    · exact ⟨5, rfl, by simp⟩
    · exact ⟨8, rfl, by simp⟩
  refine ⟨⟨_, rfl⟩, ?_⟩
  refine ⟨_, rfl, z, rfl, by omega, by omega, fun D' hD => ?_⟩
  have hDa := s1.sep.free hD
  have hD0 := kk1.free hD hDa
  refine lc_range (lo := 0) (n := z.toNat) (fun i H' => ∃ cs : List Nat, H' D' = some (.lst (cs.map fun c => V.str ⟨#[c]⟩)) ∧ cs.length = i ∧ (∀ c ∈ cs, 97 ≤ c ∧ c ≤ 122) ∧ Spr a b (n + 8 - i) H' ∧ Kp [a, b] H H') ?_ ?_ ?_
  · exact ⟨[], upd_same, rfl, by simp, s1.upd hD _, kk1.new hD _⟩
  · rintro i H' hi ⟨cs, e1, hc, hcs, hs, k⟩
    refine ⟨rfl, ?_⟩
    refine ⟨_, rfl, a, b, n + 8 - i - 1, _, rfl, hs.less (by omega), .inr ⟨_, rfl, by rw [abc_len]; decide, by rw [abc_len]; decide, fun c H2 hcz s2 k2 => ?_⟩⟩
    have e2 := k2.keep _ _ e1 hDa
    refine ⟨_, e2, by rw [sizeLine_eq, List.length_map]; omega, cs ++ [c], by rw [upd_same, List.map_append]; rfl, by simp [hc], ?_, ?_, (k.trans k2).own hD0 _⟩
    · intro y hy
      rcases List.mem_append.mp hy with hy | hy
      · exact hcs y hy
      · simp only [List.mem_cons, List.not_mem_nil, or_false] at hy
        subst hy
        exact abc_ok _ hcz
    · refine Spr.keep (H := H2) (S := [D']) (by rw [Nat.sub_sub] at s2; exact s2) ((Kp.refl _ _).put (by simp) e2 (o := _)) ?_ ?_
      · intro m; exact hDa (by simp at m; simp [m])
      · intro m; exact hDa (by simp at m; simp [m])
  · rintro H' ⟨cs, e1, hc, hcs, hs, k⟩
    refine ⟨_, D', cs.map (fun c => ⟨#[c]⟩), rfl, rfl, .inl (SqL.of (by rw [List.map_map]; exact e1)), ?_, ?_⟩
    · rw [ones_len, List.length_map]
      have : ("" : Str).length = 0 := by decide +kernel
      rw [this]
      omega
    · rw [join_ones]
      have hl2 : (⟨cs.toArray⟩ : Str).length = cs.length := by simp [Str.length]
      refine q _ H' ⟨by rw [hl2]; omega, by rw [hl2]; omega, ?_⟩ (by rw [hl2]; omega) (hs.less (by omega)) k
      intro c hc2
      exact hcs c (by simpa using hc2)
end
end Hb
set_option maxHeartbeats 4000000
namespace Hb
open PySem PySem.Spec PyProof.Rows L2
/-! ### steps in steps: what a draw of them costs, what comes of it -/
def cS : Nat → Nat
  | 0 => 10
  | k + 1 => 60 + 3 * (1 + 3 * cS k)
def wS : Nat → Nat
  | 0 => 500
  | k + 1 => 4000 + 9 * (wS k + 2)
theorem wS_ge : ∀ k, 500 ≤ wS k
  | 0 => Nat.le_refl _
  | k + 1 => by simp only [wS]; omega
/-! ### how many choices, tests and steps there are -/
def timesOf (w : Str) (its : List Itm) : Nat := if w = "times" then (match its with
  | .n i :: _ => i.toNat
  | _ => 1) else 1
def isChW (w : Str) : Nat := if w = "either" ∨ w = "whether" ∨ w = "each" then 1 else 0
def isTsW (w : Str) : Nat := if w = "less" ∨ w = "below" then 1 else 0
mutual
/-- choices, as often as they are done -/
def Stp.cn : Stp → Nat
  | .mk w its => timesOf w its * (isChW w + Itm.cns its)
def Itm.cn : Itm → Nat
  | .l ss => Stp.cnL ss
  | .s _ => 0
  | .n _ => 0
  | .h _ => 0
def Stp.cnL : List Stp → Nat
  | [] => 0
  | t :: ts => Stp.cn t + Stp.cnL ts
def Itm.cns : List Itm → Nat
  | [] => 0
  | i :: is => Itm.cn i + Itm.cns is
end
mutual
def Stp.tn : Stp → Nat
  | .mk w its => isTsW w + Itm.tns its
def Itm.tn : Itm → Nat
  | .l ss => Stp.tnL ss
  | .s _ => 0
  | .n _ => 0
  | .h _ => 0
def Stp.tnL : List Stp → Nat
  | [] => 0
  | t :: ts => Stp.tn t + Stp.tnL ts
def Itm.tns : List Itm → Nat
  | [] => 0
  | i :: is => Itm.tn i + Itm.tns is
end
mutual
def Stp.nn : Stp → Nat
  | .mk _ its => 1 + Itm.nns its
def Itm.nn : Itm → Nat
  | .l ss => Stp.nnL ss
  | .s _ => 0
  | .n _ => 0
  | .h _ => 0
def Stp.nnL : List Stp → Nat
  | [] => 0
  | t :: ts => Stp.nn t + Stp.nnL ts
def Itm.nns : List Itm → Nat
  | [] => 0
  | i :: is => Itm.nn i + Itm.nns is
end
theorem sds_len0 : ∀ ss : List Stp, (Stp.ds ss).length = ss.length
  | [] => rfl
  | _ :: r => congrArg (· + 1) (sds_len0 r)
theorem cnL_snoc (ts : List Stp) (t : Stp) : Stp.cnL (ts ++ [t]) = Stp.cnL ts + t.cn ∧ Stp.tnL (ts ++ [t]) = Stp.tnL ts + t.tn ∧ Stp.nnL (ts ++ [t]) = Stp.nnL ts + t.nn := by
  induction ts with
  | nil => simp [Stp.cnL, Stp.tnL, Stp.nnL]
  | cons u r ih =>
    obtain ⟨a, b, c⟩ := ih
    simp only [List.cons_append, Stp.cnL, Stp.tnL, Stp.nnL, a, b, c]
    omega
/-- a step without lists -/
theorem flat_its {P : Pool} : ∀ {ks : List Kd} {its : List Itm}, Itm.oks P ks its → PyData.depthAll (Itm.ds its) = 0 → Itm.cns its = 0 ∧ Itm.tns its = 0 ∧ Itm.nns its = 0 ∧ .l ∉ ks
  | [], [], _, _ => by simp [Itm.cns, Itm.tns, Itm.nns]
  | [], _ :: _, h, _ => h.elim
  | _ :: _, [], h, _ => h.elim
  | k :: ks, it :: its, h, d => by
    simp only [Itm.ds, PyData.depthAll] at d
    obtain ⟨a1, a2, a3, a4⟩ := flat_its (ks := ks) (its := its) h.2 (by omega)
    cases it with
    | l ss =>
      simp only [Itm.d, PyData.depth] at d
      omega
    | s x =>
      refine ⟨by simp only [Itm.cns, Itm.cn, a1], by simp only [Itm.tns, Itm.tn, a2], by simp only [Itm.nns, Itm.nn, a3], ?_⟩
      intro m
      rcases List.mem_cons.mp m with e | e
      · subst e
        exact (h.1 : False)
      · exact a4 e
    | n x =>
      refine ⟨by simp only [Itm.cns, Itm.cn, a1], by simp only [Itm.tns, Itm.tn, a2], by simp only [Itm.nns, Itm.nn, a3], ?_⟩
      intro m
      rcases List.mem_cons.mp m with e | e
      · subst e
        exact (h.1 : False)
      · exact a4 e
    | h x =>
      refine ⟨by simp only [Itm.cns, Itm.cn, a1], by simp only [Itm.tns, Itm.tn, a2], by simp only [Itm.nns, Itm.nn, a3], ?_⟩
      intro m
      rcases List.mem_cons.mp m with e | e
      · subst e
        exact (h.1 : False)
      · exact a4 e
theorem flat_cnt {P : Pool} {W : Nat} {t : Stp} (g : Gd P 1 W t) : t.cn = 0 ∧ t.tn = 0 ∧ t.nn = 1 := by
  cases t with
  | mk w its =>
    obtain ⟨ks, hf, ho⟩ := g.ok
    have d := g.dep
    simp only [Stp.d, PyData.depth, PyData.depthAll] at d
    obtain ⟨a1, a2, a3, a4⟩ := flat_its ho (by omega)
    have no : ∀ x : Str, ∀ ks' : List Kd, form x = some ks' → .l ∈ ks' → w ≠ x := fun x ks' e m z => by
      subst z
      rw [hf] at e
      cases e
      exact a4 m
    have n1 := no "either" [.h, .l, .l] (by decide +kernel) (by decide)
    have n2 := no "whether" [.h, .l, .l, .l] (by decide +kernel) (by decide)
    have n3 := no "each" [.h, .l, .l] (by decide +kernel) (by decide)
    have n4 := no "less" [.c, .n, .l, .l] (by decide +kernel) (by decide)
    have n5 := no "below" [.c, .c, .n, .l, .l] (by decide +kernel) (by decide)
    have e1 : isChW w = 0 := if_neg (by simp [n1, n2, n3])
    have e2 : isTsW w = 0 := if_neg (by simp [n4, n5])
    simp only [Stp.cn, Stp.tn, Stp.nn, a1, a2, a3, e1, e2, Nat.add_zero, Nat.mul_zero, and_self]
theorem flat_cntL {P : Pool} {W : Nat} : ∀ {ts : List Stp}, GdL P 1 W ts → Stp.cnL ts = 0 ∧ Stp.tnL ts = 0 ∧ Stp.nnL ts = ts.length
  | [], _ => by simp [Stp.cnL, Stp.tnL, Stp.nnL]
  | t :: ts, g => by
    have gd := g.dep
    have gl := g.len
    simp only [Stp.ds, PyData.depthAll] at gd
    simp only [Stp.ds, wts] at gl
    obtain ⟨a1, a2, a3⟩ := flat_cnt (P := P) (W := W) (t := t) ⟨g.ok.1, by omega, by omega⟩
    obtain ⟨b1, b2, b3⟩ := flat_cntL (P := P) (W := W) (ts := ts) ⟨g.ok.2, by omega, by omega⟩
    exact ⟨by simp only [Stp.cnL, a1, b1], by simp only [Stp.tnL, a2, b2], by simp only [Stp.nnL, a3, b3, List.length_cons]; omega⟩
/-- what was left of choices, tests and steps, and what is left -/
structure Ct (x y z x' y' z' : Int) (c t s : Nat) : Prop where
  ex : x' = x - c
  ey : y' = y - t
  ez : z' = z - s
  x0 : 0 ≤ x → 0 ≤ x'
  y0 : 0 ≤ y → 0 ≤ y'
  z4 : -4 ≤ z'
structure Wk (a b p l : Addr) (P : Pool) (n : Nat) (x y z : Int) (H : Hp) : Prop where
  spr : Spr a b n H
  pool : PoolAt H p P
  left : H l = some (.lst [.int x, .int y, .int z])
  la : l ∉ [a, b]
section
variable {a b p l : Addr} {P : Pool} {n m : Nat} {x y z : Int} {H H' : Hp}
theorem Wk.sep (w : Wk a b p l P n x y z H) : Sep H [l, a, b] := w.spr.sep.cons w.left (by intro u hu; simp at hu)
theorem Wk.to (w : Wk a b p l P n x y z H) (s : Spr a b m H') (k : Kp [a, b] H H') : Wk a b p l P m x y z H' := ⟨s, w.pool.keep k w.spr.sep, k.keep _ _ w.left w.la, w.la⟩
theorem Wk.less (w : Wk a b p l P n x y z H) (h : m ≤ n) : Wk a b p l P m x y z H := ⟨w.spr.less h, w.pool, w.left, w.la⟩
theorem Wk.upd (w : Wk a b p l P n x y z H) {q : Addr} (hq : H q = none) (o : HO) : Wk a b p l P n x y z (L2.upd H q o) :=
  w.to (w.spr.upd hq o) ((Kp.refl _ _).new hq o)
/-- the numbers that are left change -/
theorem Wk.put (w : Wk a b p l P n x y z H) (x' y' z' : Int) : Wk a b p l P n x' y' z' (L2.upd H l (.lst [.int x', .int y', .int z'])) := by
  have k : Kp [l] H (L2.upd H l (.lst [.int x', .int y', .int z'])) := (Kp.refl _ _).put (by simp) w.left (o := _)
  have s : Sep H [l] := Sep.nil.cons w.left (by intro u hu; simp at hu)
  refine ⟨w.spr.keep k ?_ ?_, w.pool.keep k s, upd_same, w.la⟩
  · intro m; exact w.la (by simp at m; simp [m])
  · intro m; exact w.la (by simp at m; simp [m])
theorem Wk.kput (w : Wk a b p l P n x y z H) {H0 : Hp} (k : Kp [l, a, b] H0 H) (x' y' z' : Int) : Kp [l, a, b] H0 (L2.upd H l (.lst [.int x', .int y', .int z'])) := k.put (by simp) w.left (o := _)
theorem Kp.up {H0 : Hp} (k : Kp [a, b] H0 H) : Kp [l, a, b] H0 H := k.mono (by intro x hx; simp at hx ⊢; exact .inr hx)
end
/-- a tuple of steps -/
def LsAt (K : PySem.W.Frag) (H : Hp) (r : V) (ts : List Stp) : Prop := ∃ (t : Addr) (vs : List V), r = .ref t ∧ SqT K H t vs ∧ TpA K H vs (Stp.ds ts)
theorem LsAt.keep {K : PySem.W.Frag} {S : List Addr} {H H' : Hp} {r : V} {ts : List Stp} (h : LsAt K H r ts) (k : Kp S H H') : LsAt K H' r ts := by
  obtain ⟨t, vs, e, h1, h2⟩ := h
  exact ⟨t, vs, e, k.seqT h1, h2.keep k⟩
theorem LsAt.tp {K : PySem.W.Frag} {H : Hp} {r : V} {ts : List Stp} (h : LsAt K H r ts) : Tp K H r (Itm.l ts).d := by
  obtain ⟨t, vs, rfl, h1, h2⟩ := h
  simp only [Itm.d]
  exact .tup h1 h2

section
variable (K : PySem.W.Frag)
def spStep (k : Nat) : Sp := fun vs H Q _ => ∃ (a b p l : Addr) (n : Nat) (P : Pool) (x y z : Int), vs = [.ref a, .ref p, .ref l, .int k] ∧ Wk a b p l P (n + cS k) x y z H ∧ 0 < z ∧
  ∀ (r : V) (t : Stp) (x' y' z' : Int) (H' : Hp), Tp K H' r t.d → Gd P (2 * k + 3) (wS k) t → Wk a b p l P n x' y' z' H' → Ct x y z x' y' z' t.cn t.tn t.nn → Kp [l, a, b] H H' → Q r H'
/-- j is deep + 1 -/
def spSteps : Nat → Sp
  | 0 => fun _ _ _ _ => False
  | k + 1 => fun vs H Q _ => ∃ (a b p l : Addr) (n : Nat) (P : Pool) (x y z : Int), vs = [.ref a, .ref p, .ref l, .int k] ∧ Wk a b p l P (n + (1 + 3 * cS k)) x y z H ∧ -4 ≤ z ∧
    ∀ (r : V) (ts : List Stp) (x' y' z' : Int) (H' : Hp), LsAt K H' r ts → GdL P (2 * k + 3) (3 * (wS k + 2)) ts → Wk a b p l P n x' y' z' H' → Ct x y z x' y' z' (Stp.cnL ts) (Stp.tnL ts) (Stp.nnL ts) → Kp [l, a, b] H H' → Q r H'
/-- a step that has lists: j is deep + 1; u is what was left of steps ahead of it -/
def spDeep (ch : Bool) : Nat → Sp
  | 0 => fun _ _ _ _ => False
  | k + 1 => fun vs H Q _ => ∃ (a b p l : Addr) (n : Nat) (P : Pool) (x y z u : Int), vs = [.ref a, .ref p, .ref l, .int k] ∧ Wk a b p l P (n + (58 + 3 * (1 + 3 * cS k))) x y z H ∧ 0 ≤ z ∧ u = z + 1 ∧ (if ch = true then 0 < x else 0 < y) ∧
    ∀ (r : V) (t : Stp) (x' y' z' : Int) (H' : Hp), Tp K H' r t.d → Gd P (2 * (k + 1) + 3) (wS (k + 1)) t → Wk a b p l P n x' y' z' H' → Ct x y u x' y' z' t.cn t.tn t.nn → Kp [l, a, b] H H' → Q r H'
def spTimes : Sp := fun vs H Q _ => ∃ (a b p l : Addr) (n : Nat) (P : Pool) (x y z u : Int), vs = [.ref a, .ref p, .ref l] ∧ Wk a b p l P (n + 58) x y z H ∧ 0 ≤ z ∧ u = z + 1 ∧
    ∀ (r : V) (t : Stp) (x' y' z' : Int) (H' : Hp), Tp K H' r t.d → Gd P 5 3950 t → Wk a b p l P n x' y' z' H' → Ct x y u x' y' z' t.cn t.tn t.nn → Kp [l, a, b] H H' → Q r H'
def spPlains : Sp := fun vs H Q _ => ∃ (a b p : Addr) (n : Nat) (P : Pool) (m : Int), vs = [.ref a, .ref p, .int m] ∧ 0 ≤ m ∧ m ≤ 2 ∧ Spr a b (n + 25) H ∧ PoolAt H p P ∧
  ∀ (r : V) (ts : List Stp) (H' : Hp), LsAt K H' r ts → GdL P 1 1506 ts → (ts.length : Int) ≤ m → Spr a b n H' → Kp [a, b] H H' → Q r H'
end
end Hb
set_option maxHeartbeats 4000000
/-! zip and enumerate of lists, tuples and texts, each with each. -/
namespace Hb
open PySem PySem.Spec PyProof.Rows L2
inductive Bk where
  | l (a : Addr)
  | t (a : Addr)
  | s (x : Str)
def Bk.v : Bk → V
  | .l a => .ref a
  | .t a => .ref a
  | .s x => .str x
def Bk.has (K : PySem.W.Frag) : Bk → Hp → List V → Prop
  | .l a, H, xs => SqL K H a xs
  | .t a, H, xs => SqT K H a xs
  | .s x, _, xs => xs = x.cps.toList.map fun c => V.str ⟨#[c]⟩
/-- the iterator at it stands at i -/
def Bk.it : Bk → Addr → Nat → Heap → Prop
  | .l a, it, i, h => h.IsListIter it a i
  | .t a, it, i, h => h.IsTupleIter it a i
  | .s x, it, i, h => ∃ t, h.IsStrIter it (strIterType x) x t i
/-- its object is older than N -/
def Bk.old : Bk → Nat → Prop
  | .l a, N => a < N
  | .t a, N => a < N
  | .s _, _ => True
theorem Bk.it_obj {b : Bk} {it i : Nat} {h : Heap} (x : b.it it i h) : ∃ o, h.get? it = some o ∧ ∀ v, o.data ≠ .cell v := by
  cases b with
  | l a => obtain ⟨o, e, _, d⟩ := x; exact ⟨o, e, fun v q => by rw [d] at q; cases q⟩
  | t a => obtain ⟨o, e, _, d⟩ := x; exact ⟨o, e, fun v q => by rw [d] at q; cases q⟩
  | s z => obtain ⟨t, o, e, _, d⟩ := x; exact ⟨o, e, fun v q => by rw [d] at q; cases q⟩
theorem Bk.it_at {b : Bk} {it i : Nat} {h h' : Heap} (x : b.it it i h) (k : ∀ o, h.get? it = some o → h'.get? it = some o) : b.it it i h' := by
  cases b with
  | l a => exact x.at k
  | t a => exact x.at k
  | s z => obtain ⟨t, o, e, r⟩ := x; exact ⟨t, o, k o e, r⟩
section
variable {X : Cx} {pins : List (Addr × Obj)} {σ : L2.St} {H : Hp} {s : Shared} {A : Around}
/-- what the iterator will give, of the things as they stand -/
theorem Bk.draws (I : Inv X pins σ H s) (hh : A.handled = none) {b : Bk} {xs : List V} (hb : b.has X.K H xs) {N it i : Nat} (ho : b.old N) (hN : N ≤ it) (hit : b.it it i s.heap) :
    ∃ (fp : List Addr) (P : Nat → Value → Prop) (St : Nat → Heap → Prop), Draws X.prog X.w A it (it :: fp) xs.length P St ∧ (∀ c ∈ fp, c < N) ∧ (∀ j v, P j v → ∃ x, xs[j]? = some x ∧ RelV x v) ∧ St i s.heap ∧ ∀ j h, St j h → b.it it j h := by
  cases b with
  | l a =>
    obtain ⟨its, rv, p, _⟩ := I.list hb
    have hne : a ≠ it := Nat.ne_of_lt (Nat.lt_of_lt_of_le ho hN)
    have D := Draws.list (prog := X.prog) (w := X.w) hh it a hne its.toArray
    rw [List.size_toArray, ← rv.length] at D
    refine ⟨[a], _, _, D, fun c hc => by simp at hc; subst hc; exact ho, fun j v hv => ?_, ⟨hit, p.isList⟩, fun j h st => st.1⟩
    have hv' : its[j]? = some v := by simpa using hv
    have hj : j < xs.length := by rw [rv.length]; exact (List.getElem?_eq_some_iff.mp hv').1
    obtain ⟨u, hu, ru⟩ := rv.get (List.getElem?_eq_getElem hj)
    rw [hu] at hv'
    cases hv'
    exact ⟨_, List.getElem?_eq_getElem hj, ru⟩
  | t a =>
    obtain ⟨its, rv, p, _⟩ := I.tuple hb
    have hne : a ≠ it := Nat.ne_of_lt (Nat.lt_of_lt_of_le ho hN)
    have D := Draws.tuple (prog := X.prog) (w := X.w) hh it a hne its.toArray
    rw [List.size_toArray, ← rv.length] at D
    refine ⟨[a], _, _, D, fun c hc => by simp at hc; subst hc; exact ho, fun j v hv => ?_, ⟨hit, p⟩, fun j h st => st.1⟩
    have hv' : its[j]? = some v := by simpa using hv
    have hj : j < xs.length := by rw [rv.length]; exact (List.getElem?_eq_some_iff.mp hv').1
    obtain ⟨u, hu, ru⟩ := rv.get (List.getElem?_eq_getElem hj)
    rw [hu] at hv'
    cases hv'
    exact ⟨_, List.getElem?_eq_getElem hj, ru⟩
  | s x =>
    obtain ⟨t, ht⟩ := hit
    have D := Draws.text (prog := X.prog) (w := X.w) hh it x t
    have hb' : xs = x.cps.toList.map fun c => V.str ⟨#[c]⟩ := hb
    have e : x.cps.size = xs.length := by rw [hb', List.length_map, Array.length_toList]
    rw [e] at D
    refine ⟨[], _, _, D, by simp, fun j v hv => ?_, ht, fun j h st => ⟨t, st⟩⟩
    obtain ⟨c, u, hc, rfl⟩ := hv
    refine ⟨.str ⟨#[c]⟩, ?_, ⟨u, rfl⟩⟩
    rw [hb', List.getElem?_map, Array.getElem?_toList, hc]
    rfl
theorem Bk.inj (I : Inv X pins σ H s) {b : Bk} {xs ys : List V} (h1 : b.has X.K H xs) (h2 : b.has X.K H ys) : xs = ys := by
  cases b with
  | l a => exact I.list_inj h1 h2
  | t a => exact I.tuple_inj h1 h2
  | s x => exact (show xs = _ from h1).trans (show ys = _ from h2).symm
end
def Itq (K : PySem.W.Frag) (b1 b2 : Bk) : It :=
  ⟨fun i H => ∃ (xs ys : List V) (x y : V), b1.has K H xs ∧ b2.has K H ys ∧ xs[i]? = some x ∧ ys[i]? = some y,
   fun i H v H' => ∃ T x y, v = .ref T ∧ H T = none ∧ H' = upd H T (.tup [x, y]) ∧ (∀ xs, b1.has K H xs → xs[i]? = some x) ∧ ∀ ys, b2.has K H ys → ys[i]? = some y,
   fun i H => ∃ xs ys : List V, b1.has K H xs ∧ b2.has K H ys ∧ i = min xs.length ys.length⟩
theorem turn_zq {P : Program} {w : World} {K : PySem.W.Frag} {elts : List Expr} {kk : Nat} {tpos : Pos} {b1 b2 : Bk} {N : Nat} (o1 : b1.old N) (o2 : b2.old N) :
    Turn P w K (.Tuple elts kk tpos) (Itq K b1 b2) [N + 4, N + 2, N + 3, N, N + 1] (N + 4)
      (fun i h => IsZip h (N + 4) (N + 2) (N + 3) .none ∧ IsTupOf2 h (N + 2) (.ref N) (.ref (N + 1)) ∧ (∃ x y, IsTupOf2 h (N + 3) x y) ∧ b1.it N i h ∧ b2.it (N + 1) i h) where
  mem := by simp
  obj := fun i h st c hc => by
    obtain ⟨hz, hTI, ⟨x, y, hTO⟩, h1, h2⟩ := st
    have e' : c = N + 4 ∨ c = N + 2 ∨ c = N + 3 ∨ c = N ∨ c = N + 1 := by simpa using hc
    rcases e' with rfl | rfl | rfl | rfl | rfl
    · exact ⟨_, hz, fun v q => nomatch q⟩
    · exact ⟨_, hTI, fun v q => nomatch q⟩
    · exact ⟨_, hTO, fun v q => nomatch q⟩
    · exact Bk.it_obj h1
    · exact Bk.it_obj h2
  keep := fun i h h' st k => by
    obtain ⟨hz, hTI, ⟨x, y, hTO⟩, h1, h2⟩ := st
    exact ⟨k _ (by simp) _ hz, k _ (by simp) _ hTI, ⟨x, y, k _ (by simp) _ hTO⟩, Bk.it_at h1 (fun o q => k _ (by simp) o q), Bk.it_at h2 (fun o q => k _ (by simp) o q)⟩
  item := by
    intro X hP hw hK hc i pins s σ H E I hf st hg
    subst hP hw hK
    obtain ⟨hz, hTI, ⟨x0, y0, hTO⟩, h1, h2⟩ := st
    obtain ⟨xs, ys, x, y, hqx, hqy, hx, hy⟩ := hg
    have hh : X.A.in1.handled = none := I.ok.hd hc
    obtain ⟨fp1, P1, St1, D1, ol1, rel1, st1, back1⟩ := Bk.draws (A := X.A.in1) I hh hqx o1 (Nat.le_refl N) h1
    obtain ⟨fp2, P2, St2, D2, ol2, rel2, st2, back2⟩ := Bk.draws (A := X.A.in1) I hh hqy o2 (Nat.le_succ N) h2
    have S := zip_sep2 ol1 ol2
    have l1 := (List.getElem?_eq_some_iff.mp hx).1
    have l2 := (List.getElem?_eq_some_iff.mp hy).1
    have hzl : N + 4 < s.heap.objs.size := Heap.lt_size hz
    refine wpAny_pyNext_zipD2_item S D1 D2 hz hTI hTO st1 st2 l1 l2 fun u1 u2 h' tk p1 p2 z' TO' s1' s2' hT hsz hk => ?_
    obtain ⟨x', hx', ru1⟩ := rel1 _ _ p1
    obtain ⟨y', hy', ru2⟩ := rel2 _ _ p2
    rw [hx] at hx'
    rw [hy] at hy'
    cases hx'
    cases hy'
    refine ⟨_, rfl, ?_⟩
    refine wpAny_letOwnedTupleGo_zip (s := { s with heap := h', toks := tk }) z' fun h'' z'' sb => ?_
    have hT2 : h''.get? s.heap.objs.size = some { cls := .type "tuple", data := .seq #[u1, u2] } := (sb.2 _ (Nat.ne_of_gt hzl)).trans hT
    have new : ObjOk X.prog X.w (upd H s.heap.objs.size (.tup [x, y])) h'' s.heap.objs.size (.tup [x, y]) :=
      ⟨by show 2 ≤ sizeLine; decide, [u1, u2], .cons ru1 (.cons ru2 .nil), ⟨_, hT2, rfl, _, rfl⟩⟩
    have I1 : Inv X pins σ (upd H s.heap.objs.size (.tup [x, y])) { s with heap := h'', toks := tk } := by
      refine I.turnedNew (ch := [N + 4, N + 2, N + 3, N, N + 1]) (fun c o hb q => ?_) hf (Nat.le_refl _) new
      refine (sb.2 c (fun q' => hb (by simp [q']))).trans (hk c o (fun q' => hb (by simp [q'])) (fun q' => hb (by simp [q'])) (fun q' => hb (by simp [q'])) (fun q' => hb (by simp [q'])) q)
    refine ⟨.ref s.heap.objs.size, _, I1, rfl, ⟨_, x, y, rfl, I.hok.fresh (Nat.le_refl _), rfl, fun l hl => ?_, fun l hl => ?_⟩, ⟨z'', ?_, ⟨u1, u2, ?_⟩, ?_, ?_⟩, fun c hcm => ?_⟩
    · rw [Bk.inj I hl hqx]; exact hx
    · rw [Bk.inj I hl hqy]; exact hy
    · exact (sb.2 _ S.TIz).trans (hk _ _ S.TIz S.TITO S.TIi1 S.TIi2 hTI)
    · exact (sb.2 _ S.TOz).trans TO'
    · exact Bk.it_at (back1 _ _ s1') fun o q => (sb.2 _ (show (N : Nat) ≠ N + 4 by omega)).trans q
    · exact Bk.it_at (back2 _ _ s2') fun o q => (sb.2 _ (show (N + 1 : Nat) ≠ N + 4 by omega)).trans q
    · have hlt : c < s.heap.objs.size := by
        have e' : c = N + 4 ∨ c = N + 2 ∨ c = N + 3 ∨ c = N ∨ c = N + 1 := by simpa using hcm
        have hle : c ≤ N + 4 := by
          rcases e' with q | q | q | q | q
          · rw [q]; exact Nat.le_refl _
          · rw [q]; exact Nat.add_le_add_left (by decide) _
          · rw [q]; exact Nat.add_le_add_left (by decide) _
          · rw [q]; exact Nat.le_add_right _ _
          · rw [q]; exact Nat.add_le_add_left (by decide) _
        exact Nat.lt_of_le_of_lt hle hzl
      rw [upd_ne (Nat.ne_of_lt hlt)]
      exact (hf c hcm).1
  done := by
    intro X hP hw hK hc i pins s σ H E I hf st hg
    subst hP hw hK
    obtain ⟨hz, hTI, ⟨x0, y0, hTO⟩, h1, h2⟩ := st
    obtain ⟨xs, ys, hqx, hqy, hend⟩ := hg
    have hh : X.A.in1.handled = none := I.ok.hd hc
    obtain ⟨fp1, P1, St1, D1, ol1, rel1, st1, back1⟩ := Bk.draws (A := X.A.in1) I hh hqx o1 (Nat.le_refl N) h1
    obtain ⟨fp2, P2, St2, D2, ol2, rel2, st2, back2⟩ := Bk.draws (A := X.A.in1) I hh hqy o2 (Nat.le_succ N) h2
    have S := zip_sep2 ol1 ol2
    refine wpAny_pyNext_zipD2_end S D1 D2 hz hTI hTO st1 st2 (by omega) (by omega) (by omega) fun h' tk hk => ⟨rfl, ?_⟩
    exact I.turnedL (ch := [N + 4, N + 2, N + 3, N, N + 1]) (fun c o hb q => hk c o (fun q' => hb (by simp [q'])) (fun q' => hb (by simp [q'])) (fun q' => hb (by simp [q'])) (fun q' => hb (by simp [q'])) q) hf
  self := fun A i s Q E st h => wpAny_pyIter_zip st.1 h
def Bk.obj : Bk → Value → Obj
  | .l a, _ => { cls := .type "list_iterator", data := .fields #[.ref a, .int 0 0] }
  | .t a, _ => { cls := .type "tuple_iterator", data := .fields #[.ref a, .int 0 0] }
  | .s x, u => { cls := .type (strIterType x), data := .fields #[u, .int 0 0] }
section
variable {X : Cx} {pins : List (Addr × Obj)} {σ : L2.St} {H : Hp} {s : Shared} {A : Around}
theorem Bk.begins (I : Inv X pins σ H s) {b : Bk} {xs : List V} (hb : b.has X.K H xs) {u : Value} (r : RelV b.v u) :
    ∃ Hh : Heap → Prop, Begins u (b.obj u) Hh ∧ Hh s.heap ∧ b.old s.heap.objs.size ∧ ∀ (h : Heap) (it : Nat), h.get? it = some (b.obj u) → b.it it 0 h := by
  cases b with
  | l a =>
    obtain rfl : u = Value.ref a := r
    obtain ⟨its, rv, p, _⟩ := I.list hb
    exact ⟨_, begins_list a its.toArray, p.isList, p.lt, fun h it e => ⟨_, e, rfl, rfl⟩⟩
  | t a =>
    obtain rfl : u = Value.ref a := r
    obtain ⟨its, rv, p, _⟩ := I.tuple hb
    obtain ⟨o, ho, _⟩ := id p
    exact ⟨_, begins_tuple a its.toArray, p, Heap.lt_size ho, fun h it e => ⟨_, e, rfl, rfl⟩⟩
  | s x =>
    obtain ⟨t, rfl⟩ := (show ∃ t, u = Value.str x t from r)
    exact ⟨_, begins_text x t, trivial, trivial, fun h it e => ⟨t, _, e, rfl, rfl⟩⟩
end
def iZq (K : PySem.W.Frag) (ta : TA) : TI := fun σ H R => ta σ H fun vs H1 => ∃ (b1 b2 : Bk) (xs ys : List V), vs = [b1.v, b2.v] ∧ b1.has K H1 xs ∧ b2.has K H1 ys ∧ R (Itq K b1 b2) H1
theorem pi_zq {X : Cx} {e e2 : Expr} {ta : TA} {p pos tpos : Pos} {elts : List Expr} {kk : Nat} (hg : Gl X "zip") (hm : X.mg "zip" = none) (ha : PA X [e, e2] ta)
    (hs : starEach [e, e2] X.env = (false, eval e X.env) :: starEach [e2] X.env := by rfl) (hpl : (backTo pos (starEach [e2] X.env)).any (·.1) = false := by rfl) :
    PI X (.Tuple elts kk tpos) (.Call (.Name "zip" p) [e, e2] [] pos) (iZq X.K ta) := by
  constructor
  intro pins s σ H R I h
  refine Call_ (ld_blt I hg hm PyProof.Rows.boot_zip ?_)
  refine PyProof.Rows.callWith_type1 ?_ hs hpl
  refine thn (ha.run pos pins s σ H _ I h) ?_
  rintro us s1 ⟨vs, H1, I1, r1, b1, b2, xs, ys, rfl, hx, hy, q⟩
  cases r1 with
  | cons r rr =>
    cases rr with
    | cons r' rr =>
      cases rr
      obtain ⟨Hh1, B1, a1, o1, i1⟩ := Bk.begins I1 hx r
      obtain ⟨Hh2, B2, a2, o2, i2⟩ := Bk.begins I1 hy r'
      refine zip_begins2 B1 B2 a1 a2 fun h' hz hTI hTO h1 h2 hsz hk => wpAny_pyIter_zip hz ?_
      have I2 : Inv X pins σ H1 { s1 with heap := h' } := I1.kept (t' := s1.toks) hk
      refine ⟨s1.heap.objs.size + 4, _, _, _, H1, rfl, I2, turn_zq o1 o2, ⟨hz, hTI, ⟨_, _, hTO⟩, i1 _ _ h1, i2 _ _ h2⟩, fun c hcm => ?_, q⟩
      have hle : s1.heap.objs.size ≤ c := by
        have e' : c = s1.heap.objs.size + 4 ∨ c = s1.heap.objs.size + 2 ∨ c = s1.heap.objs.size + 3 ∨ c = s1.heap.objs.size ∨ c = s1.heap.objs.size + 1 := by simpa using hcm
        rcases e' with q | q | q | q | q
        · rw [q]; exact Nat.le_add_right _ _
        · rw [q]; exact Nat.le_add_right _ _
        · rw [q]; exact Nat.le_add_right _ _
        · rw [q]; exact Nat.le_refl _
        · rw [q]; exact Nat.le_add_right _ _
      exact I1.fpOk (hle) (I1.hok.fresh (hle))
theorem walk_zq {K : PySem.W.Frag} {b1 b2 : Bk} {xs ys : List V} {n : Nat} (hn : n = min xs.length ys.length) :
    Walk (Itq K b1 b2) n (fun H => b1.has K H xs ∧ b2.has K H ys) (YPair (fun i => xs[i]?) (fun i => ys[i]?)) := by
  subst hn
  refine ⟨fun i H hi q => ?_, fun H q => ⟨xs, ys, q.1, q.2, rfl⟩, fun i H v H' _ q y => ?_⟩
  · have h1 : i < xs.length := by omega
    have h2 : i < ys.length := by omega
    exact ⟨xs, ys, xs[i], ys[i], q.1, q.2, List.getElem?_eq_getElem h1, List.getElem?_eq_getElem h2⟩
  · obtain ⟨T, x, z, e1, e2, e3, e4, e5⟩ := y
    exact ⟨T, x, z, e1, e2, e3, e4 xs q.1, e5 ys q.2⟩
end Hb
set_option maxHeartbeats 4000000
namespace Hb
open PySem PySem.Spec PyProof.Rows L2
abbrev st_names : Stmt := top 33
theorem sc_names : FnScope ["_law_stream", "_law_many", "_law_names_here", "_law_k", "_law_name_here", "_law_spare", "_law_letter", "_law_one"] ["_law_stream", "_law_many"] (defScope st_names) := ⟨rfl, rfl, rfl, by decide +kernel, rfl, by decide +kernel, by decide +kernel⟩
instance (x : Str) : Decidable (okName x) := by unfold okName; infer_instance
def zs8 : List Str := ("abcdefgh" : Str).cps.toList.map fun c => ((⟨#[c]⟩ : Str) ++ "z") ++ ⟨#[c]⟩
theorem zs8_ok : ∀ z ∈ zs8, okName z ∧ z.length ≠ 4 := by decide +kernel
theorem zs8_nd : zs8.Nodup := by decide +kernel
theorem zs8_len : zs8.length = 8 := by decide +kernel
theorem pigeon {α : Type} [DecidableEq α] : ∀ {l m : List α}, l.Nodup → (∀ x ∈ l, x ∈ m) → l.length ≤ m.length
  | [], m, _, _ => Nat.zero_le _
  | x :: l, m, nd, h => by
    have hx := h x List.mem_cons_self
    have nd' := List.nodup_cons.mp nd
    have h1 := pigeon (l := l) (m := m.erase x) nd'.2 fun y hy => by
      have hne : y ≠ x := fun e => nd'.1 (e ▸ hy)
      exact (List.mem_erase_of_ne hne).mpr (h y (List.mem_cons_of_mem _ hy))
    have h2 := List.length_erase_of_mem hx
    have h3 := List.length_pos_of_mem hx
    rw [List.length_cons]
    omega
theorem fresh_one {xs : List Str} (x : Str) (h : xs.length ≤ 7) : ∃ y ys, (x :: zs8).filter (fun y => decide (y ∉ xs)) = y :: ys := by
  rcases e : (x :: zs8).filter (fun y => decide (y ∉ xs)) with _ | ⟨y, ys⟩
  · exfalso
    have h1 : ∀ z ∈ zs8, z ∈ xs := fun z hz => by
      have := List.filter_eq_nil_iff.mp e z (List.mem_cons_of_mem _ hz)
      simpa using this
    have := pigeon zs8_nd h1
    rw [zs8_len] at this
    omega
  · exact ⟨y, ys, rfl⟩
theorem inV_strs (y : Str) (xs : List Str) : inV (.str y) (xs.map V.str) = decide (y ∈ xs) := by
  have e : inV (.str y) (xs.map V.str) = xs.any (fun z => z == y) := by
    unfold inV
    rw [List.any_map]
    rfl
  rw [e, Bool.eq_iff_iff, List.any_eq_true, decide_eq_true_iff]
  constructor
  · rintro ⟨z, hz, e⟩
    rw [← beq_iff_eq.mp e]
    exact hz
  · intro h
    exact ⟨y, h, beq_iff_eq.mpr rfl⟩
theorem flat_strs (xs : List Str) : (xs.map V.str).all flatV = true := by
  rw [List.all_eq_true]
  intro x hx
  obtain ⟨z, _, rfl⟩ := List.mem_map.mp hx
  rfl
theorem at0 (y : Str) (ys : List Str) : atI ((y :: ys).map V.str) 0 = some (.str y) := by
  have h : ((y :: ys).map V.str)[0]? = some (.str y) := rfl
  have q := atI_nat h
  exact q
def spNames : Sp := fun vs H Q _ => ∃ (a b : Addr) (n : Nat) (m : Nat), vs = [.ref a, .int m] ∧ m ≤ 7 ∧ Spr a b (n + 63) H ∧
  ∀ (r : Addr) (xs : List Str) (H' : Hp), xs.length = m → xs.Nodup → (∀ x ∈ xs, okName x ∧ x.length ≠ 4) → H r = none → H' r = some (.lst (xs.map V.str)) → Spr a b n H' → Kp [a, b] H H' → Q (.ref r) H'
section
variable {P : Program} {w : World} {K : PySem.W.Frag} {mg : Str → Option Value} {base : Heap} {f f1 : Addr} {fd fd1 : FuncData}
theorem ok_names (D : Df K mg "_law_names" st_names ["_law_stream", "_law_many"] f fd) (G_name : FnOk P w K mg base CX0 3 f1 fd1 ["_law_stream"] spName) (D_name : Df K mg "_law_name" st_name ["_law_stream"] f1 fd1) (B : Bl mg) : FnOk P w K mg base CX0 4 f fd ["_law_stream", "_law_many"] spNames := by
  refine D.fn.ok sc_names (fun vs H Q E h => ?_) (fun cdv A outer s H vs Q E hr h => ?_)
  · obtain ⟨a, b, n, m, rfl, _⟩ := h
    rfl
  obtain ⟨a, b, n, m, rfl, hm, hS, q⟩ := h
  have nd := sc_names.nd
  refine ⟨_, PSs.nox (pss_cons (ps_set (i := 2) nd rfl (.inr rfl) (pe_lst pa_nil))
    (pss_cons (ps_for PassesOwn.never rfl (pi_range1 rfl B.range (pa_cons (pv 1) pa_nil)) (pg_name (i := 3) nd rfl (.inl rfl))
      (pss_cons (ps_set (i := 4) nd rfl (.inl rfl) (pe_call G_name (hr.mono (by decide)) (by rfl) D_name.gl D_name.fn.kp D_name.bd .nil pass0 (pa_cons (pv 0) pa_nil)))
      (pss_cons (ps_set (i := 5) nd rfl (.inl rfl) (pe_op op_cat (pe_lst (pa_cons (pv 4) pa_nil)) (pe_lc (own := [("_law_letter", 6)]) (g := gName 6) (tt := tYes) rfl nd (pi_str pe_str)
        (blkOk_by (own := [("_law_letter", 6)]) (N := ["_law_stream", "_law_many", "_law_names_here", "_law_k", "_law_name_here", "_law_spare", "_law_letter", "_law_one"]) (sc := defScope st_names) (by decide +kernel)) (fun _ _ _ _ _ => pg_name (i := 6) nd rfl (Or.inl rfl)) (fun _ _ _ _ _ => pts_nil)
        (fun _ _ _ _ _ => pe_op op_add_str (pe_op op_add_str (pv 6) pe_str) (pv 6)))))
      (pss_one (ps_expr (pe_bm PySem.F.plainAttrs_list PySem.F.slot_list_append PySem.F.type_list_append mt_append (pv 2) (pa_cons (pe_ix ix_list (pe_lc (own := [("_law_one", 7)]) (g := gName 7) rfl nd (pi_list (pv 5))
        (blkOk_by (own := [("_law_one", 7)]) (N := ["_law_stream", "_law_many", "_law_names_here", "_law_k", "_law_name_here", "_law_spare", "_law_letter", "_law_one"]) (sc := defScope st_names) (by decide +kernel)) (fun _ _ _ _ _ => pg_name (i := 7) nd rfl (Or.inl rfl)) (fun _ _ _ _ _ => by (apply PTs.to); (focus (exact pts_one (pt_cmpR op_notIn_seq (pv 7) (pv 2) (by rfl)))); (focus ((try dsimp only [Cx.blk, Cx.nox, cxOf]); (try exact rfl))))
        (fun _ _ _ _ _ => pv 7)) pe_int (fun _ _ => rfl)) pa_nil)))))))
    (pss_one (ps_ret (pv 2))))), ?_⟩
  refine ⟨by decide, fun nm hnm => ?_⟩
  have hnS := hS.sep.free hnm
  have nS := hS.upd hnm (.lst [])
  refine ⟨_, rfl, (m : Int), rfl, by omega, by omega, for_range (lo := 0) (n := ((m : Int)).toNat) (fun i σ H' => ∃ (v3 v4 v5 : Option V) (xs : List Str), σ = [some (.ref a), some (.int m), some (.ref nm), v3, v4, v5, none, none] ∧ H' nm = some (.lst (xs.map V.str)) ∧ xs.length = i ∧ xs.Nodup ∧ (∀ x ∈ xs, okName x ∧ x.length ≠ 4) ∧
     Spr a b (n + (63 - 9 * i)) H' ∧ Kp [a, b] H H') ?_ ?_ ?_⟩
  · exact ⟨none, none, none, [], rfl, upd_same, rfl, List.nodup_nil, by simp, nS, (Kp.refl _ _).new hnm _⟩
  · rintro i σ H' hi ⟨v3, v4, v5, xs, rfl, e1, hl, hnd, hok, hs, k⟩
    refine ⟨_, rfl, a, b, n + (63 - 9 * (i + 1)), rfl, hs.less (by omega), fun x H1 hx hx4 s1 k1 => ?_⟩
    have e1' := k1.keep _ _ e1 hnS
    refine ⟨_, rfl, by show 1 ≤ sizeLine; decide, fun l1 hl1 => ?_⟩
    refine ⟨_, rfl, fun D' hD => ?_⟩
    have nlD : l1 ≠ D' := fun e => by rw [← e, upd_same] at hD; cases hD
    have hD1 : H1 D' = none := by rw [upd_ne nlD.symm] at hD; exact hD
    have hD1' : upd H1 l1 (.lst [.str x]) D' = none := hD
    refine lc_it walk_str (fun j H2 => H2 D' = some (.lst ((zs8.take j).map V.str)) ∧ Kp [] (upd H1 l1 (.lst [.str x])) H2) ?_ (fun _ _ _ _ => trivial) ?_ ?_
    · exact ⟨upd_same, (Kp.refl _ _).new hD _⟩
    · rintro j y σ2 H2 hj ⟨d1, d2⟩ ⟨rfl, c, hc, rfl⟩
      have ez : zs8[j]? = some (((⟨#[c]⟩ : Str) ++ "z") ++ ⟨#[c]⟩) := by
        unfold zs8
        rw [List.getElem?_map, show ("abcdefgh" : Str).cps.toList[j]? = some c by rw [Array.getElem?_toList]; exact hc]
        rfl
      have et : zs8.take (j + 1) = zs8.take j ++ [((⟨#[c]⟩ : Str) ++ "z") ++ ⟨#[c]⟩] := by rw [List.take_add_one, ez]; rfl
      have l1' : ("z" : Str).length = 1 := by decide +kernel
      have l2' : (⟨#[c]⟩ : Str).length = 1 := rfl
      refine ⟨rfl, ?_⟩
      refine ⟨_, rfl, _, _, rfl, rfl, by rw [l1', l2', sizeLine_eq]; decide, _, rfl, _, _, rfl, rfl, by rw [strLen_append, l1', l2', sizeLine_eq]; decide, ?_⟩
      refine ⟨_, d1, ?_, by rw [upd_same, et, List.map_append]; rfl, d2.own hD1' _⟩
      have := List.length_take_le' j zs8
      rw [zs8_len] at this
      rw [List.length_map, sizeLine_eq]
      omega
    · rintro H2 ⟨d1, d2⟩
      have ea : zs8.take ("abcdefgh" : Str).cps.size = zs8 := by
        apply List.take_of_length_le
        rw [zs8_len]
        decide +kernel
      rw [ea] at d1
      have k12 : Kp [] H1 H2 := ((Kp.refl [] H1).new hl1 _).trans d2
      have f1 : H2 l1 = some (.lst [.str x]) := d2.keep _ _ upd_same (by simp)
      refine ⟨l1, D', _, _, rfl, rfl, f1, d1, by show 1 + (zs8.map V.str).length ≤ sizeLine; rw [List.length_map, zs8_len, sizeLine_eq]; decide, fun sp hsp => ?_⟩
      have e2 := k12.keep _ _ e1' (by simp)
      have hsp1 : H1 sp = none := k12.free hsp (by simp)
      have k13 : Kp [] H1 (upd H2 sp (.lst ([.str x] ++ zs8.map V.str))) := k12.new hsp _
      have e3 : upd H2 sp (.lst ([.str x] ++ zs8.map V.str)) nm = some (.lst (xs.map V.str)) := by rw [upd_ne (ne_of_none e2 hsp)]; exact e2
      have e4 : upd H2 sp (.lst ([.str x] ++ zs8.map V.str)) sp = some (.lst ((x :: zs8).map V.str)) := upd_same
      refine ⟨_, rfl, .inl ⟨rfl, _, SqL.of e3⟩, _, rfl, sp, rfl, ⟨_, SqL.of e4⟩, fun E1 hE => ?_⟩
      refine lc_list (K := K) (a := sp) (xs := (x :: zs8).map V.str) (fun j H4 => H4 E1 = some (.lst ((((x :: zs8).take j).filter (fun y => decide (y ∉ xs))).map V.str)) ∧ Kp [] (upd H2 sp (.lst ([.str x] ++ zs8.map V.str))) H4) ?_ ?_ ?_ ?_
      · exact ⟨upd_same, (Kp.refl _ _).new hE _⟩
      · rintro j H4 hj ⟨d3, d4⟩
        exact SqL.of (d4.keep _ _ e4 (by simp))
      · rintro j y H4 hj ⟨d3, d4⟩
        have hjl : j < (x :: zs8).length := by
          have := (List.getElem?_eq_some_iff.mp hj).1
          rwa [List.length_map] at this
        obtain rfl : y = V.str ((x :: zs8)[j]) := by
          rw [List.getElem?_map, List.getElem?_eq_getElem hjl] at hj
          exact (Option.some.inj hj).symm
        have tk : (x :: zs8).take (j + 1) = (x :: zs8).take j ++ [(x :: zs8)[j]] := by rw [List.take_append_getElem]
        generalize (x :: zs8)[j] = yy at tk
        have hlen : (((x :: zs8).take j).filter (fun y => decide (y ∉ xs))).length ≤ 9 := by
          have h1 := List.length_filter_le (fun y => decide (y ∉ xs)) ((x :: zs8).take j)
          have h2 := List.length_take_le' j (x :: zs8)
          rw [List.length_cons, zs8_len] at h2
          omega
        refine ⟨rfl, ?_⟩
        refine ⟨_, rfl, _, rfl, nm, xs.map V.str, rfl, .inl (SqL.of (d4.keep _ _ e3 (by simp))), rfl, flat_strs xs, _, rfl, ?_⟩
        refine ite2 (fun c => ?_) (fun c => ?_)
        · have hc : yy ∉ xs := by
            have : (!inV (.str yy) (xs.map V.str)) = true := c
            rw [inV_strs] at this
            simpa using this
          refine ⟨_, rfl, _, d3, by rw [List.length_map, sizeLine_eq]; omega, ?_, d4.own hE _⟩
          rw [upd_same, tk, List.filter_append, List.map_append]
          have : [yy].filter (fun y => decide (y ∉ xs)) = [yy] := by simp [hc]
          rw [this]
          rfl
        · have hc : yy ∈ xs := by
            have : ¬ (!inV (.str yy) (xs.map V.str)) = true := c
            rw [inV_strs] at this
            simpa using this
          refine ⟨?_, d4⟩
          rw [d3, tk, List.filter_append]
          have : [yy].filter (fun y => decide (y ∉ xs)) = [] := by simp [hc]
          rw [this, List.append_nil]
      · rintro H4 ⟨d3, d4⟩
        rw [List.take_of_length_le (by rw [List.length_map]; exact Nat.le_refl _)] at d3
        obtain ⟨y0, ys, ey⟩ := fresh_one x (xs := xs) (by omega)
        have my : y0 ∈ (x :: zs8).filter (fun y => decide (y ∉ xs)) := by rw [ey]; exact List.mem_cons_self
        obtain ⟨my1, my2⟩ := List.mem_filter.mp my
        have my3 : y0 ∉ xs := by simpa using my2
        have oy : okName y0 ∧ y0.length ≠ 4 := by
          rcases List.mem_cons.mp my1 with rfl | my1
          · exact ⟨hx, hx4⟩
          · exact zs8_ok _ my1
        have k14 := k13.trans d4
        have e5 := d4.keep _ _ e3 (by simp)
        refine ⟨E1, _, 0, .str y0, rfl, rfl, SqL.of d3, by rw [ey]; exact at0 _ _, ?_⟩
        refine ⟨nm, _, .str y0, rfl, rfl, e5, by rw [List.length_map, sizeLine_eq]; omega, ?_⟩
        have kk : Kp [a, b] H H4 := (k.trans k1).trans (k14.mono (by simp))
        refine ⟨_, _, _, xs ++ [y0], rfl, by rw [upd_same, List.map_append]; rfl, by simp [hl], ?_, ?_, ?_, kk.own hnm _⟩
        · rw [List.nodup_append]
          refine ⟨hnd, by simp, ?_⟩
          intro u hu v hv e
          simp at hv
          subst hv
          exact my3 (e ▸ hu)
        · intro u hu
          rcases List.mem_append.mp hu with hu | hu
          · exact hok u hu
          · simp at hu
            subst hu
            exact oy
        · have s2 := s1.keep k14 (by simp) (by simp)
          refine s2.keep (S := [nm]) ((Kp.refl _ _).put (by simp) e5 (o := _)) ?_ ?_
          · intro z; exact hnS (by simp at z; simp [z])
          · intro z; exact hnS (by simp at z; simp [z])
  · rintro σ H' ⟨v3, v4, v5, xs, rfl, e1, hl, hnd, hok, hs, k⟩
    exact ⟨_, rfl, q nm xs H' (by omega) hnd hok hnm e1 (hs.less (by omega)) k⟩
end
end Hb
set_option maxHeartbeats 4000000
/-! enumerate of a list, a tuple, a text. -/
namespace PySem
open Sem (wp)
theorem hb_enum_new {v : Value} {o : Obj} {H : Heap → Prop} (B : Begins v o H) :
    Meets (Builtin.«enumerate.__new__» ⟨[.type "enumerate", v], []⟩) (fun _ R s => H s.heap ∧
      R (.ok (.ret (.ref (s.heap.push o).objs.size)))
        { s with heap := (s.heap.push o).push { cls := .type "enumerate", data := .fields #[.none, .bool false, .ref s.heap.objs.size, rawInt 0, .none, .none] } }) := by
  refine .of_wp fun prog w A R s h => ?_
  obtain ⟨hp, g, d, tk, os⟩ := s
  obtain ⟨a1, h⟩ := h
  have sub := sub_enumerate
  have it : ∀ {A' : Around} {E : Value → Shared → Prop} {Q : Value → Shared → Prop}, Q (.ref hp.objs.size) ⟨hp.push o, g, d, tk, os⟩ →
      wpAny (model prog w) A' (pyIter v) Q E ⟨hp, g, d, tk, os⟩ := fun q => B.iter prog w _ _ ⟨hp, g, d, tk, os⟩ _ a1 q
  wp_walk using it
  refine wpAny_stack_any fun st => wpAny_pure ?_
  split
  · rename_i c _ _ _ _ _
    cases (c == Value.type "enumerate") <;> (wp_walk using it; exact ⟨_, rfl, h⟩)
  · wp_walk using it
    exact ⟨_, rfl, h⟩
theorem hb_call_enum {prog : Program} {w : World} {A : Around} {E : Value → Shared → Prop} {s : Shared} {v : Value} {o : Obj} {H : Heap → Prop} {Q : Value → Shared → Prop} (B : Begins v o H) (a1 : H s.heap)
    (h : ∀ h', IsEnum h' (s.heap.objs.size + 1) s.heap.objs.size 0 .none → h'.get? s.heap.objs.size = some o →
      (∀ b o', s.heap.get? b = some o' → h'.get? b = some o') → Q (.ref (s.heap.objs.size + 1)) { s with heap := h' }) :
    wpAny (model prog w) A (call (.type "enumerate") [v]) Q E s := by
  refine callType_new F.called_enumerate (by decide) (F.typeCall_enumerate_1 _) (F.newCall_enumerate_1 _) (fun obj => F.args_object_init_2 obj _) F.entry_enumerate_new (hb_enum_new B) ⟨a1, ?_⟩
  have hz : (s.heap.push o).objs.size = s.heap.objs.size + 1 := Heap.size_push ..
  show _ ∧ _
  rw [hz]
  have he := Heap.get?_push_size (s.heap.push o) (o := { cls := .type "enumerate", data := .fields #[.none, .bool false, .ref s.heap.objs.size, rawInt 0, .none, .none] }) rfl
  rw [hz] at he
  exact ⟨⟨_, he, rfl⟩, h _ he (Heap.get?_push_of_some _ (Heap.get?_push_size _ B.free)) fun b o' x => Heap.get?_push_of_some _ (Heap.get?_push_of_some _ x)⟩
end PySem
namespace Hb
open PySem PySem.Spec PyProof.Rows L2
def Ieq (K : PySem.W.Frag) (b : Bk) : It :=
  ⟨fun i H => ∃ (xs : List V) (x : V), b.has K H xs ∧ xs[i]? = some x,
   fun i H v H' => ∃ T x, v = .ref T ∧ H T = none ∧ H' = upd H T (.tup [.int (i : Nat), x]) ∧ ∀ xs, b.has K H xs → xs[i]? = some x,
   fun i H => ∃ xs : List V, b.has K H xs ∧ i = xs.length⟩
theorem turn_eq {P : Program} {w : World} {K : PySem.W.Frag} {elts : List Expr} {kk : Nat} {tpos : Pos} {b : Bk} {N : Nat} (o1 : b.old N) :
    Turn P w K (.Tuple elts kk tpos) (Ieq K b) [N + 1, N] (N + 1) (fun i h => (∃ x, IsEnum h (N + 1) N ((i : Nat) : Int) x) ∧ b.it N i h) where
  mem := by simp
  obj := fun i h st c hc => by
    obtain ⟨⟨x, he⟩, h1⟩ := st
    have e' : c = N + 1 ∨ c = N := by simpa using hc
    rcases e' with rfl | rfl
    · exact ⟨_, he, fun v q => nomatch q⟩
    · exact Bk.it_obj h1
  keep := fun i h h' st k => by
    obtain ⟨⟨x, he⟩, h1⟩ := st
    exact ⟨⟨x, k _ (by simp) _ he⟩, Bk.it_at h1 fun o q => k _ (by simp) o q⟩
  item := by
    intro X hP hw hK hc i pins s σ H E I hf st hg
    subst hP hw hK
    obtain ⟨⟨x0, he⟩, h1⟩ := st
    obtain ⟨xs, x, hq, hx⟩ := hg
    have hh : X.A.in1.handled = none := I.ok.hd hc
    obtain ⟨fp, P1, St1, D1, ol, rel, st1, back⟩ := Bk.draws (A := X.A.in1) I hh hq o1 (Nat.le_refl N) h1
    have hlt := (List.getElem?_eq_some_iff.mp hx).1
    have hel : N + 1 < s.heap.objs.size := Heap.lt_size he
    have ne1 : (N + 1 : Nat) ≠ N := by omega
    have nef : (N + 1) ∉ N :: fp := fun m => by
      rcases List.mem_cons.mp m with m | m
      · exact ne1 m
      · exact absurd (ol _ m) (by show ¬ (N + 1 : Nat) < N; omega)
    refine wpAny_pyNext_enum_itemC D1 he st1 hlt ne1 nef fun u h' tk p1 ho s1' hT hsz hk => ?_
    obtain ⟨x', hx', ru⟩ := rel _ _ p1
    rw [hx] at hx'
    cases hx'
    refine ⟨_, rfl, ?_⟩
    refine wpAny_letOwnedTupleGo_enum (s := { s with heap := h', toks := tk + 1 }) ho fun h'' he' sb => ?_
    have hT2 : h''.get? s.heap.objs.size = some { cls := .type "tuple", data := .seq #[.int i tk, u] } := (sb.2 _ (Nat.ne_of_gt hel)).trans hT
    have new : ObjOk X.prog X.w (upd H s.heap.objs.size (.tup [.int (i : Nat), x])) h'' s.heap.objs.size (.tup [.int (i : Nat), x]) :=
      ⟨by show 2 ≤ sizeLine; decide, [.int i tk, u], .cons ⟨_, rfl⟩ (.cons ru .nil), ⟨_, hT2, rfl, _, rfl⟩⟩
    have I1 : Inv X pins σ (upd H s.heap.objs.size (.tup [.int (i : Nat), x])) { s with heap := h'', toks := tk + 1 } := by
      refine I.turnedNew (ch := [N + 1, N]) (fun c ob hb q => ?_) hf (Nat.le_refl _) new
      exact (sb.2 c (fun z => hb (by simp [z]))).trans (hk c ob (fun z => hb (by simp [z])) (fun z => hb (by simp [z])) q)
    refine ⟨.ref s.heap.objs.size, _, I1, rfl, ⟨_, x, rfl, I.hok.fresh (Nat.le_refl _), rfl, fun ys hy => ?_⟩, ⟨⟨u, ?_⟩, ?_⟩, fun c hcm => ?_⟩
    · rw [Bk.inj I hy hq]; exact hx
    · have e1 : ((i + 1 : Nat) : Int) = (i : Int) + 1 := by omega
      rw [e1]; exact he'
    · exact Bk.it_at (back _ _ s1') fun o q => (sb.2 _ (Ne.symm ne1)).trans q
    · have e' : c = N + 1 ∨ c = N := by simpa using hcm
      have hle : c ≤ N + 1 := by
        rcases e' with q | q
        · rw [q]; exact Nat.le_refl _
        · rw [q]; exact Nat.le_succ _
      rw [upd_ne (Nat.ne_of_lt (Nat.lt_of_le_of_lt hle hel))]
      exact (hf c hcm).1
  done := by
    intro X hP hw hK hc i pins s σ H E I hf st hg
    subst hP hw hK
    obtain ⟨⟨x0, he⟩, h1⟩ := st
    obtain ⟨xs, hq, rfl⟩ := hg
    have hh : X.A.in1.handled = none := I.ok.hd hc
    obtain ⟨fp, P1, St1, D1, ol, rel, st1, back⟩ := Bk.draws (A := X.A.in1) I hh hq o1 (Nat.le_refl N) h1
    obtain ⟨f0, f1, f2, f3, f4, f5⟩ := hf N (by simp)
    exact wpAny_pyNext_enum_endD D1 he st1 fun h' eb => ⟨rfl, I.turned (t' := s.toks) (fun b o hb q => eb b o hb q) f0 f1 f3 f4 f5⟩
  self := fun A i s Q E st h => let ⟨⟨_, he⟩, _⟩ := st; wpAny_pyIter_enum he h
def iEq (K : PySem.W.Frag) (ta : TA) : TI := fun σ H R => ta σ H fun vs H1 => ∃ (b : Bk) (xs : List V), vs = [b.v] ∧ b.has K H1 xs ∧ R (Ieq K b) H1
theorem pi_eq {X : Cx} {e : Expr} {ta : TA} {p pos tpos : Pos} {elts : List Expr} {kk : Nat} (hg : Gl X "enumerate") (hm : X.mg "enumerate" = none) (ha : PA X [e] ta)
    (hs : starEach [e] X.env = [(false, eval e X.env)] := by rfl) : PI X (.Tuple elts kk tpos) (.Call (.Name "enumerate" p) [e] [] pos) (iEq X.K ta) := by
  constructor
  intro pins s σ H R I h
  refine Call_ (ld_blt I hg hm boot_enumerate ?_)
  refine PyProof.Rows.callWith_type1 ?_ hs rfl
  refine thn (ha.run pos pins s σ H _ I h) ?_
  rintro us s1 ⟨vs, H1, I1, r1, b, xs, rfl, hx, q⟩
  cases r1 with
  | cons r rr =>
    cases rr
    obtain ⟨Hh1, B1, a1, o1, i1⟩ := Bk.begins I1 hx r
    refine hb_call_enum B1 a1 fun h' he h1 hk => wpAny_pyIter_enum he ?_
    have I2 : Inv X pins σ H1 { s1 with heap := h' } := I1.kept (t' := s1.toks) hk
    refine ⟨s1.heap.objs.size + 1, _, _, _, H1, rfl, I2, turn_eq o1, ⟨⟨_, he⟩, i1 _ _ h1⟩, fun c hcm => ?_, q⟩
    have hle : s1.heap.objs.size ≤ c := by
      have e' : c = s1.heap.objs.size + 1 ∨ c = s1.heap.objs.size := by simpa using hcm
      rcases e' with q | q
      · rw [q]; exact Nat.le_succ _
      · rw [q]; exact Nat.le_refl _
    exact I1.fpOk (hle) (I1.hok.fresh (hle))
theorem walk_eq {K : PySem.W.Frag} {b : Bk} {xs : List V} : Walk (Ieq K b) xs.length (fun H => b.has K H xs) (YPair (fun i => some (.int (i : Nat))) (fun i => xs[i]?)) := by
  refine ⟨fun i H hi q => ⟨xs, xs[i], q, List.getElem?_eq_getElem hi⟩, fun H q => ⟨xs, q, rfl⟩, fun i H v H' _ q y => ?_⟩
  obtain ⟨T, x, e1, e2, e3, e4⟩ := y
  exact ⟨T, .int (i : Nat), x, e1, e2, e3, rfl, e4 xs q⟩
end Hb
set_option maxHeartbeats 4000000
/-! the kinds of things -/
namespace Hb
open PySem PySem.Spec PyProof.Rows L2
def kinds : List String := ["NoneType", "bool", "int", "str", "list", "tuple", "dict"]
/-- v is of the built-in type T -/
structure TyP (K : PySem.W.Frag) (H : Hp) (v : V) (T : String) : Prop where
  ty : TyX K H v (.type T)
  mem : T ∈ kinds
theorem TyP.keep {K : PySem.W.Frag} {H H1 : Hp} {v : V} {T : String} (h : TyP K H v T) (k : Kp [] H H1) : TyP K H1 v T := by
  have kp : ∀ {b : Addr} {o : HO}, H b = some o → H1 b = some o := fun e => k.keep _ _ e List.not_mem_nil
  refine ⟨?_, h.mem⟩
  cases h.ty with
  | base b =>
    cases b with
    | non => exact .base .non
    | bl x => exact .base (.bl x)
    | int x => exact .base (.int x)
    | str x => exact .base (.str x)
    | flt x => exact .base (.flt x)
    | lst e => exact .base (.lst (kp e))
    | frz e => exact .base (.frz (kp e))
    | tup e => exact .base (.tup (kp e))
    | dK e => exact .base (.dK (kp e))
    | dT e => exact .base (.dT (kp e))
  | byt b => exact .byt b
  | set e => exact .set (kp e)
  | kList e c => exact .kList e c
  | kTuple e c => exact .kTuple e c
  | kDict e c => exact .kDict e c
  | fTuple e => exact .fTuple (kp e)
  | fDict e => exact .fDict (kp e)
theorem ty_seqT {K : PySem.W.Frag} {H : Hp} {a : Addr} {xs : List V} (h : SqT K H a xs) : TyP K H (.ref a) "tuple" := by
  refine ⟨?_, by decide⟩
  rcases h with (h | ⟨o, h⟩) | ⟨o, its, n, h, c, _⟩
  · exact .base (.tup h)
  · exact .fTuple h
  · exact .kTuple h c
theorem ty_seqL {K : PySem.W.Frag} {H : Hp} {a : Addr} {xs : List V} (h : SqL K H a xs) : TyP K H (.ref a) "list" := by
  refine ⟨?_, by decide⟩
  rcases h with (h | ⟨o, h⟩) | ⟨o, its, n, h, c, _⟩
  · exact .base (.lst h)
  · exact .base (.frz h)
  · exact .kList h c
theorem ty_int {K : PySem.W.Frag} {H : Hp} {i : Int} : TyP K H (.int i) "int" := ⟨.base (.int i), by decide⟩
theorem ty_str {K : PySem.W.Frag} {H : Hp} {x : Str} : TyP K H (.str x) "str" := ⟨.base (.str x), by decide⟩
theorem ty_bl {K : PySem.W.Frag} {H : Hp} {b : Bool} : TyP K H (.bl b) "bool" := ⟨.base (.bl b), by decide⟩
theorem ty_non {K : PySem.W.Frag} {H : Hp} : TyP K H .non "NoneType" := ⟨.base .non, by decide⟩
theorem kit_str {T : String} (h : T ∈ kinds) : kitB T "str" = some (decide (T = "str")) := by
  simp only [kinds, List.mem_cons, List.not_mem_nil, or_false] at h
  rcases h with rfl | rfl | rfl | rfl | rfl | rfl | rfl <;> decide +kernel
theorem kit_int {T : String} (h : T ∈ kinds) : kitB T "int" = some (decide (T = "int" ∨ T = "bool")) := by
  simp only [kinds, List.mem_cons, List.not_mem_nil, or_false] at h
  rcases h with rfl | rfl | rfl | rfl | rfl | rfl | rfl <;> decide +kernel
theorem kit_bool {T : String} (h : T ∈ kinds) : kitB T "bool" = some (decide (T = "bool")) := by
  simp only [kinds, List.mem_cons, List.not_mem_nil, or_false] at h
  rcases h with rfl | rfl | rfl | rfl | rfl | rfl | rfl <;> decide +kernel
theorem kit_list {T : String} (h : T ∈ kinds) : kitB T "list" = some (decide (T = "list")) := by
  simp only [kinds, List.mem_cons, List.not_mem_nil, or_false] at h
  rcases h with rfl | rfl | rfl | rfl | rfl | rfl | rfl <;> decide +kernel
theorem kit_tuple {T : String} (h : T ∈ kinds) : kitB T "tuple" = some (decide (T = "tuple")) := by
  simp only [kinds, List.mem_cons, List.not_mem_nil, or_false] at h
  rcases h with rfl | rfl | rfl | rfl | rfl | rfl | rfl <;> decide +kernel
theorem kit_dict {T : String} (h : T ∈ kinds) : kitB T "dict" = some (decide (T = "dict")) := by
  simp only [kinds, List.mem_cons, List.not_mem_nil, or_false] at h
  rcases h with rfl | rfl | rfl | rfl | rfl | rfl | rfl <;> decide +kernel
theorem kit_seq {K : PySem.W.Frag} {T : String} (h : T ∈ kinds) : PySem.W.kitAny K (.type T) [.type "list", .type "tuple"] = some (decide (T = "list" ∨ T = "tuple")) := by
  refine kitAny_cons (kit_ty (kit_list h)) (fun e => kitAny_cons (kit_ty (kit_tuple h)) (fun e2 => ?_) (fun e2 => ?_)) (fun e => ?_)
  · have h1 := of_decide_eq_false e
    have h2 := of_decide_eq_false e2
    rw [kitAny_nil, decide_eq_false (fun q => q.elim h1 h2)]
  · have h2 := of_decide_eq_true e2
    exact decide_eq_true (.inr h2)
  · exact decide_eq_true (.inl (of_decide_eq_true e))
/-- a slice of a list or of a tuple -/
theorem sl_any {X : Cx} : SlR X (fun x lo hi H Q => rSlL X.K x lo hi H Q ∨ rSlT X.K x lo hi H Q) := by
  intro pins s σ H x v vl vu lo hi sl Q I rx hs pl pu h
  rcases h with h | h
  · exact sl_list pins s σ H x v vl vu lo hi sl Q I rx hs pl pu h
  · exact sl_tup pins s σ H x v vl vu lo hi sl Q I rx hs pl pu h
end Hb
set_option maxHeartbeats 4000000
/-! sets of texts: made of a list or a tuple, counted, sorted -/
namespace Hb
open PySem PySem.Spec PyProof.Rows L2 PySem.Froz
def ins (l : List Str) (k : Str) : List Str := if k ∈ l then l else k :: l
def dd (xs : List Str) : List Str := xs.foldl ins []
theorem mem_ins {l : List Str} {k y : Str} : y ∈ ins l k ↔ y = k ∨ y ∈ l := by
  unfold ins
  by_cases h : k ∈ l
  · rw [if_pos h]
    exact ⟨.inr, fun q => q.elim (fun e => e ▸ h) id⟩
  · rw [if_neg h, List.mem_cons]
theorem nd_ins {l : List Str} {k : Str} (n : l.Nodup) : (ins l k).Nodup := by
  unfold ins
  by_cases h : k ∈ l
  · rw [if_pos h]; exact n
  · rw [if_neg h]; exact List.nodup_cons.mpr ⟨h, n⟩
theorem len_ins {l : List Str} {k : Str} : (ins l k).length ≤ l.length + 1 := by
  unfold ins
  by_cases h : k ∈ l
  · rw [if_pos h]; exact Nat.le_succ _
  · rw [if_neg h]; exact Nat.le_refl _
theorem mem_fold : ∀ {xs l : List Str} {y : Str}, y ∈ xs.foldl ins l ↔ y ∈ xs ∨ y ∈ l
  | [], l, y => by simp
  | x :: xs, l, y => by
    rw [List.foldl_cons, mem_fold, mem_ins, List.mem_cons]
    constructor
    · rintro (h | h | h)
      · exact .inl (.inr h)
      · exact .inl (.inl h)
      · exact .inr h
    · rintro ((h | h) | h)
      · exact .inr (.inl h)
      · exact .inl h
      · exact .inr (.inr h)
theorem nd_fold : ∀ {xs l : List Str}, l.Nodup → (xs.foldl ins l).Nodup
  | [], _, n => n
  | x :: xs, l, n => nd_fold (xs := xs) (nd_ins n)
theorem len_fold : ∀ {xs l : List Str}, (xs.foldl ins l).length ≤ xs.length + l.length
  | [], l => by simp
  | x :: xs, l => by
    have a := len_fold (xs := xs) (l := ins l x)
    have b := len_ins (l := l) (k := x)
    rw [List.foldl_cons, List.length_cons]
    omega
theorem mem_dd {xs : List Str} {y : Str} : y ∈ dd xs ↔ y ∈ xs := by
  unfold dd
  rw [mem_fold]
  simp
theorem nd_dd {xs : List Str} : (dd xs).Nodup := nd_fold List.nodup_nil
theorem len_dd {xs : List Str} : (dd xs).length ≤ xs.length := by simpa [dd] using len_fold (xs := xs) (l := [])
theorem perm_of {l m : List Str} (a : l.Nodup) (b : m.Nodup) (h : ∀ y, y ∈ l ↔ y ∈ m) : l.Perm m := (List.perm_ext_iff_of_nodup a b).mpr h
theorem pigeonS : ∀ {l m : List Str}, l.Nodup → (∀ x ∈ l, x ∈ m) → l.length ≤ m.length
  | [], m, _, _ => Nat.zero_le _
  | x :: l, m, nd, h => by
    have hx := h x List.mem_cons_self
    have nd' := List.nodup_cons.mp nd
    have h1 := pigeonS (l := l) (m := m.erase x) nd'.2 fun y hy => by
      have hne : y ≠ x := fun e => nd'.1 (e ▸ hy)
      exact (List.mem_erase_of_ne hne).mpr (h y (List.mem_cons_of_mem _ hy))
    have h2 := List.length_erase_of_mem hx
    have h3 := List.length_pos_of_mem hx
    rw [List.length_cons]
    omega
theorem dd_take (xs : List Str) (i : Nat) : (dd (xs.take i)).length ≤ (dd xs).length :=
  pigeonS nd_dd fun y hy => mem_dd.mpr (List.mem_of_mem_take (mem_dd.mp hy))
theorem len_dd_nodup {xs : List Str} : (dd xs).length = xs.length ↔ xs.Nodup := by
  constructor
  · intro e
    have s : ∀ {xs l : List Str}, (xs.foldl ins l).length = xs.length + l.length → xs.Nodup ∧ ∀ y ∈ xs, y ∉ l := by
      intro xs
      induction xs with
      | nil => intro l _; exact ⟨List.nodup_nil, fun y h => by cases h⟩
      | cons x xs ih =>
        intro l e
        rw [List.foldl_cons, List.length_cons] at e
        have a := len_fold (xs := xs) (l := ins l x)
        have b := len_ins (l := l) (k := x)
        have hx : x ∉ l := fun h => by
          have q : ins l x = l := if_pos h
          rw [q] at e a
          omega
        have q : ins l x = x :: l := if_neg hx
        rw [q] at e
        obtain ⟨i1, i2⟩ := ih (l := x :: l) (by rw [e, List.length_cons]; omega)
        refine ⟨List.nodup_cons.mpr ⟨fun h => i2 x h List.mem_cons_self, i1⟩, fun y hy => ?_⟩
        rcases List.mem_cons.mp hy with z | z
        · rw [z]; exact hx
        · exact fun h => i2 y z (List.mem_cons_of_mem _ h)
    exact (s (xs := xs) (l := []) (by simpa [dd] using e)).1
  · intro n
    exact (perm_of nd_dd n fun y => mem_dd).length_eq

/-- the set of the texts l at a -/
def SxOk (P : Program) (w : World) (h : Heap) (a : Addr) (l : List Str) : Prop :=
  ∃ D : SD, h.get? a = some (sObj "set" D) ∧ TxOk P w D l ∧ l.Nodup ∧ l.length < scanBound ∧ Ris D.2.2.place.toList ∧ (w.params.followText "set-order" = true ∨ D.2.2.led = true)
theorem SxOk.at {P : Program} {w : World} {h h' : Heap} {a : Addr} {l : List Str} (R : SxOk P w h a l) (k : ∀ o, h.get? a = some o → h'.get? a = some o) : SxOk P w h' a l := by
  obtain ⟨D, ho, r⟩ := R
  exact ⟨D, k _ ho, r⟩
theorem plain_ris {t : SetTable} (c : Bool) (r : Ris t.place.toList) : Ris (if c = true then { t with plain := false } else t).place.toList := by cases c <;> exact r
theorem plain_led {t : SetTable} (c : Bool) : (if c = true then { t with plain := false } else t).led = t.led := by cases c <;> rfl
theorem tail_ris {ep : Nat} {es1 : Array (Int × Value)} {t2 : SetTable} {wd : Bool} (r : Ris t2.place.toList) : Ris (tailTx ep es1 t2 wd).2.2.place.toList ∧ (tailTx ep es1 t2 wd).2.2.led = t2.led := by
  unfold tailTx
  by_cases c : (!wd && t2.tooFull) = true
  · rw [if_pos c]; exact ⟨relayAll_ris _ _ _, relayAll_led _ _ _⟩
  · rw [if_neg c]; exact ⟨r, rfl⟩
theorem add_ris {D : SD} {h : Int} {v : Value} (r : Ris D.2.2.place.toList) : Ris (addTx h v D).2.2.place.toList ∧ (addTx h v D).2.2.led = D.2.2.led := by
  have a := layNew_ris D.2.2 D.1 h v r
  have b := layNew_led D.2.2 D.1 h v
  have c := tail_ris (ep := D.2.1) (es1 := (layNew D.2.2 D.1 h v).1) (wd := (layNew D.2.2 D.1 h v).2.2.1) (plain_ris (layNew D.2.2 D.1 h v).2.1.plain a)
  exact ⟨c.1, c.2.trans ((plain_led _).trans b)⟩
section
variable {P : Program} {w : World} {A : Around} {E : Value → Shared → Prop} {s : Shared}
/-- a member is added again: nothing happens -/
theorem had_x {a : Addr} {T : String} {D : SD} {l : List Str} {k : Str} {u : Tok} {Q : Bool → Shared → Prop} (ho : s.heap.get? a = some (sObj T D)) (F : TxOk P w D l) (hk : k ∈ l) (hb : l.length < scanBound)
    (h : Q false s) : wpAny (model P w) A (setAddHashed a (.str k u) (hashStr w k)) Q E s := by
  obtain ⟨es, ep, t⟩ := D
  have hkey : (strKind P w).is k (.str k u) = true := is_str k u
  have hz : es.size < scanBound := by
    have e : es.size = l.length := F.sz
    omega
  obtain ⟨e0, he0, hi0⟩ := (F.mem k).mp hk
  obtain ⟨j, hj⟩ : ∃ j, List.findIdx? (fun e => (strKind P w).is k e.2) es.toList = some j := by
    cases q : List.findIdx? (fun e => (strKind P w).is k e.2) es.toList with
    | some j => exact ⟨j, rfl⟩
    | none =>
      have z := List.findIdx?_eq_none_iff.mp q e0 he0
      rw [hi0] at z
      cases z
  unfold setAddHashed setAddHashedIn
  refine wpAny_holding (wpAny_bind (wpAny_setState_of ho rfl F.fit ?_))
  dsimp only
  rw [byScan_of (knd := strKind P w) rfl hz F.el]
  simp only [↓reduceIte]
  unfold setAddByScan
  refine wpAny_bind (wpAny_bind (wpAny_rule (wpAny_bind (wpAny_setScan_of (knd := strKind P w) (k := k) hkey ho rfl F.fit F.el ?_))))
  rw [hj]
  exact wpAny_pure (wpAny_pure h)
theorem sx_add {a : Addr} {l : List Str} {k : Str} {u : Tok} {Q : Bool → Shared → Prop} (R : SxOk P w s.heap a l) (room : l.length + 1 < scanBound)
    (hQ : ∀ (b : Bool) h', Heap.SameBut a s.heap h' → SxOk P w h' a (ins l k) → Q b { s with heap := h' }) : wpAny (model P w) A (setAddHashed a (.str k u) (hashStr w k)) Q E s := by
  obtain ⟨D, ho, F, nd, hl, r, led⟩ := R
  by_cases hk : k ∈ l
  · refine had_x ho F hk hl (hQ false s.heap (Heap.SameBut.refl a s.heap) ⟨D, ho, ?_⟩)
    have e : ins l k = l := if_pos hk
    rw [e]
    exact ⟨F, nd, hl, r, led⟩
  · refine add_x ho F hk room (hQ true _ (Heap.SameBut.update s.heap a _) ⟨addTx (hashStr w k) (.str k u) D, get_upd _ ho rfl, ?_⟩)
    have e : ins l k = k :: l := if_neg hk
    have z := add_ris (h := hashStr w k) (v := .str k u) r
    rw [e]
    exact ⟨add_ok u F, List.nodup_cons.mpr ⟨hk, nd⟩, by rw [List.length_cons]; exact room, z.1, led.imp id fun q => z.2.trans q⟩
/-- all that a walk gives, put in -/
theorem sx_loop {I : Addr} {fp wr : List Addr} {G : Array GenState → Array GenState → Prop} {n : Nat} {Pv : Nat → Value → Prop} {St : Nat → Shared → Prop} {R : Result → Shared → Prop}
    (W : WalksS P w A.in1 I fp wr G n Pv St) {S : Addr} (hSf : S ∉ fp) (xs : List Str) (hx : ∀ i v, Pv i v → ∃ x t, xs[i]? = some x ∧ v = .str x t) (hn : n = xs.length) (hb : (dd xs).length + 1 < scanBound)
    (hR : ∀ s', Moved (S :: wr) G s s' → SxOk P w s'.heap S (dd xs) → R (.ok (.ret .none)) s') :
    ∀ (m i : Nat) (s1 : Shared), n - i = m → i ≤ n → St i s1 → Moved (S :: wr) G s s1 → SxOk P w s1.heap S (dd (xs.take i)) → codeAny (model P w) A (.builtin "set.update.loop" ⟨[.ref S, .ref I], []⟩) R s1 := by
  have hSw : S ∉ wr := fun h => hSf (W.sub _ h)
  have hsub : ∀ b ∈ wr, b ∈ S :: wr := fun b hb => List.mem_cons_of_mem _ hb
  intro m
  induction m with
  | zero =>
    intro i s1 hm hi st mv ok
    obtain rfl : i = n := by omega
    rw [List.take_of_length_le (by omega)] at ok
    refine codeAny_builtin F.entry_set_update_loop ?_
    rw [Around.under_plainId F.plain_set_update_loop _]
    show wpAny _ A.in1 (pyNext (.ref I) >>= _) _ _ s1
    exact wpAny_bind (W.done s1 _ _ st fun s2 mv2 => wpAny_pure (hR s2 (mv.trans W.gtrans (mv2.mono hsub)) (ok.at fun o e => mv2.heap S o hSw e)))
  | succ m ih =>
    intro i s1 hm hi st mv ok
    have hlt : i < n := by omega
    refine codeAny_builtin F.entry_set_update_loop ?_
    rw [Around.under_plainId F.plain_set_update_loop _]
    show wpAny _ A.in1 (pyNext (.ref I) >>= _) _ _ s1
    refine wpAny_bind (W.item i s1 _ _ hlt st fun v s2 pv st2 mv2 => ?_)
    obtain ⟨x, t, hxi, rfl⟩ := hx i v pv
    have ok2 := ok.at (h' := s2.heap) fun o e => mv2.heap S o hSw e
    show wpAny _ A.in1 (holding [Value.str x t] (setAdd S (.str x t)) >>= _) _ _ s2
    refine wpAny_bind (wpAny_holding ?_)
    unfold setAdd
    refine wpAny_holding (wpAny_bind ((strKind P w).pyHash (k := x) (is_str x t) ?_))
    have hl := dd_take xs i
    refine sx_add (s := { s2 with toks := s2.toks + 1 }) ok2 (by omega) fun b h' sb ok3 => ?_
    have e : ins (dd (xs.take i)) x = dd (xs.take (i + 1)) := by
      rw [List.take_add_one, hxi]
      show _ = List.foldl ins [] (xs.take i ++ [x])
      rw [List.foldl_append] <;> rfl
    rw [e] at ok3
    refine wpAny_pure ⟨plainId_quiet F.plain_set_update_loop _, ih (i + 1) _ (by omega) hlt (W.frame _ s2 _ _ st2 (Nat.le_succ _) fun b hb o e => ?_) ?_ ok3⟩
    · rw [sb.2 b fun z => hSf (z ▸ hb)]; exact e
    · refine mv.trans W.gtrans ((mv2.mono hsub).then_heap (Nat.le_succ _) fun b o hb e => ?_)
      rw [sb.2 b fun z => hb (z ▸ List.mem_cons_self)]; exact e
/-! ### set(l) -/
def IsS (T : String) (h : Heap) (l : Addr) (items : Array Value) : Prop := ∃ o, h.get? l = some o ∧ o.cls = .type T ∧ ∃ n, o.data = .seq items n
theorem IsS.push {T : String} {h : Heap} {l : Addr} {items : Array Value} (x : IsS T h l items) (o : Obj) : IsS T (h.push o) l items := by
  obtain ⟨q, hq, r⟩ := x
  exact ⟨q, Heap.get?_push_of_some o hq, r⟩
def itO (TI : String) (l : Addr) : Obj := { cls := .type TI, data := .fields #[.ref l, .int 0 0] }
/-- a kind of sequence that set() walks -/
structure SqK (T TI : String) : Prop where
  ns : isSubtype (.type T) (.type "set") = pure false
  nf : isSubtype (.type T) (.type "frozenset") = pure false
  nd : (Value.type T == Value.type "dict") = false
  iter : ∀ {P : Program} {w : World} {A : Around} {E : Value → Shared → Prop} {s : Shared} {l : Addr} {items : Array Value} {Q : Value → Shared → Prop}, IsS T s.heap l items →
    Q (.ref s.heap.objs.size) { s with heap := s.heap.push (itO TI l) } → wpAny (model P w) A (pyIter (.ref l)) Q E s
  walk : ∀ {P : Program} {w : World} {A : Around} (I l : Addr) (items : Array Value), A.handled = none → l ≠ I → ∃ St : Nat → Heap → Prop, Walks P w A I [I, l] [I] items.size (fun i v => items[i]? = some v) St ∧
    ∀ h : Heap, h.get? I = some (itO TI l) → IsS T h l items → St 0 h
theorem sqkL : SqK "list" "list_iterator" where
  ns := PySem.F.sub_list_set
  nf := PySem.F.sub_list_frozenset
  nd := by decide
  iter := fun hl q => wpAny_pyIter_list hl q
  walk := fun I l items hh ne => ⟨_, Walks.list hh I l ne items, fun h e x => ⟨⟨_, e, rfl, rfl⟩, x⟩⟩
theorem sqkT : SqK "tuple" "tuple_iterator" where
  ns := PySem.F.sub_tuple_set
  nf := PySem.F.sub_tuple_frozenset
  nd := by decide
  iter := fun hl q => wpAny_pyIter_tuple hl q
  walk := fun I l items hh ne => ⟨_, Walks.tuple hh I l ne items, fun h e x => ⟨⟨_, e, rfl, rfl⟩, x⟩⟩
def newS (w : World) : Obj := { cls := .type "set", dict := none, data := .set #[] 0 (.fresh 0 0 (!w.params.followText "set-order")) }
theorem sx_fresh {h : Heap} {a : Addr} (ho : h.get? a = some (newS w)) : SxOk P w h a [] := by
  refine ⟨(#[], 0, .fresh 0 0 (!w.params.followText "set-order")), ho, TxOk.nil rfl, List.nodup_nil, by decide, List.Pairwise.nil, ?_⟩
  show _ ∨ (!w.params.followText "set-order") = true
  cases w.params.followText "set-order"
  · exact .inr rfl
  · exact .inl rfl
theorem set_init {T TI : String} (kt : SqK T TI) {l : Addr} {vs : List Value} {xs : List Str} {a : Addr} {Q : PySem.Fin → Shared → Prop} (hh : A.handled = none) (hl : IsS T s.heap l vs.toArray) (hx : StrsAre vs xs) (hb : (dd xs).length + 1 < scanBound) (ha : s.heap.get? a = some (newS w))
    (hQ : ∀ (h' : Heap) (tk : Nat), SxOk P w h' a (dd xs) → (∀ b o, b ≠ a → s.heap.get? b = some o → h'.get? b = some o) → Q (.done (.ret .none)) { s with heap := h', toks := tk }) :
    wpAny (model P w) A (Builtin.«set.__init__» ⟨[.ref a, .ref l], []⟩) Q E s := by
  obtain ⟨ol, hol, hcl, nl, hdl⟩ := id hl
  have hT : s.TypeIs (.ref l) T := ⟨ol, hol, hcl⟩
  have hTs : s.TypeIs (.ref a) "set" := ⟨_, ha, rfl⟩
  have hsub := sub_set_self
  have hsls := kt.ns
  have hslf := kt.nf
  have hnd := kt.nd
  unfold Builtin.«set.__init__» noKeywords Builtin.Frozenset.updateFrom
  generalize hPI : pyIter = PI
  wp_walk
  subst hPI
  refine kt.iter hl (wpAny_bind (wpAny_runValue ?_))
  have hne : l ≠ s.heap.objs.size := Nat.ne_of_lt (Heap.lt_size hol)
  have hne2 : a ≠ l := fun e => by
    rw [e, hol] at ha
    have z := Option.some.inj ha
    rw [z] at hdl
    cases hdl
  have hna : a ≠ s.heap.objs.size := Nat.ne_of_lt (Heap.lt_size ha)
  obtain ⟨St, W, st0⟩ := kt.walk (P := P) (w := w) (A := A.in1) s.heap.objs.size l vs.toArray hh hne
  have hS : SxOk P w (s.heap.push (itO TI l)) a [] := sx_fresh (Heap.get?_push_of_some _ ha)
  have hz : vs.toArray.size = xs.length := by rw [List.size_toArray, hx.length]
  refine sx_loop (s := { s with heap := s.heap.push (itO TI l) }) W.toS (S := a) (by simp [hna, hne2]) xs (fun i v hv => ?_) hz hb (fun s' mv ok => ?_) (vs.toArray.size - 0) 0 _ rfl (Nat.zero_le _) (st0 _ (Heap.get?_push_size _ rfl) (hl.push _)) ⟨fun _ _ _ e => e, rfl, rfl, rfl, Nat.le_refl _⟩ hS
  · have hv' : vs[i]? = some v := by rw [← hv, List.getElem?_toArray]
    have hi : i < xs.length := by rw [← hz, List.size_toArray]; exact (List.getElem?_eq_some_iff.mp hv').1
    obtain ⟨t, e⟩ := SS.strs_at hx i v hv'
    exact ⟨xs[i], t, List.getElem?_eq_getElem hi, by rw [e, List.getD_eq_getElem?_getD, List.getElem?_eq_getElem hi] <;> rfl⟩
  · obtain ⟨h', g2, d', tk', os'⟩ := s'
    have eg : g2 = s.gens := mv.gens
    have ed : d' = s.drawn := mv.drawn
    have eo : os' = s.os := mv.os
    subst eg ed eo
    refine wpAny_pure (wpAny_pure (hQ h' tk' ok fun b o hb e => mv.heap b o ?_ (Heap.get?_push_of_some _ e)))
    have z : b ≠ s.heap.objs.size := Nat.ne_of_lt (Heap.lt_size e)
    simp [hb, z]
/-- set(l), l a list or tuple of texts -/
theorem call_set_sq {T TI : String} (kt : SqK T TI) {l : Addr} {vs : List Value} {xs : List Str} {Q : Value → Shared → Prop} (hh : A.handled = none) (hl : IsS T s.heap l vs.toArray) (hx : StrsAre vs xs) (hb : (dd xs).length + 1 < scanBound)
    (hQ : ∀ (h' : Heap) (tk : Nat), SxOk P w h' s.heap.objs.size (dd xs) → (∀ b o, s.heap.get? b = some o → h'.get? b = some o) → Q (.ref s.heap.objs.size) { s with heap := h', toks := tk }) :
    wpAny (model P w) A (call (.type "set") [.ref l]) Q E s := by
  obtain ⟨c, tl, hmro⟩ := F.called_set.mro
  have hmade := F.called_set.made
  have hsub := F.called_set.sub
  refine wpAny_call (codeAny_of_tree (wpAny_pure ⟨Code.quiet_builtin _ (by decide +kernel), codeAny_builtin F.entry_type_call ?_⟩))
  rw [Around.under_plain (weight_type_call_type "set" [.ref l] []) rfl]
  have h1 := F.called_set.notType
  have h2 := F.called_set.canCreate
  have hct := F.typeCall_set_1 (.ref l)
  repeat (any_goals (first | assumption | wp_step))
  refine codeAny_mono (code_set_led1 (.ref l) (E := E) (Q₁ := fun x s1 => x = .ref s.heap.objs.size ∧ s1 = { s with heap := s.heap.push (newS w) }) ⟨rfl, rfl⟩) fun r s1 hr => ?_
  rcases r with e | fl
  · exact hr
  · cases fl with
    | ret obj =>
      obtain ⟨rfl, rfl⟩ := hr
      have ha : (s.heap.push (newS w)).get? s.heap.objs.size = some (newS w) := Heap.get?_push_size _ rfl
      have hT : Shared.TypeIs { s with heap := s.heap.push (newS w) } (.ref s.heap.objs.size) "set" := ⟨_, ha, rfl⟩
      have hli := F.called_set.init.lookup
      have hbi := F.called_set.init.bind (.ref s.heap.objs.size)
      repeat (any_goals (first | assumption | wp_step))
      refine codeAny_mono (codeAny_call_builtin (R := wants (fun r s2 => r = .none ∧ ∃ h' tk, s2 = { s with heap := h', toks := tk } ∧ SxOk P w h' s.heap.objs.size (dd xs) ∧ ∀ b o, s.heap.get? b = some o → h'.get? b = some o) E)
        F.called_set.init.plain F.entry_set_init (check_set_init_1 hT (set_init (s := { s with heap := s.heap.push (newS w) }) kt hh (hl.push _) hx hb ha fun h' tk ok k => ?_))) fun r2 s2 hr2 => ?_
      · exact ⟨rfl, h', tk, rfl, ok, fun b o e => k b o (Nat.ne_of_lt (Heap.lt_size e)) (Heap.get?_push_of_some _ e)⟩
      · rcases r2 with e | fl2
        · exact hr2
        · cases fl2 with
          | ret r =>
            obtain ⟨rfl, h', tk, rfl, ok, k⟩ := hr2
            repeat (any_goals (first | assumption | wp_step))
            exact hQ h' tk ok k
          | _ => exact hr2.elim
    | _ => exact hr.elim
end
end Hb
set_option maxHeartbeats 4000000
/-! rules for sets of texts -/
namespace Hb
open PySem PySem.Spec PyProof.Rows L2
open PySem.Froz (sObj TxOk is_str)
theorem perm_len : ∀ {l xs : List Str}, l.Nodup → (∀ y ∈ l, y ∈ xs) → xs.length = l.length → l.Perm xs
  | [], xs, _, _, e => by
    obtain rfl := List.length_eq_zero_iff.mp e
    exact List.Perm.refl _
  | x :: l, xs, n, s, e => by
    obtain ⟨n1, n2⟩ := List.nodup_cons.mp n
    have hx := s x List.mem_cons_self
    have p := List.perm_cons_erase hx
    refine ((perm_len (l := l) (xs := xs.erase x) n2 (fun y hy => ?_) ?_).cons x).trans p.symm
    · exact (List.mem_erase_of_ne (fun z => n1 (by rw [← z]; exact hy))).mpr (s y (List.mem_cons_of_mem _ hy))
    · have q := p.length_eq
      rw [List.length_cons] at q e
      omega
section
variable {P : Program} {w : World} {A : Around} {E : Value → Shared → Prop} {s : Shared}
theorem tx_values {D : Froz.SD} {l : List Str} (F : TxOk P w D l) (nd : l.Nodup) : ∀ vs : List Value, vs.Perm (D.1.toList.map (·.2)) → ∃ xs : List Str, StrsAre vs xs ∧ xs.Perm l := by
  intro vs pm
  have all : ∀ v ∈ vs, ∃ x t, v = Value.str x t := fun v hv => by
    obtain ⟨e, he, q⟩ := List.mem_map.mp (pm.mem_iff.mp hv)
    obtain ⟨⟨k, hk, _⟩, _⟩ := F.el e he
    rw [q] at hk
    have z : Value.isStrOf k v = true := hk
    cases v <;> simp [Value.isStrOf] at z
    exact ⟨_, _, rfl⟩
  have mk : ∀ vs : List Value, (∀ v ∈ vs, ∃ x t, v = Value.str x t) → ∃ xs : List Str, StrsAre vs xs ∧ ∀ x, x ∈ xs ↔ ∃ t, Value.str x t ∈ vs := by
    intro vs
    induction vs with
    | nil => exact fun _ => ⟨[], .nil, fun x => by simp⟩
    | cons v vs ih =>
      intro h
      obtain ⟨x, t, rfl⟩ := h v List.mem_cons_self
      obtain ⟨xs, h1, h2⟩ := ih fun u hu => h u (List.mem_cons_of_mem _ hu)
      refine ⟨x :: xs, .cons x t h1, fun y => ?_⟩
      rw [List.mem_cons, h2 y]
      constructor
      · rintro (rfl | ⟨u, hu⟩)
        · exact ⟨t, List.mem_cons_self⟩
        · exact ⟨u, List.mem_cons_of_mem _ hu⟩
      · rintro ⟨u, hu⟩
        rcases List.mem_cons.mp hu with z | z
        · injection z with z1 z2
          exact .inl z1
        · exact .inr ⟨u, z⟩
  obtain ⟨xs, h1, h2⟩ := mk vs all
  refine ⟨xs, h1, ?_⟩
  have hl : xs.length = l.length := by rw [← F.sz, ← h1.length, pm.length_eq, List.length_map, Array.length_toList]
  have sub : ∀ y, y ∈ l ↔ y ∈ xs := fun y => by
    rw [h2 y, F.mem y]
    constructor
    · rintro ⟨e, he, q⟩
      obtain ⟨x, t, ev⟩ := all e.2 (pm.mem_iff.mpr (List.mem_map.mpr ⟨e, he, rfl⟩))
      have z : Value.isStrOf y e.2 = true := q
      rw [ev] at z
      have z2 : x = y := by
        simp only [Value.isStrOf, beq_iff_eq] at z
        first | exact z | exact z.symm
      refine ⟨t, ?_⟩
      rw [← z2, ← ev]
      exact pm.mem_iff.mpr (List.mem_map.mpr ⟨e, he, rfl⟩)
    · rintro ⟨t, ht⟩
      obtain ⟨e, he, q⟩ := List.mem_map.mp (pm.mem_iff.mp ht)
      exact ⟨e, he, by rw [q]; exact is_str y t⟩
  exact (perm_len nd (fun y hy => (sub y).mp hy) hl).symm
/-- sorted(set) -/
theorem sorted_sx {a : Addr} {l : List Str} {Q : Value → Shared → Prop} (R : SxOk P w s.heap a l) (hh : A.handled = none) (h64 : l.length < 64)
    (hQ : ∀ s' p (out : Array Value) (c : Nat) (xs : List Str), (∀ b o, s.heap.get? b = some o → s'.heap.get? b = some o) → s'.gens = s.gens → s'.os = s.os → s.heap.objs.size ≤ p →
      s'.heap.get? p = some (seqObj "list" out c) → StrsAre out.toList xs → xs.Perm l → sortedS xs = true → Q (.ref p) s') :
    wpAny (model P w) A (call (.builtin "sorted") [.ref a]) Q E s := by
  obtain ⟨D, ho, F, nd, hb, r, led⟩ := R
  have hsz : D.1.size < scanBound := by rw [F.sz]; exact hb
  refine Calls.call_function_entry kind_sorted plain_sorted entry_sorted (args_sorted1 _) ?_
  unfold Builtin.«sorted»
  refine wpAny_bind (m := checkCount "sorted" 1 1 _) (wpAny_pure (wpAny_bind (collect_set (A := A.in1) hh ⟨_, ho, rfl, rfl⟩ F.fit hsz r led fun s1 vs k1 hz g1 o1 pm => ?_)))
  obtain ⟨xs, hx, px⟩ := tx_values F nd vs pm
  have hvl : vs.length < 64 := by rw [hx.length, px.length_eq]; exact h64
  refine wpAny_bind (wpAny_newList ?_ (by rw [sizeLine_eq]; omega))
  have hoL : (s1.heap.push (seqObj "list" vs.toArray 0)).get? s1.heap.objs.size = some (seqObj "list" vs.toArray 0) := Heap.get?_push_size _ rfl
  refine wpAny_bind (wpAny_holding (wpAny_call_entry slot_list_sort ⟨_, hoL, rfl⟩ entry_list_sort (list_sort_treeK strKind_oneLt hoL hx.keysOf (fun v1 v2 rest e => keyKind_strs (by rw [← e]; exact hx)) hvl fun st hp hs => ⟨_, rfl, ?_⟩) (args_list_sort _)))
  obtain ⟨ys, y1, y2, y3⟩ := sorted_out_str hx hp hs
  obtain ⟨c, hc⟩ := sortedHeap_at (vs := vs) (out := (arrOf st).map (·.2)) hoL
  refine wpAny_pure ⟨_, rfl, hQ _ s1.heap.objs.size _ c ys (fun b u e => ?_) g1 o1 hz hc y1 (y2.trans px) y3⟩
  have q := k1 b u e
  have hlt := Heap.lt_size q
  show (sortedHeap (s1.heap.push (seqObj "list" vs.toArray 0)) s1.heap.objs.size vs _).get? b = some u
  rw [sortedHeap_old (Nat.ne_of_lt hlt) (by rw [size_push']; exact Nat.lt_succ_of_lt hlt)]
  exact Heap.get?_push_of_some _ q
end
/-- the set of the texts l -/
def SxO (P : Program) (w : World) (a : Addr) (l : List Str) : HO := .ext fun h => SxOk P w h a l
theorem sxO_new {w : World} {P : Program} {H : Hp} {h : Heap} {a : Addr} {l : List Str} (R : SxOk P w h a l) : ObjOk P w H h a (SxO P w a l) := by
  obtain ⟨D, ho, r⟩ := R
  exact ⟨⟨D, ho, r⟩, ⟨_, ho⟩, fun h1 h2 p k => SxOk.at p k⟩
section
variable {X : Cx}
theorem sxO_get {pins : List (Addr × Obj)} {σ : L2.St} {H : Hp} {s : Shared} {a : Addr} {l : List Str} (I : Inv X pins σ H s) (ha : H a = some (SxO X.prog X.w a l)) : SxOk X.prog X.w s.heap a l := (I.hok a _ ha).1
/-- set(xs), xs a list or tuple of texts -/
def rSetX (P : Program) (w : World) (K : PySem.W.Frag) : List V → Hp → VK → Prop := fun vs H Q => ∃ (a : Addr) (xs : List Str), vs = [V.ref a] ∧ (SqL K H a (xs.map V.str) ∨ SqT K H a (xs.map V.str)) ∧ (dd xs).length + 1 < scanBound ∧
  ∀ p, H p = none → Q (.ref p) (upd H p (SxO P w p (dd xs)))
theorem cr_setX (hc : X.calm = true) : CallR X (.type "set") (rSetX X.prog X.w X.K) := by
  intro pins s σ H vs us Q I r h
  obtain ⟨a, xs, rfl, hs, hb, q⟩ := h
  rw [Vals.ref1 r]
  have fin : ∀ (h' : Heap) (tk : Nat), SxOk X.prog X.w h' s.heap.objs.size (dd xs) → (∀ b o, s.heap.get? b = some o → h'.get? b = some o) → EP X pins σ Q (.ref s.heap.objs.size) { s with heap := h', toks := tk } := fun h' tk ok k =>
    ⟨.ref _, upd H s.heap.objs.size (SxO X.prog X.w s.heap.objs.size (dd xs)), I.laid (t' := tk) k (Nat.le_refl _) (sxO_new ok), rfl, q _ (I.hok.fresh (Nat.le_refl _))⟩
  rcases hs with hs | hs
  · obtain ⟨its, rv, hl, _⟩ := I.list hs
    exact call_set_sq sqkL (I.ok.hd hc) hl.isList (strsAre_of rv) hb fin
  · obtain ⟨its, rv, hl, _⟩ := I.tuple hs
    exact call_set_sq sqkT (I.ok.hd hc) hl (strsAre_of rv) hb fin
/-- len(set) -/
def rLenX (P : Program) (w : World) : List V → Hp → VK → Prop := fun vs H Q => ∃ (a : Addr) (l : List Str), vs = [V.ref a] ∧ H a = some (SxO P w a l) ∧ Q (.int l.length) H
theorem cr_lenX : CallR X (.builtin "len") (rLenX X.prog X.w) := by
  intro pins s σ H vs us Q I r h
  obtain ⟨a, l, rfl, ha, q⟩ := h
  obtain ⟨D, ho, F, nd, hb, _⟩ := sxO_get I ha
  rw [Vals.ref1 r]
  have e : D.1.size = l.length := F.sz
  have z : l.length < 2 ^ 62 := Nat.lt_of_lt_of_le hb (by unfold scanBound; decide)
  exact call_len_set ho ⟨rfl, rfl, rfl⟩ rfl F.fit (by omega) ⟨.int l.length, H, I.tok _, ⟨_, by rw [e]⟩, q⟩
/-- sorted(set) -/
def rSortX (P : Program) (w : World) : List V → Hp → VK → Prop := fun vs H Q => ∃ (a : Addr) (l : List Str), vs = [V.ref a] ∧ H a = some (SxO P w a l) ∧ l.length < 64 ∧
  ∀ (xs : List Str) (p : Addr), xs.Perm l → sortedS xs = true → H p = none → Q (.ref p) (upd H p (.lst (xs.map V.str)))
theorem cr_sortX (hc : X.calm = true) : CallR X (.builtin "sorted") (rSortX X.prog X.w) := by
  intro pins s σ H vs us Q I r h
  obtain ⟨a, l, rfl, ha, h64, q⟩ := h
  have R := sxO_get I ha
  rw [Vals.ref1 r]
  refine sorted_sx R (I.ok.hd hc) h64 fun s' p out c xs k g o hp hg hi px hs => ?_
  have hlen : (xs.map V.str).length ≤ sizeLine := by rw [List.length_map, px.length_eq, sizeLine_eq]; omega
  have J : Inv X pins σ (upd H p (.lst (xs.map V.str))) { s with heap := s'.heap, gens := s'.gens, drawn := s'.drawn, toks := s'.toks } :=
    I.call (ch := []) (Un.laid k hp (I.hok.fresh hp)) (I.hok.laid k hp ⟨hlen, out.toList, c, vals_of_strs hi, hg⟩) (by rw [g]; exact I.bare) (fun _ z => nomatch z)
  have e : s' = { s with heap := s'.heap, gens := s'.gens, drawn := s'.drawn, toks := s'.toks } := by
    obtain ⟨x1, x2, x3, x4, x5⟩ := s'
    obtain ⟨y1, y2, y3, y4, y5⟩ := s
    obtain rfl : x5 = y5 := o
    rfl
  rw [e]
  exact ⟨.ref p, _, J, rfl, q xs p px hs (I.hok.fresh hp)⟩
end
/-- the ascending list of what is in xs -/
theorem rising_pair : ∀ {p : Str} {xs : List Str}, risingS p xs = true → (p :: xs).Pairwise fun a b => ¬ b.cps.toList < a.cps.toList
  | p, [], _ => List.pairwise_singleton _ _
  | p, x :: xs, h => by
    have h' : (!ltCps x.cps.toList p.cps.toList && risingS x xs) = true := h
    rw [Bool.and_eq_true] at h'
    have ih := rising_pair h'.2
    have a : ¬ x.cps.toList < p.cps.toList := by
      have z := h'.1
      rw [ltCps_eq] at z
      simpa using z
    refine List.pairwise_cons.mpr ⟨fun y hy => ?_, ih⟩
    rcases List.mem_cons.mp hy with e | e
    · rw [e]; exact a
    · have b := (List.pairwise_cons.mp ih).1 y e
      exact List.not_lt.mpr (List.le_trans (List.not_lt.mp a) (List.not_lt.mp b))
theorem sorted_pair : ∀ {xs : List Str}, sortedS xs = true → xs.Pairwise fun a b => ¬ b.cps.toList < a.cps.toList
  | [], _ => List.Pairwise.nil
  | x :: xs, h => rising_pair h
theorem str_ext {a b : Str} (h : a.cps.toList = b.cps.toList) : a = b := by
  cases a; cases b
  simp only [Str.mk.injEq]
  exact Array.toList_inj.mp h
theorem pair_unique : ∀ {xs ys : List Str}, (xs.Pairwise fun a b => ¬ b.cps.toList < a.cps.toList) → (ys.Pairwise fun a b => ¬ b.cps.toList < a.cps.toList) → xs.Perm ys → xs = ys
  | [], ys, _, _, p => (List.nil_perm.mp p).symm
  | x :: xs, [], _, _, p => absurd p.symm (by simp)
  | x :: xs, y :: ys, a, b, p => by
    obtain ⟨a1, a2⟩ := List.pairwise_cons.mp a
    obtain ⟨b1, b2⟩ := List.pairwise_cons.mp b
    have e : x = y := by
      rcases List.mem_cons.mp (p.mem_iff.mp List.mem_cons_self) with q | q
      · exact q
      · rcases List.mem_cons.mp (p.mem_iff.mpr (List.mem_cons_self (a := y) (l := ys))) with r | r
        · exact r.symm
        · exact str_ext (List.le_antisymm (List.not_lt.mp (a1 y r)) (List.not_lt.mp (b1 x q)))
    subst e
    rw [pair_unique a2 b2 (p.cons_inv)]
theorem sortedS_unique {xs ys : List Str} (a : sortedS xs = true) (b : sortedS ys = true) (p : xs.Perm ys) : xs = ys := pair_unique (sorted_pair a) (sorted_pair b) p
end Hb
set_option maxHeartbeats 4000000
/-! a class's own == (and != by it) and len -/
namespace Hb
open PySem PySem.Spec PyProof.Rows L2
section
variable {prog : Program} {w : World} {A : Around} {E : Value → Shared → Prop} {s : Shared} {K : PySem.W.Frag} {x C f : Addr} {ox : Obj} {od : Option Obj} {tb b : Value}
/-- what comes behind != by ==: a truth, turned round -/
def Turned (Q : Value → Shared → Prop) (v : Value) (s' : Shared) : Prop := ∃ c : Bool, v = .bool c ∧ Q (.bool (!c)) s'
theorem ne_body {Q : Fin → Shared → Prop} (hu : A.units < cLine) (X : K.In s.heap) (I : PySem.W.InstAt s.heap x ox C od) (he : PySem.W.findIn K (.ref C) "__eq__" = some (some (.ref f))) (hf : PySem.W.isFn K (.ref f) = true)
    (h : wpAny (model prog w) A (call (.ref f) [.ref x, b]) (Turned fun v s' => Q (.done (.ret v)) s') E s) : wpAny (model prog w) A (Builtin.«object.__ne__» ⟨[.ref x, b], []⟩) Q E s := by
  unfold Builtin.«object.__ne__»
  refine wpAny_bind (m := slotArgs "__ne__" 1 _) (wpAny_pure (wpAny_bind (wpAny_cRoomFor hu ?_)))
  refine wpAny_bind (m := callSpecialIfBound? (.ref x) (Str.ofString "__eq__") [b]) (PySem.W.ifBound_K X I he hf (wpAny_mono h (fun v s' z => ?_) fun _ _ z => z))
  obtain ⟨c, rfl, q⟩ := z
  exact wpAny_bind (m := truthy (.bool c)) (wpAny_truthy_bool (wpAny_pure q))
theorem ne_bound {M : Model} {args : List Value} {Q : Option Value → Shared → Prop} (X : K.In s.heap) (I : PySem.W.InstAt s.heap x ox C od) (hs : PySem.W.findIn K (.ref C) "__ne__" = some (some (.builtin "object.__ne__")))
    (h : wpAny M A (call (.builtin "object.__ne__") (.ref x :: args)) (fun v => Q (some v)) E s) : wpAny M A (callSpecialIfBound? (.ref x) "__ne__" args) Q E s := by
  have go : wpAny M A (call (.builtin "object.__ne__") ([.ref x] ++ args) >>= fun v => pure (some v)) Q E s := wpAny_bind (wpAny_mono h (fun _ _ z => wpAny_pure z) fun _ _ z => z)
  unfold callSpecialIfBound? bindSpecialIfBound?
  refine wpAny_holding (wpAny_bind (wpAny_bind (wpAny_bind (I.type.here ((PySem.W.looks_findIn X hs).here (wpAny_bind (wpAny_askSetting (wpAny_ite ?_))))))))
  split
  · exact wpAny_bind (wpAny_of_eq (F.cmp_object.ne.bind _) (wpAny_pure go))
  · exact wpAny_tryCatch (wpAny_bind (wpAny_of_eq (F.cmp_object.ne.bind _) (wpAny_pure go)))
theorem ne_K {Q : Value → Shared → Prop} (hu : A.in1.units < cLine) (X : K.In s.heap) (I : PySem.W.InstAt s.heap x ox C od) (hb : PySem.W.Looks (model prog w) s.heap (typeOf b) tb) (hn : PySem.W.notFirst K C tb = true) (hm : PySem.W.mroIn K C (.type "object") = some true)
    (hs : PySem.W.findIn K (.ref C) "__ne__" = some (some (.builtin "object.__ne__"))) (he : PySem.W.findIn K (.ref C) "__eq__" = some (some (.ref f))) (hf : PySem.W.isFn K (.ref f) = true)
    (h : wpAny (model prog w) A.in1 (call (.ref f) [.ref x, b]) (Turned Q) E s) : wpAny (model prog w) A (richCompare .NotEq (.ref x) b) Q E s := by
  have hu0 : A.units < cLine := Nat.lt_of_le_of_lt (Nat.le_succ _) (by simpa using hu)
  have ask : ∀ R : Option Value → Shared → Prop, (∀ v s', Q v s' → (∃ c, v = Value.bool c) → R (some v) s') → wpAny (model prog w) A (tryCompare (.ref x) "__ne__" b) R E s := fun R hR => by
    unfold tryCompare
    refine wpAny_bind (ne_bound X I hs (wpAny_call (codeAny_call_builtin F.cmp_object.ne.plain F.cmpEntry_ne (PySem.W.check_slot F.cmpKind_ne F.cmpSplit_ne (I.type.andThen (PySem.W.looks_mroIn X hm)) (F.cmpArgs_ne _ _)
      (ne_body hu X I he hf (wpAny_mono h (fun v s' z => ?_) fun _ _ z => z))))))
    obtain ⟨c, rfl, q⟩ := z
    exact ⟨c, rfl, wpAny_pure (hR _ _ q ⟨_, rfl⟩)⟩
  unfold richCompare
  simp only [oneThing_ref]
  refine wpAny_holding (wpAny_bind (wpAny_cRoomFor hu0 ?_))
  first | refine wpAny_bind (I.type.here (wpAny_bind (hb.here ?_))) | refine I.type.here (wpAny_bind (hb.here ?_))
  have last : ∀ (k : Option Value → Sem Value), (∀ v, k (some v) = pure v) → wpAny (model prog w) A (tryCompare (.ref x) "__ne__" b >>= k) Q E s := fun k hk =>
    wpAny_bind (ask _ fun v s' q _ => by rw [hk]; exact wpAny_pure q)
  have sub : ¬ (Value.ref C != tb) = true ∨ PySem.W.subIn K tb (.ref C) = some false := by
    unfold PySem.W.notFirst at hn
    rw [Bool.or_eq_true, beq_iff_eq, beq_iff_eq] at hn
    exact hn.imp (fun e => by rw [e]; simp) id
  split
  · rename_i c
    refine wpAny_bind ((PySem.W.looks_subIn X (sub.resolve_left fun z => z c)).here ?_)
    simp only [Bool.false_eq_true, if_false]
    exact last _ fun v => rfl
  · refine wpAny_bind (wpAny_pure ?_)
    simp only [Bool.false_eq_true, if_false]
    exact last _ fun v => rfl
end
/-- x == y (or another comparison), x an instance of a class with a def for it -/
def rOwnP (K : PySem.W.Frag) (C : Addr) (sp : Sp) (E : XK) : R2 := fun x y H Q => ∃ a dx fs tb, x = .ref a ∧ H a = some (.ins C dx fs) ∧ TyX K H y tb ∧ PySem.W.notFirst K C tb = true ∧ sp [x, y] H Q E
/-- x != y by its == -/
def rOwnN (K : PySem.W.Frag) (C : Addr) (sp : Sp) (E : XK) : R2 := fun x y H Q => ∃ a dx fs tb, x = .ref a ∧ H a = some (.ins C dx fs) ∧ TyX K H y tb ∧ PySem.W.notFirst K C tb = true ∧ sp [x, y] H (fun v H' => ∃ c, v = .bl c ∧ Q (.bl (!c)) H') E
/-- len(x) by its def -/
def rOwnL (C : Addr) (sp : Sp) (E : XK) : List V → Hp → VK → Prop := fun xs H Q => ∃ a dx fs, xs = [.ref a] ∧ H a = some (.ins C dx fs) ∧ sp [.ref a] H (fun v H' => ∃ n : Nat, v = .int n ∧ n < 2 ^ 62 ∧ Q v H') E
section
variable {X : Cx} {CX : CXT} {pins : List (Addr × Obj)} {σ : L2.St} {H : Hp} {s : Shared} {C g : Addr} {n : Nat} {sp : Sp} {E : XK}
theorem tyx_looks {y : V} {u tb : Value} {M : Model} (I : Inv X pins σ H s) (r : RelV y u) (t : TyX X.K H y tb) : PySem.W.Looks M s.heap (typeOf u) tb := by
  obtain ⟨P, Z, p, _⟩ := kit_of I r t
  exact Z.ty M _ I.kIn p
theorem op_ownP {op : CmpOp} (hop : ∀ a b, compareOp op a b = richCompare op a b) (hs : PySem.W.findIn X.K (.ref C) (cmpInfo op).2.1 = some (some (.ref g))) (hf : PySem.W.isFn X.K (.ref g) = true) (F : FnR X.prog X.w X.K X.mg X.base CX n g sp)
    (hr : Room n X.A) (hx : Passes CX X E) : OpR X (compareOp op) (rOwnP X.K C sp E) := by
  intro pins s σ H x y v u Q I rx ry h
  obtain ⟨a, dx, fs, tb, rfl, ha, ht, hn, q⟩ := h
  cases (show v = Value.ref a from rx)
  obtain ⟨mA, J, _⟩ := ins_get I.hok ha
  obtain ⟨od, J, _⟩ := J.look
  obtain ⟨m, hF⟩ := I.fr
  rw [hop]
  refine PySem.W.cmp_K hr.units0 hF I.ok.mod.kin J (tyx_looks I ry ht) hn hs hf (wpAny_mono (wpAny_call (run_fnR (us := [.ref a, u]) (vs := [.ref a, y]) F hr hx I (.cons rfl (.cons ry .nil)) q)) (fun w s' z => ?_) fun _ _ z => z)
  obtain ⟨z', H', I', rz, qz⟩ := z
  exact SlX.cmpback rz ⟨z', H', I', rz, qz⟩
theorem op_ownN (hm : PySem.W.mroIn X.K C (.type "object") = some true) (hs : PySem.W.findIn X.K (.ref C) "__ne__" = some (some (.builtin "object.__ne__"))) (he : PySem.W.findIn X.K (.ref C) "__eq__" = some (some (.ref g))) (hf : PySem.W.isFn X.K (.ref g) = true)
    (F : FnR X.prog X.w X.K X.mg X.base CX n g sp) (hr : Room (n + 1) X.A) (hx : Passes CX X E) : OpR X (compareOp .NotEq) (rOwnN X.K C sp E) := by
  intro pins s σ H x y v u Q I rx ry h
  obtain ⟨a, dx, fs, tb, rfl, ha, ht, hn, q⟩ := h
  cases (show v = Value.ref a from rx)
  obtain ⟨mA, J, _⟩ := ins_get I.hok ha
  obtain ⟨od, J, _⟩ := J.look
  refine ne_K (K := X.K) (C := C) (hr.in1.units0) I.kIn J (tyx_looks I ry ht) hn hm hs he hf (wpAny_mono (wpAny_call (SlX.run_at F hr.in1 I.env0.in1 hx I (us := [.ref a, u]) (ws := [.ref a, y]) (.cons rfl (.cons ry .nil)) q)) (fun w s' z => ?_) fun _ _ z => z)
  obtain ⟨z', H', I', rz, c, rfl, qz⟩ := z
  cases rz
  exact ⟨c, rfl, .bl (!c), H', I', rfl, qz⟩
theorem cr_ownL (hs : PySem.W.findIn X.K (.ref C) "__len__" = some (some (.ref g))) (hf : PySem.W.isFn X.K (.ref g) = true) (F : FnR X.prog X.w X.K X.mg X.base CX n g sp) (hr : Room (n + 1) X.A) (hx : Passes CX X E) : CallR X (.builtin "len") (rOwnL C sp E) := by
  intro pins s σ H xs us Q I r h
  obtain ⟨a, dx, fs, rfl, ha, q⟩ := h
  rw [Vals.ref1 r]
  obtain ⟨mA, J, _⟩ := ins_get I.hok ha
  obtain ⟨od, J, _⟩ := J.look
  obtain ⟨m, hF⟩ := I.fr
  refine PySem.W.len_K hF I.ok.mod.kin J hs hf (wpAny_mono (wpAny_call (SlX.run_at F hr.in1 I.env0.in1 hx I (us := [.ref a]) (ws := [.ref a]) (.cons rfl .nil) q)) (fun w s' z => ?_) fun _ _ z => z)
  obtain ⟨z', H', I', rz, k, rfl, hk, qz⟩ := z
  obtain ⟨t, rfl⟩ := (show ∃ t, w = Value.int (k : Int) t from rz)
  exact ⟨⟨by omega, by omega⟩, .int (k : Int), H', I'.tok _, ⟨_, rfl⟩, qz⟩
end
end Hb
set_option maxHeartbeats 4000000
namespace Hb
open PySem PySem.Spec PyProof.Rows L2
abbrev st_start : Stmt := top 28
abbrev st_same : Stmt := top 31
theorem sc_start : FnScope ["_law_script"] ["_law_script"] (defScope st_start) := ⟨rfl, rfl, rfl, by decide +kernel, rfl, by decide +kernel, by decide +kernel⟩
theorem sc_same : FnScope ["_law_found", "_law_due"] ["_law_found", "_law_due"] (defScope st_same) := ⟨rfl, rfl, rfl, by decide +kernel, rfl, by decide +kernel, by decide +kernel⟩
def spStart (K : PySem.W.Frag) : Sp := fun vs H Q _ => ∃ (x : Addr) (ns : List Int), vs = [.ref x] ∧ SqL K H x (ns.map V.int) ∧ ns.length ≤ 63 ∧
  ∀ (a b : Addr) (H' : Hp), H a = none → H b = none → Spr a b 20000000 H' → Kp [] H H' → Q (.ref a) H'
def spSame (K : PySem.W.Frag) : Sp := fun vs H Q _ => ∃ (a b : Addr) (d : PyData), vs = [.ref a, .ref b] ∧ Dp K H (.ref a) d ∧ Dp K H (.ref b) d ∧ d.showable = true ∧ d.shown.length ≤ sizeLine ∧ d.depth ≤ 30 ∧ Q (.bl true) H
section
variable {P : Program} {w : World} {K : PySem.W.Frag} {mg : Str → Option Value} {base : Heap} {f f1 f2 : Addr} {fd fd1 fd2 : FuncData}
theorem ok_start (D : Df K mg "_law_start" st_start ["_law_script"] f fd) (B : Bl mg) : FnOk P w K mg base CX0 1 f fd ["_law_script"] (spStart K) := by
  refine D.fn.ok sc_start (fun vs H Q E h => ?_) (fun cdv A outer s H vs Q E hr h => ?_)
  · obtain ⟨x, ns, rfl, _⟩ := h
    rfl
  obtain ⟨x, ns, rfl, hx, hn, q⟩ := h
  refine ⟨_, PSs.nox (pss_one (ps_ret (pe_lst (pa_cons (pe_callTy call_list_of (by rfl) B.list (by decide +kernel) (pa_cons (pv 0) pa_nil)) (pa_cons pe_int (pa_cons pe_int (pa_cons pe_int pa_nil))))))), ?_⟩
  refine ⟨_, rfl, x, _, rfl, .inl hx, fun l hl => ?_⟩
  refine ⟨by show 4 ≤ sizeLine; decide, fun a ha => ?_⟩
  have nal : a ≠ l := fun e => by rw [e, upd_same] at ha; cases ha
  have ha0 : H a = none := by rw [upd_ne nal] at ha; exact ha
  exact q a l _ ha0 hl ⟨ns, 0, 0, 0, upd_same, by rw [upd_ne nal.symm, upd_same], hn, by decide, by decide, by decide, by decide⟩ (((Kp.refl _ _).new hl _).new ha _)
theorem ok_same (D : Df K mg "_law_same" st_same ["_law_found", "_law_due"] f fd) (B : Bl mg) : FnG P w K mg base CX0 1 f fd ["_law_found", "_law_due"] (spSame K) := by
  refine okG D.fn sc_same (fun vs H Q E h => ?_) (fun cdv A outer s H vs Q E hg hr h => ?_)
  · obtain ⟨a, b, d, rfl, _⟩ := h
    rfl
  obtain ⟨a, b, d, rfl, ha, hb, h1, h2, h3, q⟩ := h
  refine ⟨_, PSs.nox (pss_one (ps_ret (pe_cmpR op_eq (pe_callB (call_reprD hg hr.units) (by rfl) B.repr (by decide +kernel) (pa_cons (pv 0) pa_nil)) (pe_callB (call_reprD hg hr.units) (by rfl) B.repr (by decide +kernel) (pa_cons (pv 1) pa_nil)) rfl))), ?_⟩
  refine ⟨_, rfl, a, d, rfl, ha, h1, h2, h3, _, rfl, b, d, rfl, hb, h1, h2, h3, ?_⟩
  refine ⟨rfl, ?_⟩
  rw [decide_eq_true rfl]
  exact q
end
end Hb
set_option maxHeartbeats 4000000
namespace Hb
open PySem PySem.Spec PyProof.Rows L2
def isTup : PyData → Bool
  | .tuple _ => true
  | _ => false
mutual
/-- v is d, with lists (those of L, in order) in the place of some tuples -/
inductive Ld (K : PySem.W.Frag) (H : Hp) : V → PyData → List Addr → Prop
  | leaf {v : V} {d : PyData} : Tp K H v d → isTup d = false → Ld K H v d []
  | tup {a : Addr} {vs : List V} {ds : List PyData} {L : List Addr} : SqT K H a vs → LdA K H vs ds L → Ld K H (.ref a) (.tuple ds) L
  | lst {a : Addr} {vs : List V} {ds : List PyData} {L : List Addr} : H a = some (.lst vs) → LdA K H vs ds L → Ld K H (.ref a) (.tuple ds) (a :: L)
inductive LdA (K : PySem.W.Frag) (H : Hp) : List V → List PyData → List Addr → Prop
  | nil : LdA K H [] [] []
  | cons {v : V} {vs : List V} {d : PyData} {ds : List PyData} {L M : List Addr} : Ld K H v d L → LdA K H vs ds M → LdA K H (v :: vs) (d :: ds) (L ++ M)
end
section
variable {K : PySem.W.Frag} {H H1 : Hp} {S : List Addr}
mutual
theorem Ld.keep (k : Kp S H H1) : ∀ {v : V} {d : PyData} {L : List Addr}, (∀ x ∈ L, x ∉ S) → Ld K H v d L → Ld K H1 v d L
  | _, _, _, _, .leaf h n => .leaf (h.keep k) n
  | _, _, _, n, .tup h a => .tup (k.seqT h) (LdA.keep k n a)
  | _, _, _, n, .lst h a => .lst (k.keep _ _ h (n _ List.mem_cons_self)) (LdA.keep k (fun x hx => n x (List.mem_cons_of_mem _ hx)) a)
theorem LdA.keep (k : Kp S H H1) : ∀ {vs : List V} {ds : List PyData} {L : List Addr}, (∀ x ∈ L, x ∉ S) → LdA K H vs ds L → LdA K H1 vs ds L
  | _, _, _, _, .nil => .nil
  | _, _, _, n, .cons h t => .cons (Ld.keep k (fun x hx => n x (List.mem_append_left _ hx)) h) (LdA.keep k (fun x hx => n x (List.mem_append_right _ hx)) t)
end
mutual
theorem Ld.mem : ∀ {v : V} {d : PyData} {L : List Addr}, Ld K H v d L → ∀ x ∈ L, H x ≠ none
  | _, _, _, .leaf _ _, x, h => by cases h
  | _, _, _, .tup _ a, x, h => LdA.mem a x h
  | _, _, _, .lst e a, x, h => by
    rcases List.mem_cons.mp h with q | q
    · rw [q, e]; exact fun z => nomatch z
    · exact LdA.mem a x q
theorem LdA.mem : ∀ {vs : List V} {ds : List PyData} {L : List Addr}, LdA K H vs ds L → ∀ x ∈ L, H x ≠ none
  | _, _, _, .nil, x, h => by cases h
  | _, _, _, .cons h t, x, m => by
    rcases List.mem_append.mp m with q | q
    · exact Ld.mem h x q
    · exact LdA.mem t x q
end
theorem LdA.snoc : ∀ {vs : List V} {ds : List PyData} {L : List Addr} {v : V} {d : PyData} {M : List Addr}, LdA K H vs ds L → Ld K H v d M → LdA K H (vs ++ [v]) (ds ++ [d]) (L ++ M)
  | _, _, _, v, d, M, .nil, h => by
    have := LdA.cons h (LdA.nil (K := K) (H := H))
    rw [List.append_nil] at this
    exact this
  | _, _, _, v, d, M, .cons h t, g => by
    have := LdA.cons h (LdA.snoc t g)
    rw [← List.append_assoc] at this
    exact this
theorem LdA.length : ∀ {vs : List V} {ds : List PyData} {L : List Addr}, LdA K H vs ds L → vs.length = ds.length
  | _, _, _, .nil => rfl
  | _, _, _, .cons _ t => congrArg (· + 1) t.length
theorem tp_typ {v : V} {d : PyData} (h : Tp K H v d) : ∃ T, TyP K H v T ∧ (decide (T = "tuple") = isTup d) := by
  cases h with
  | non => exact ⟨_, ty_non, decide_eq_false (by decide)⟩
  | bl b => exact ⟨_, ty_bl, decide_eq_false (by decide)⟩
  | int i => exact ⟨_, ty_int, decide_eq_false (by decide)⟩
  | str x => exact ⟨_, ty_str, decide_eq_false (by decide)⟩
  | tup q _ => exact ⟨_, ty_seqT q, decide_eq_true rfl⟩
theorem tpa_get : ∀ {vs : List V} {ds : List PyData} {i : Nat} {x : V}, TpA K H vs ds → vs[i]? = some x → ∃ d, ds[i]? = some d ∧ Tp K H x d
  | [], _, _, _, _, h => by simp at h
  | v :: vs, _, 0, x, .cons h1 h2, e => by
    have : v = x := by simpa using e
    subst this
    exact ⟨_, rfl, h1⟩
  | v :: vs, _, i + 1, x, .cons h1 h2, e => by
    obtain ⟨d, a, b⟩ := tpa_get (i := i) h2 (by simpa using e)
    exact ⟨d, by simpa using a, b⟩
end
theorem wts_take : ∀ {ds : List PyData} {i : Nat} {d : PyData}, ds[i]? = some d → wts (ds.take (i + 1)) = wts (ds.take i) + (wt d + 2)
  | [], i, d, h => by simp at h
  | x :: xs, 0, d, h => by
    have : x = d := by simpa using h
    subst this
    simp [wts]
  | x :: xs, i + 1, d, h => by
    have := wts_take (ds := xs) (i := i) (by simpa using h)
    simp only [List.take_succ_cons, wts] at this ⊢
    omega
theorem wts_le : ∀ (ds : List PyData) (i : Nat), wts (ds.take i) ≤ wts ds
  | [], i => by simp
  | x :: xs, 0 => by simp [wts]
  | x :: xs, i + 1 => by
    have := wts_le xs i
    simp only [List.take_succ_cons, wts]
    omega
theorem len_wts : ∀ ds : List PyData, ds.length ≤ wts ds
  | [] => Nat.le_refl _
  | x :: xs => by
    have := len_wts xs
    simp only [List.length_cons, wts]
    omega
theorem dep_mem : ∀ {ds : List PyData} {i : Nat} {d : PyData}, ds[i]? = some d → d.depth ≤ PyData.depthAll ds
  | [], i, d, h => by simp at h
  | x :: xs, 0, d, h => by
    have : x = d := by simpa using h
    subst this
    simp only [PyData.depthAll]
    omega
  | x :: xs, i + 1, d, h => by
    have := dep_mem (ds := xs) (i := i) (by simpa using h)
    simp only [PyData.depthAll]
    omega
def spListed (K : PySem.W.Frag) (D : Nat) : Sp := fun vs H Q _ => ∃ (a b : Addr) (n : Nat) (v : V) (d : PyData), vs = [.ref a, v] ∧ Spr a b (n + wt d) H ∧ Tp K H v d ∧ d.depth < D ∧ wt d ≤ 8000000 ∧
  ∀ (r : V) (L : List Addr) (H' : Hp), Ld K H' r d L → L.Nodup → (∀ x ∈ L, H x = none) → Spr a b n H' → Kp [a, b] H H' → Q r H'
section
variable {P : Program} {w : World} {K : PySem.W.Frag} {mg : Str → Option Value} {base : Heap} {f f1 f2 : Addr} {fd fd1 fd2 : FuncData}
end
end Hb
set_option maxHeartbeats 4000000
namespace Hb
open PySem PySem.Spec PyProof.Rows L2
abbrev st_is_name : Stmt := top 11
abbrev st_is_list : Stmt := top 12
theorem sc_is_name : FnScope ["thing", "letter"] ["thing"] (defScope st_is_name) := ⟨rfl, rfl, rfl, by decide +kernel, rfl, by decide +kernel, by decide +kernel⟩
theorem sc_is_list : FnScope ["thing"] ["thing"] (defScope st_is_list) := ⟨rfl, rfl, rfl, by decide +kernel, rfl, by decide +kernel, by decide +kernel⟩
def nameB : V → Bool
  | .str x => decide (okName x)
  | _ => false
theorem abc_list : ("abcdefghijklmnopqrstuvwxyz" : Str).cps.toList = List.range' 97 26 := by decide +kernel
theorem abc_mem (c : Nat) : decide (c ∈ ("abcdefghijklmnopqrstuvwxyz" : Str).cps.toList) = decide (97 ≤ c ∧ c ≤ 122) := by
  rw [abc_list]
  apply decide_eq_decide.mpr
  rw [List.mem_range'_1]
  omega
def spIsInt (K : PySem.W.Frag) : Sp := fun vs H Q _ => ∃ (v : V) (T : String), vs = [v] ∧ TyP K H v T ∧ ∀ H', Kp [] H H' → Q (.bl (decide (T = "int"))) H'
def spIsList (K : PySem.W.Frag) : Sp := fun vs H Q _ => ∃ (v : V) (T : String), vs = [v] ∧ TyP K H v T ∧ ∀ H', Kp [] H H' → Q (.bl (decide (T = "list" ∨ T = "tuple"))) H'
def spIsName (K : PySem.W.Frag) : Sp := fun vs H Q _ => ∃ (v : V) (T : String), vs = [v] ∧ TyP K H v T ∧ (T = "str" → ∃ x : Str, v = .str x ∧ x.length ≤ 10000) ∧ ∀ H', Kp [] H H' → Q (.bl (nameB v)) H'
section
variable {P : Program} {w : World} {K : PySem.W.Frag} {mg : Str → Option Value} {base : Heap} {f f1 f2 : Addr} {fd fd1 fd2 : FuncData}
theorem ok_is_list (D : Df K mg "is_list" st_is_list ["thing"] f fd) (B : Bl mg) : FnOk P w K mg base CX0 1 f fd ["thing"] (spIsList K) := by
  refine D.fn.ok sc_is_list (fun vs H Q E h => ?_) (fun cdv A outer s H vs Q E hr h => ?_)
  · obtain ⟨v, T, rfl, _⟩ := h
    rfl
  obtain ⟨v, T, rfl, hT, q⟩ := h
  refine ⟨_, PSs.nox (pss_one (ps_ret (pe_callB call_isiT (by rfl) B.isi (by decide +kernel) (pa_cons (pv 0) (pa_cons (pe_tup (pa_cons (pe_bltn (v := .ty "list") (u := .type "list") (by rfl) B.list (by decide +kernel) rfl) (pa_cons (pe_bltn (v := .ty "tuple") (u := .type "tuple") (by rfl) B.tuple (by decide +kernel) rfl) pa_nil))) pa_nil))))), ?_⟩
  refine ⟨_, rfl, by show 2 ≤ sizeLine; decide, fun t ht => ?_⟩
  have kt : Kp [] H (upd H t (.tup [.ty "list", .ty "tuple"])) := (Kp.refl _ _).new ht _
  exact ⟨v, t, _, _, [.type "list", .type "tuple"], _, rfl, upd_same, .cons (.ty _) (.cons (.ty _) .nil), (hT.keep kt).ty, kit_seq hT.mem, q _ kt⟩
theorem ok_is_name (D : Df K mg "is_name" st_is_name ["thing"] f fd) (B : Bl mg) (hL : ∃ t, mg "LETTERS" = some (.str "abcdefghijklmnopqrstuvwxyz" t)) : FnOk P w K mg base CX0 1 f fd ["thing"] (spIsName K) := by
  obtain ⟨tL, gL⟩ := hL
  refine D.fn.ok sc_is_name (fun vs H Q E h => ?_) (fun cdv A outer s H vs Q E hr h => ?_)
  · obtain ⟨v, T, rfl, _⟩ := h
    rfl
  obtain ⟨v, T, rfl, hT, hs, q⟩ := h
  have nd := sc_is_name.nd
  refine ⟨_, PSs.nox (pss_one (ps_ret (pe_and (pe_callB call_isi (by rfl) B.isi (by decide +kernel) (pa_cons (pv 0) (pa_cons (pe_bltn (v := .ty "str") (u := .type "str") (by rfl) B.str (by decide +kernel) rfl) pa_nil))) (pe_and (pe_chain op_le op_le pe_int (pe_callB call_len (by rfl) B.len PySem.boot_len (pa_cons (pv 0) pa_nil)) pe_int) (pe_one (pe_callB (cr_all rfl) (by rfl) B.all (by decide +kernel) (pa_cons
     (pe_lc (own := [("letter", 1)]) (g := gName 1) (tt := tYes) rfl nd (pi_str (pv 0)) (blkOk_by (own := [("letter", 1)]) (N := ["thing", "letter"]) (sc := defScope st_is_name) (by decide +kernel)) (fun _ _ _ _ _ => pg_name (i := 1) nd rfl (Or.inl rfl)) (fun _ _ _ _ _ => pts_nil)
       (fun _ _ _ _ _ => pe_cmpR op_in_sign (pv 1) (pe_glob (v := .str "abcdefghijklmnopqrstuvwxyz") rfl gL ⟨_, rfl⟩) rfl)) pa_nil))))))), ?_⟩
  refine ⟨_, rfl, v, _, _, _, _, rfl, .ty "str", hT.ty, kit_ty (kit_str hT.mem), ?_⟩
  refine ⟨_, rfl, ?_⟩
  refine ite2 (fun c => ?_) (fun c => ?_)
  · obtain ⟨x, rfl, hx⟩ := hs (of_decide_eq_true c)
    refine ⟨_, rfl, _, x.length, rfl, ⟨by rw [sizeLine_eq]; omega, rfl⟩, ?_⟩
    refine ⟨_, _, rfl, rfl, ?_⟩
    refine ⟨_, rfl, ?_⟩
    have lenx : x.cps.toList.length = x.length := by simp [Str.length]
    refine ite2 (fun c1 => ?_) (fun c1 => ?_)
    · refine ⟨_, _, rfl, rfl, ?_⟩
      refine ⟨_, rfl, ?_⟩
      refine ite2 (fun c2 => ?_) (fun c2 => ?_)
      · have l1 : 1 ≤ x.length := by have := of_decide_eq_true c1; omega
        have l8 : x.length ≤ 8 := by have := of_decide_eq_true c2; omega
        refine ⟨_, rfl, x, rfl, fun D' hD => ?_⟩
        refine lc_it walk_str (fun i H' => H' D' = some (.lst (((x.cps.toList.take i).map fun c => decide (97 ≤ c ∧ c ≤ 122)).map V.bl)) ∧ Kp [] H H') ?_ (fun _ _ _ _ => trivial) ?_ ?_
        · exact ⟨upd_same, (Kp.refl _ _).new hD _⟩
        · rintro i y H1 H2 hi ⟨d1, d2⟩ ⟨rfl, c, hc, rfl⟩
          have hc' : x.cps.toList[i]? = some c := by rw [Array.getElem?_toList]; exact hc
          have et : x.cps.toList.take (i + 1) = x.cps.toList.take i ++ [c] := by rw [List.take_add_one, hc']; rfl
          refine ⟨rfl, ?_⟩
          refine ⟨_, rfl, _, _, rfl, rfl, ?_⟩
          refine ⟨_, d1, ?_, ?_, d2.own hD _⟩
          · have := List.length_take_le' i x.cps.toList
            rw [List.length_map, List.length_map, sizeLine_eq]
            omega
          · rw [upd_same, et, List.map_append, List.map_append, abc_mem]
            rfl
        · rintro H1 ⟨d1, d2⟩
          rw [List.take_of_length_le (by simp)] at d1
          refine ⟨D', _, rfl, SqL.of d1, ?_⟩
          have e : (x.cps.toList.map fun c => decide (97 ≤ c ∧ c ≤ 122)).all id = nameB (.str x) := by
            have e1 : (x.cps.toList.map fun c => decide (97 ≤ c ∧ c ≤ 122)).all id = decide (∀ c ∈ x.cps.toList, 97 ≤ c ∧ c ≤ 122) := by
              rw [Bool.eq_iff_iff, List.all_eq_true, decide_eq_true_iff]
              constructor
              · intro h c hc
                exact of_decide_eq_true (h _ (List.mem_map.mpr ⟨c, hc, rfl⟩))
              · intro h y hy
                obtain ⟨c, hc, rfl⟩ := List.mem_map.mp hy
                exact decide_eq_true (h c hc)
            rw [e1]
            apply decide_eq_decide.mpr
            exact ⟨fun h => ⟨l1, l8, h⟩, fun h => h.2.2⟩
          have := q H1 d2
          rw [← e] at this
          exact this
      · have e : nameB (.str x) = false := decide_eq_false fun h => by
          have h2 : ¬ ((x.length : Nat) : Int) ≤ 8 := of_decide_eq_false (Bool.eq_false_iff.mpr c2)
          have := h.2.1
          omega
        have := q H (Kp.refl _ _)
        rw [e] at this
        exact this
    · have e : nameB (.str x) = false := decide_eq_false fun h => by
        have h2 : ¬ (1 : Int) ≤ ((x.length : Nat) : Int) := of_decide_eq_false (Bool.eq_false_iff.mpr c1)
        have := h.1
        omega
      have := q H (Kp.refl _ _)
      rw [e] at this
      exact ⟨_, rfl, this⟩
  · have e : nameB v = false := by
      cases v with
      | str x =>
        exfalso
        have := hT.ty
        cases this with
        | base b => cases b; exact c (by decide)
      | _ => rfl
    have := q H (Kp.refl _ _)
    rw [e] at this
    exact this
end
end Hb
set_option maxHeartbeats 4000000
/-! xs.extend(t), t a list or a tuple -/
namespace Hb
open PySem PySem.Spec PyProof.Rows L2
theorem ext_tuple (l : Addr) (items : Array Value) (n : Nat) (b : Addr) (dd : Option Addr) (sl : Array (Option Value)) (more : Array Value) (n2 : Nat) (room : items.size + more.size ≤ sizeLine) :
    Meets (Builtin.«list.extend» ⟨[.ref l, .ref b], []⟩) (fun _ R s => s.heap.get? l = some { cls := .type "list", data := .seq items n } ∧ s.heap.get? b = some { cls := .type "tuple", dict := dd, data := .seq more n2, slots := sl } ∧
      R (.ok (.ret Value.none)) { s with heap := s.heap.update l (Obj.mapSeq fun x => x ++ more), toks := s.toks }) :=
  .of_wp fun prog w A R s h => by
    have long : Builtin.List.listTooLong (items.size + more.size) = false := notLongL room
    have door : ¬ (!items.isEmpty && Builtin.List.listTooLong (items.size + more.size)) = true := by rw [long, Bool.and_false]; exact Bool.false_ne_true
    have hz' : (items ++ more).size ≤ sizeLine + 1 := by rw [Array.size_append]; omega
    have hz : items.size ≤ sizeLine := by omega
    obtain ⟨hp, g, d, tk, os⟩ := s
    obtain ⟨hl, hb, h⟩ := h
    have f4 := sub_tuple_list
    have f2 := sub_tuple_tuple
    have f3 := sub_list_list
    wp_walk using (wpAny_updateSeq hl rfl (hz := hz) (_hz' := hz')), wpAny_loadPart' hl, wpAny_loadPart' hb
    exact ⟨_, rfl, h⟩
section
variable {X : Cx}
def rExtendA (K : PySem.W.Frag) : V → List V → Hp → VK → Prop := fun x vs H Q => ∃ l b xs zs, x = .ref l ∧ vs = [.ref b] ∧ H l = some (.lst xs) ∧ (H b = some (.lst zs) ∨ SqT K H b zs) ∧ xs.length + zs.length ≤ sizeLine ∧ Q .non (upd H l (.lst (xs ++ zs)))
theorem mt_extendA : MtM X "list.extend" (rExtendA X.K) := by
  intro pins s σ H x vs v us Q I rx rv h
  obtain ⟨l, b, xs, zs, rfl, rfl, hH, hB | hB, hz, q⟩ := h
  · exact mt_extend pins s σ H _ _ v us Q I rx rv ⟨l, b, xs, zs, rfl, rfl, hH, hB, hz, q⟩
  cases rx
  obtain ⟨u, rfl, ru⟩ := rv.one
  cases ru
  obtain ⟨z, its, n, r, hl, e⟩ := I.lstM hH
  obtain ⟨its2, r2, ⟨ob, e2, hc, n2, hd⟩, z2⟩ := I.tuple hB
  obtain ⟨oc, od, odt, osl⟩ := ob
  simp only at hc hd
  subst hc hd
  have hl2 := r2.length
  refine call_meets F.slot_list_extend ⟨_, e, rfl⟩ F.entry_list_extend (F.args_list_extend_2 _ _) (ext_tuple l its.toArray n b od osl its2.toArray n2 (by rw [List.size_toArray, List.size_toArray]; omega)) ⟨e, e2, ?_⟩
  exact ⟨.non, _, I.lset (its' := its ++ its2) hH e (by simp) (r.append r2) (by rw [List.length_append]; omega), rfl, q⟩
end
end Hb
set_option maxHeartbeats 4000000
/-! what is a list or a tuple, walked -/
namespace Hb
open PySem PySem.Spec PyProof.Rows L2
/-- a list or a tuple of xs -/
def SqA (K : PySem.W.Frag) (H : Hp) (a : Addr) (xs : List V) : Prop := H a = some (.lst xs) ∨ SqT K H a xs
section
variable {K : PySem.W.Frag} {H H1 : Hp} {a : Addr} {xs : List V} {S : List Addr}
theorem SqA.keep (h : SqA K H a xs) (k : Kp S H H1) (n : a ∉ S) : SqA K H1 a xs :=
  h.elim (fun q => .inl (k.keep _ _ q n)) (fun q => .inr (k.seqT q))
theorem SqA.ty (h : SqA K H a xs) : ∃ T, TyP K H (.ref a) T ∧ (T = "list" ∨ T = "tuple") :=
  h.elim (fun q => ⟨_, ty_seqL (SqL.of q), .inl rfl⟩) (fun q => ⟨_, ty_seqT q, .inr rfl⟩)
theorem SqA.lt (h : SqA K H a xs) : SqL K H a xs ∨ SqT K H a xs := h.elim (fun q => .inl (SqL.of q)) .inr
theorem SqA.bk (h : SqA K H a xs) : ∃ b : Bk, b.v = .ref a ∧ b.has K H xs ∧ ∀ (S : List Addr) (H' : Hp), a ∉ S → Kp S H H' → b.has K H' xs := by
  rcases h with h | h
  · exact ⟨.l a, rfl, SqL.of h, fun S H' n k => SqL.of (k.keep _ _ h n)⟩
  · exact ⟨.t a, rfl, h, fun S H' n k => k.seqT h⟩
end
def iSeq (K : PySem.W.Frag) (tl : TE) : TI := fun σ H R => tl σ H fun x H1 => ∃ (a : Addr) (xs : List V), x = .ref a ∧ SqA K H1 a xs ∧
  ∀ (J : It) (G : Hp → Prop), Walk J xs.length G (YAt xs) → (∀ (S : List Addr) (H' : Hp), a ∉ S → Kp S H1 H' → G H') → R J H1
theorem pi_seq {X : Cx} {tg l : Expr} {tl : TE} (hl : PE X l tl) : PI X tg l (iSeq X.K tl) := by
  refine ⟨fun pins s σ H R I h => ?_⟩
  refine thn (hl.run pins s σ H _ I h) fun v s1 ⟨x, H1, I1, r1, q1⟩ => ?_
  obtain ⟨a, xs, e, hs, q⟩ := q1
  subst e
  cases r1
  rcases hs with hs | hs
  · obtain ⟨its, rv, p, hz⟩ := I1.list (SqL.of hs)
    refine wpAny_pyIter_list p.isList ?_
    refine ⟨s1.heap.objs.size, [s1.heap.objs.size], _, _, H1, rfl, I1.kept (t' := s1.toks) fun b o e => Heap.get?_push_of_some _ e, turn_list a _, ⟨_, Heap.get?_push_size _ rfl, rfl, rfl⟩, fun b hb => ?_, q _ _ (walk_list (K := X.K) (a := a) (xs := xs)) fun S H' n k => SqL.of (k.keep _ _ hs n)⟩
    have e : b = s1.heap.objs.size := by simpa using hb
    subst e
    exact I1.fpOk (Nat.le_refl _) (I1.hok.fresh (Nat.le_refl _))
  · obtain ⟨its, rv, p, hz⟩ := I1.tuple hs
    refine wpAny_pyIter_tuple (show s1.heap.IsTuple a its.toArray from p) ?_
    refine ⟨s1.heap.objs.size, [s1.heap.objs.size], _, _, H1, rfl, I1.kept (t' := s1.toks) fun b o e => Heap.get?_push_of_some _ e, turn_tuple a _, ⟨_, Heap.get?_push_size _ rfl, rfl, rfl⟩, fun b hb => ?_, q _ _ (walk_tup (K := X.K) (a := a) (xs := xs)) fun S H' n k => k.seqT hs⟩
    have e : b = s1.heap.objs.size := by simpa using hb
    subst e
    exact I1.fpOk (Nat.le_refl _) (I1.hok.fresh (Nat.le_refl _))
/-- what is never come to -/
theorem ps_never {X : Cx} {st : Stmt} : PS X st (fun _ _ _ => False) := ⟨fun _ _ _ _ _ _ h => h.elim⟩
theorem pss_never {X : Cx} {st : List Stmt} : PSs X st (fun _ _ _ => False) := ⟨fun _ _ _ _ _ _ h => h.elim⟩
theorem pe_never {X : Cx} {e : Expr} : PE X e (fun _ _ _ => False) := ⟨fun _ _ _ _ _ _ h => h.elim⟩
/-- a slice of what is a list or a tuple, not the whole of it -/
def rSlQ (K : PySem.W.Frag) : V → Option Int → Option Int → Hp → VK → Prop := fun x lo hi H Q => ∃ (a : Addr) (xs : List V), x = .ref a ∧ SqA K H a xs ∧ ¬ (HT.sIx xs.length 0 lo = 0 ∧ HT.sIx xs.length xs.length hi = xs.length) ∧
  ∀ (p : Addr) (H' : Hp), H p = none → Kp [] H H' → SqA K H' p (cutV xs lo hi) → Q (.ref p) H'
theorem sl_sq {X : Cx} : SlR X (rSlQ X.K) := by
  intro pins s σ H x v vl vu lo hi sl Q I rx hs pl pu h
  obtain ⟨a, xs, rfl, hq, hn, q⟩ := h
  refine sl_any pins s σ H _ v vl vu lo hi sl Q I rx hs pl pu ?_
  rcases hq with hq | hq
  · exact .inl ⟨a, xs, rfl, SqL.of hq, fun p hp => q p _ hp ((Kp.refl _ _).new hp _) (.inl upd_same)⟩
  · exact .inr ⟨a, xs, rfl, hq, hn, fun p hp => q p _ hp ((Kp.refl _ _).new hp _) (.inr (SqT.of upd_same))⟩
/-- xs[i] of what is a list or a tuple -/
def rIxQ (K : PySem.W.Frag) : R2 := fun x y H Q => ∃ (a : Addr) (xs : List V) (i : Int) (v : V), x = .ref a ∧ y = .int i ∧ SqA K H a xs ∧ atI xs i = some v ∧ Q v H
theorem ix_sq {X : Cx} : IxR X (rIxQ X.K) := by
  intro value slice pins s σ H x y v u Q I rx ry h hs
  obtain ⟨a, xs, i, z, rfl, rfl, hq, e, q⟩ := h
  rcases hq with hq | hq
  · exact ix_list value slice pins s σ H _ _ v u Q I rx ry ⟨a, xs, i, z, rfl, rfl, SqL.of hq, e, q⟩ hs
  · exact ix_tup value slice pins s σ H _ _ v u Q I rx ry ⟨a, xs, i, z, rfl, rfl, hq, e, q⟩ hs
theorem PI.to {X : Cx} {tg l : Expr} {w w' : TI} (h : PI X tg l w') (q : w' = w) : PI X tg l w := by rw [← q]; exact h
/-- a comprehension with two clauses, the outer one over a list that stays; what the inner one owes is said as a turn -/
theorem lc2_list {K : PySem.W.Frag} {a : Addr} {xs : List V} {g g1 : TG} {tt tt1 : TT} {te : TE} {wi1 : TI} {vs vs1 : List Nat} {σ : L2.St} {H1 : Hp} {D : Addr} {Qd : Hp → Prop} (Pv : Nat → Hp → Prop) (h0 : Pv 0 (upd H1 D (.lst []))) (hl : ∀ i H, i ≤ xs.length → Pv i H → SqL K H a xs)
    (hs : ∀ i x H, xs[i]? = some x → Pv i H → g x (wipe σ vs) H fun σ2 H2 => wipe σ2 vs = wipe σ vs ∧ tt σ2 H2 fun b H3 =>
      if b = true then wi1 σ2 H3 fun J1 H4 => ∃ W1 : Nat → Nat → Hp → Prop, (∃ m, W1 0 m H4) ∧ ∀ j k H, W1 j k H →
        (J1.stop j H ∧ Pv (i + 1) H) ∨ (J1.go j H ∧ ∃ Nx1 : Hp → Prop, (∀ H', Nx1 H' → ∃ k', k' < k ∧ W1 (j + 1) k' H') ∧ ∀ x H', J1.yld j H x H' → g1 x (wipe σ2 vs1) H' fun σ3 H5 => wipe σ3 vs1 = wipe σ2 vs1 ∧ tt1 σ3 H5 fun b H6 =>
          if b = true then te σ3 H6 fun y H7 => ∃ acc, H7 D = some (.lst acc) ∧ acc.length < sizeLine ∧ Nx1 (upd H7 D (.lst (acc ++ [y]))) else Nx1 H6)
      else Pv (i + 1) H3) (hd : ∀ H, Pv xs.length H → Qd H) :
    ∃ W : Nat → Nat → Hp → Prop, (∃ m, W 0 m (upd H1 D (.lst []))) ∧ ∀ i m H, W i m H →
      ((Itl K a).stop i H ∧ Qd H) ∨ ((Itl K a).go i H ∧ ∃ Nx : Hp → Prop, (∀ H', Nx H' → ∃ m', m' < m ∧ W (i + 1) m' H') ∧ ∀ x H', (Itl K a).yld i H x H' → g x (wipe σ vs) H' fun σ2 H2 => wipe σ2 vs = wipe σ vs ∧ tt σ2 H2 fun b H3 =>
        if b = true then wi1 σ2 H3 fun J1 H4 => ∃ W1 : Nat → Nat → Hp → Prop, (∃ m, W1 0 m H4) ∧ ∀ j k H, W1 j k H →
          (J1.stop j H ∧ Nx H) ∨ (J1.go j H ∧ ∃ Nx1 : Hp → Prop, (∀ H', Nx1 H' → ∃ k', k' < k ∧ W1 (j + 1) k' H') ∧ ∀ x H', J1.yld j H x H' → g1 x (wipe σ2 vs1) H' fun σ3 H5 => wipe σ3 vs1 = wipe σ2 vs1 ∧ tt1 σ3 H5 fun b H6 =>
            if b = true then te σ3 H6 fun y H7 => ∃ acc, H7 D = some (.lst acc) ∧ acc.length < sizeLine ∧ Nx1 (upd H7 D (.lst (acc ++ [y]))) else Nx1 H6)
        else Nx H3) := by
  refine ⟨fun i m H => m = xs.length - i ∧ i ≤ xs.length ∧ Pv i H, ⟨xs.length, by simp, Nat.zero_le _, h0⟩, ?_⟩
  rintro i m H ⟨rfl, hi, p⟩
  have q := hl i H hi p
  by_cases hlt : i < xs.length
  · refine .inr ⟨⟨xs, xs[i], q, by simp [hlt]⟩, Pv (i + 1), fun H' p' => ⟨xs.length - (i + 1), by omega, rfl, hlt, p'⟩, fun x H' y => ?_⟩
    obtain ⟨e, y⟩ := y
    subst e
    exact hs i x _ (y xs q) p
  · have e : i = xs.length := by omega
    subst e
    exact .inl ⟨⟨xs, q, Nat.le_refl _⟩, hd H p⟩
/-- the inner clause over a list that stays -/
theorem in_list {K : PySem.W.Frag} {a : Addr} {xs : List V} {g1 : TG} {tt1 : TT} {te : TE} {vs1 : List Nat} {σ2 : L2.St} {H4 : Hp} {D : Addr} {Qd : Hp → Prop} (Pv : Nat → Hp → Prop) (h0 : Pv 0 H4) (hl : ∀ i H, i ≤ xs.length → Pv i H → SqL K H a xs)
    (hs : ∀ i x H, xs[i]? = some x → Pv i H → g1 x (wipe σ2 vs1) H fun σ3 H5 => wipe σ3 vs1 = wipe σ2 vs1 ∧ tt1 σ3 H5 fun b H6 =>
      if b = true then te σ3 H6 fun y H7 => ∃ acc, H7 D = some (.lst acc) ∧ acc.length < sizeLine ∧ Pv (i + 1) (upd H7 D (.lst (acc ++ [y]))) else Pv (i + 1) H6) (hd : ∀ H, Pv xs.length H → Qd H) :
    ∃ W1 : Nat → Nat → Hp → Prop, (∃ m, W1 0 m H4) ∧ ∀ j k H, W1 j k H →
      ((Itl K a).stop j H ∧ Qd H) ∨ ((Itl K a).go j H ∧ ∃ Nx1 : Hp → Prop, (∀ H', Nx1 H' → ∃ k', k' < k ∧ W1 (j + 1) k' H') ∧ ∀ x H', (Itl K a).yld j H x H' → g1 x (wipe σ2 vs1) H' fun σ3 H5 => wipe σ3 vs1 = wipe σ2 vs1 ∧ tt1 σ3 H5 fun b H6 =>
        if b = true then te σ3 H6 fun y H7 => ∃ acc, H7 D = some (.lst acc) ∧ acc.length < sizeLine ∧ Nx1 (upd H7 D (.lst (acc ++ [y]))) else Nx1 H6) := by
  refine ⟨fun i m H => m = xs.length - i ∧ i ≤ xs.length ∧ Pv i H, ⟨xs.length, by simp, Nat.zero_le _, h0⟩, ?_⟩
  rintro i m H ⟨rfl, hi, p⟩
  have q := hl i H hi p
  by_cases hlt : i < xs.length
  · refine .inr ⟨⟨xs, xs[i], q, by simp [hlt]⟩, Pv (i + 1), fun H' p' => ⟨xs.length - (i + 1), by omega, rfl, hlt, p'⟩, fun x H' y => ?_⟩
    obtain ⟨e, y⟩ := y
    subst e
    exact hs i x _ (y xs q) p
  · have e : i = xs.length := by omega
    subst e
    exact .inl ⟨⟨xs, q, Nat.le_refl _⟩, hd H p⟩
/-- .. over a tuple -/
theorem in_tup {K : PySem.W.Frag} {a : Addr} {xs : List V} {g1 : TG} {tt1 : TT} {te : TE} {vs1 : List Nat} {σ2 : L2.St} {H4 : Hp} {D : Addr} {Qd : Hp → Prop} (Pv : Nat → Hp → Prop) (h0 : Pv 0 H4) (hl : ∀ i H, i ≤ xs.length → Pv i H → SqT K H a xs)
    (hs : ∀ i x H, xs[i]? = some x → Pv i H → g1 x (wipe σ2 vs1) H fun σ3 H5 => wipe σ3 vs1 = wipe σ2 vs1 ∧ tt1 σ3 H5 fun b H6 =>
      if b = true then te σ3 H6 fun y H7 => ∃ acc, H7 D = some (.lst acc) ∧ acc.length < sizeLine ∧ Pv (i + 1) (upd H7 D (.lst (acc ++ [y]))) else Pv (i + 1) H6) (hd : ∀ H, Pv xs.length H → Qd H) :
    ∃ W1 : Nat → Nat → Hp → Prop, (∃ m, W1 0 m H4) ∧ ∀ j k H, W1 j k H →
      ((Itt K a).stop j H ∧ Qd H) ∨ ((Itt K a).go j H ∧ ∃ Nx1 : Hp → Prop, (∀ H', Nx1 H' → ∃ k', k' < k ∧ W1 (j + 1) k' H') ∧ ∀ x H', (Itt K a).yld j H x H' → g1 x (wipe σ2 vs1) H' fun σ3 H5 => wipe σ3 vs1 = wipe σ2 vs1 ∧ tt1 σ3 H5 fun b H6 =>
        if b = true then te σ3 H6 fun y H7 => ∃ acc, H7 D = some (.lst acc) ∧ acc.length < sizeLine ∧ Nx1 (upd H7 D (.lst (acc ++ [y]))) else Nx1 H6) := by
  refine ⟨fun i m H => m = xs.length - i ∧ i ≤ xs.length ∧ Pv i H, ⟨xs.length, by simp, Nat.zero_le _, h0⟩, ?_⟩
  rintro i m H ⟨rfl, hi, p⟩
  have q := hl i H hi p
  by_cases hlt : i < xs.length
  · refine .inr ⟨⟨xs, xs[i], q, by simp [hlt]⟩, Pv (i + 1), fun H' p' => ⟨xs.length - (i + 1), by omega, rfl, hlt, p'⟩, fun x H' y => ?_⟩
    obtain ⟨e, y⟩ := y
    subst e
    exact hs i x _ (y xs q) p
  · have e : i = xs.length := by omega
    subst e
    exact .inl ⟨⟨xs, q, Nat.le_refl _⟩, hd H p⟩
end Hb
set_option maxHeartbeats 4000000
/-! data that can be shown and compared -/
namespace Hb
open PySem PySem.Spec PyProof.Rows L2
mutual
def nice : PyData → Bool
  | .none => true
  | .bool _ => true
  | .int i => decide (i.natAbs < 10 ^ 31)
  | .str x => decide (∀ c ∈ x.cps.toList, c < 256)
  | .list xs => niceAll xs
  | .tuple xs => niceAll xs
  | .dict _ => false
def niceAll : List PyData → Bool
  | [] => true
  | x :: xs => nice x && niceAll xs
end
theorem log_small {n : Nat} (h : n < 10 ^ 31) : n.log2 < 1920 := by
  by_cases e : n = 0
  · subst e
    decide
  · exact (Nat.log2_lt e).mpr (Nat.lt_trans h (by decide +kernel))
mutual
theorem nice_show : ∀ {d : PyData}, nice d = true → d.showable = true
  | .none, _ => by simp only [PyData.showable]
  | .bool _, _ => by simp only [PyData.showable]
  | .int i, h => by
    simp only [PyData.showable, nice] at h ⊢
    exact decide_eq_true (log_small (of_decide_eq_true h))
  | .str _, _ => by simp only [PyData.showable]
  | .list xs, h => by
    simp only [PyData.showable, nice] at h ⊢
    exact nice_showAll h
  | .tuple xs, h => by
    simp only [PyData.showable, nice] at h ⊢
    exact nice_showAll h
  | .dict _, h => by simp [nice] at h
theorem nice_showAll : ∀ {ds : List PyData}, niceAll ds = true → PyData.showableAll ds = true
  | [], _ => by simp only [PyData.showableAll]
  | d :: ds, h => by
    simp only [niceAll, Bool.and_eq_true] at h
    simp only [PyData.showableAll, nice_show h.1, nice_showAll h.2, Bool.and_self]
end
mutual
theorem nice_lay : ∀ {d : PyData}, nice d = true → d.canLay0 = true
  | .none, _ => by simp only [PyData.canLay0]
  | .bool _, _ => by simp only [PyData.canLay0]
  | .int i, h => by simp only [PyData.canLay0]
  | .str x, h => by
    simp only [PyData.canLay0, nice] at h ⊢
    have h1 := of_decide_eq_true h
    show x.cps.all (· < 0x110000) = true
    rw [← Array.all_toList, List.all_eq_true]
    intro c hc
    have := h1 c hc
    exact decide_eq_true (by omega)
  | .list xs, h => by
    simp only [PyData.canLay0, nice] at h ⊢
    exact nice_layAll h
  | .tuple xs, h => by
    simp only [PyData.canLay0, nice] at h ⊢
    exact nice_layAll h
  | .dict _, h => by simp [nice] at h
theorem nice_layAll : ∀ {ds : List PyData}, niceAll ds = true → PyData.canLayAll0 ds = true
  | [], _ => by simp only [PyData.canLayAll0]
  | d :: ds, h => by
    simp only [niceAll, Bool.and_eq_true] at h
    simp only [PyData.canLayAll0, nice_lay h.1, nice_layAll h.2, Bool.and_self]
end
theorem nice_shaped {d : PyData} (h : nice d = true) (hd : d.depth ≤ 64) : SeqAt.shaped d = true := by
  unfold SeqAt.shaped
  rw [nice_lay h, decide_eq_true hd]
  rfl
theorem textFrom_le : ∀ (ts : List Str) (k : Nat) (acc : Str), (textFrom k acc ts).length ≤ acc.length + piled ts
  | [], k, acc => by
    show acc.length ≤ _
    exact Nat.le_add_right _ _
  | t :: r, k, acc => by
    have ih := textFrom_le r (k + 1) (acc ++ (if k > 0 then ", " else "" : String) ++ t)
    have e : (acc ++ (if k > 0 then ", " else "" : String) ++ t).length ≤ acc.length + 2 + t.length := by
      rw [strLen_append, strLen_append]
      split
      · exact Nat.le_refl _
      · show acc.length + 0 + t.length ≤ _
        omega
    have e2 : piled (t :: r) = t.length + 2 + piled r := by simp [piled]
    rw [e2]
    show (textFrom (k + 1) _ r).length ≤ _
    omega
theorem listText_le (ts : List Str) : (listText ts).length ≤ piled ts + 2 := by
  unfold listText
  rw [strLen_append]
  have h := textFrom_le ts 0 "["
  have e1 : ((("[" : String) : Str)).length = 1 := rfl
  have e2 : ((("]" : String) : Str)).length = 1 := rfl
  omega
theorem tupleText_le (ts : List Str) : (tupleText ts).length ≤ piled ts + 3 := by
  unfold tupleText
  rw [strLen_append, strLen_append]
  have e1 : ((("(" : String) : Str)).length = 1 := rfl
  have e3 : (((if ts.length == 1 then ",)" else ")" : String) : Str)).length ≤ 2 := by split <;> decide
  have e2 : (Str.join ", " ts).length ≤ piled ts := by
    cases ts with
    | nil => exact Nat.zero_le _
    | cons t r =>
      have := join_length_add (t :: r) (by simp)
      omega
  omega
mutual
theorem nice_len : ∀ {d : PyData}, nice d = true → d.shown.length ≤ wt d
  | .none, _ => by simp only [PyData.shown, wt]; decide
  | .bool b, _ => by
    simp only [PyData.shown, wt]
    cases b <;> decide
  | .int i, h => by
    simp only [PyData.shown, wt, nice] at h ⊢
    have := int_text_length_le10 (a := i) (k := 31) (by decide) (of_decide_eq_true h)
    have e : (Str.ofString (toString i)).length = (toString i).length := PySem.ofString_length _
    show (Str.ofString (toString i)).length ≤ 40
    omega
  | .str x, h => by
    simp only [PyData.shown, wt, nice] at h ⊢
    have h1 := of_decide_eq_true h
    have := PySem.StrLaws.reprText_len x fun c hc => by have := h1 c hc; omega
    omega
  | .list xs, h => by
    simp only [PyData.shown, wt, nice] at h ⊢
    have h1 := listText_le (PyData.shownAll xs)
    have h2 := nice_lenAll h
    omega
  | .tuple xs, h => by
    simp only [PyData.shown, wt, nice] at h ⊢
    have h1 := tupleText_le (PyData.shownAll xs)
    have h2 := nice_lenAll h
    omega
  | .dict _, h => by simp [nice] at h
theorem nice_lenAll : ∀ {ds : List PyData}, niceAll ds = true → piled (PyData.shownAll ds) ≤ wts ds
  | [], _ => by simp [PyData.shownAll, piled]
  | d :: ds, h => by
    simp only [niceAll, Bool.and_eq_true] at h
    have h1 := nice_len h.1
    have h2 := nice_lenAll h.2
    have e2 : piled (d.shown :: PyData.shownAll ds) = d.shown.length + 2 + piled (PyData.shownAll ds) := by simp [piled]
    simp only [PyData.shownAll, wts, e2]
    omega
end
mutual
theorem eqv_refl : ∀ {d : PyData}, nice d = true → PyData.eqv d d = true
  | .none, _ => by simp only [PyData.eqv]
  | .bool b, _ => by simp [PyData.eqv]
  | .int i, _ => by simp [PyData.eqv]
  | .str x, _ => by simp [PyData.eqv]
  | .list xs, h => by
    simp only [PyData.eqv, nice] at h ⊢
    exact eqv_reflAll h
  | .tuple xs, h => by
    simp only [PyData.eqv, nice] at h ⊢
    exact eqv_reflAll h
  | .dict _, h => by simp [nice] at h
theorem eqv_reflAll : ∀ {ds : List PyData}, niceAll ds = true → PyData.eqvAll ds ds = true
  | [], _ => by simp only [PyData.eqvAll]
  | d :: ds, h => by
    simp only [niceAll, Bool.and_eq_true] at h
    simp only [PyData.eqvAll, eqv_refl h.1, eqv_reflAll h.2, Bool.and_self]
end
theorem eqvAll_len : ∀ {xs ys : List PyData}, PyData.eqvAll xs ys = true → xs.length = ys.length
  | [], [], _ => rfl
  | [], _ :: _, h => by simp [PyData.eqvAll] at h
  | _ :: _, [], h => by simp [PyData.eqvAll] at h
  | _ :: xs, _ :: ys, h => by
    simp only [PyData.eqvAll, Bool.and_eq_true] at h
    exact congrArg (· + 1) (eqvAll_len h.2)
theorem niceAll_append : ∀ xs ys : List PyData, niceAll (xs ++ ys) = (niceAll xs && niceAll ys)
  | [], ys => by simp [niceAll]
  | x :: xs, ys => by
    have := niceAll_append xs ys
    simp only [List.cons_append, niceAll, this, Bool.and_assoc]
theorem niceAll_strs {xs : List Str} (h : ∀ x ∈ xs, ∀ c ∈ x.cps.toList, c < 256) : niceAll (xs.map PyData.str) = true := by
  induction xs with
  | nil => rfl
  | cons x xs ih =>
    simp only [List.map_cons, niceAll, nice, Bool.and_eq_true]
    exact ⟨decide_eq_true (h x List.mem_cons_self), ih fun y hy => h y (List.mem_cons_of_mem _ hy)⟩
end Hb
set_option maxHeartbeats 4000000
/-! a class's own __init__ that begins by super().__init__(e), the class an error over ValueError -/
namespace Hb
open PySem PySem.Spec PyProof.Rows L2 NdefX
/-- what stands of such a def behind the top: its function at f, its class at C, the cell of the class at cc, its code at cda -/
structure FunS (P : Program) (K : PySem.W.Frag) (C cc cda : Addr) (x qual : Str) (st : Stmt) (f : Addr) (fd : FuncData) : Prop where
  ex : ∃ (oc : Value) (od : Option Addr) (kV doc pm : Value) (an : Option Addr) (ct : Value) (osl : Array (Option Value)),
    fd = PySem.W.fnX x qual (defArgs st) (defBody st) (defScope st) [("__class__", cc)] .none kV doc pm an (.ref cda) ct ∧ K.lookup f = some ⟨oc, od, .func fd, osl⟩
  code : PySem.W.codeIn K (.ref cda) qual = true
  file : ∃ (cl : Value) (cd : Option Addr) (vs : Array Value) (sl : Array (Option Value)) (fi : Str) (tf : Tok), K.lookup cda = some ⟨cl, cd, .fields vs, sl⟩ ∧ vs[2]? = some (.str fi tf) ∧ ((P.main.file : Str) == fi) = true
  cell : ∃ (cl : Value) (cd : Option Addr) (sl : Array (Option Value)), K.lookup cc = some ⟨cl, cd, .cell (some (.ref C)), sl⟩
  top : (P.main.scope.names.lookup ("super" : Str)).isSome = false
/-- what stands of the class -/
structure SupC (K : PySem.W.Frag) (C : Addr) : Prop where
  ox : OexC K C
  cl : ∃ cd, PySem.W.clsIn K C = some cd
  tp : PySem.W.nsIn K PySem.cStatics "thirdparty.any" = some none
  ini : PySem.W.ks_superIn K C C "__init__" = some (some (.builtin "ValueError.__init__"))
  ve : PySem.W.subIn K (.ref C) (.type "ValueError") = some true
  me : PySem.W.mroIn K C (.ref C) = some true
theorem cells1 {cc : Addr} {h : Heap} {H : Hp} {v : Option Value} (hc : h.IsCell cc v) (hn : H cc = none) : CellsAt [(("__class__" : Str), cc)] ["__class__"] [none] h H := by
  have one : ∀ (y : Str) (c : Addr), List.lookup y [(("__class__" : Str), cc)] = some c → y = "__class__" ∧ c = cc := fun y c e => by
    rw [List.lookup_cons] at e
    cases b : (y == ("__class__" : Str)) with
    | true =>
      rw [b] at e
      exact ⟨eq_of_beq b, (Option.some.inj e).symm⟩
    | false =>
      rw [b] at e
      cases e
  refine ⟨rfl, fun y c e => ?_, fun x y c e1 e2 => (one _ _ e1).1.trans (one _ _ e2).1.symm, fun i y e => ?_⟩
  · obtain ⟨_, rfl⟩ := one y c e
    exact ⟨hn, v, hc⟩
  · cases i with
    | zero =>
      obtain rfl : "__class__" = y := Option.some.inj e
      exact ⟨cc, rfl, fun w z => by cases z⟩
    | succ i => cases e
section
variable {P : Program} {w : World} {K : PySem.W.Frag} {mg : Str → Option Value} {base : Heap} {CX : CXT} {A : Around} {C : Addr}
/-- ValueError's __init__, bound to the object at a, is called -/
theorem bound_init {X : Cx} {pins : List (Addr × Obj)} {σ : L2.St} {H : Hp} {s : Shared} {us : List Value} {Q : Value → Shared → Prop} {E : Value → Shared → Prop} {u a : Addr} (T : OexC X.K C) (I : Inv X pins σ H s)
    (hu : s.heap.get? u = some (PySem.W.kxs_mw "ValueError.__init__" a)) (e : H a = some (exo a C none)) (hl : us.length ≤ sizeLine) (h : ∀ s', Inv X pins σ H s' → Q .none s') :
    wpAny (model X.prog X.w) A (call (.ref u) us) Q E s := by
  obtain ⟨nm, q, N, bs, bm, sn, sub, ab, col, dd, k0, k1, k2, k3, k5, hC, hbm⟩ := T.cls
  obtain ⟨t1, ho⟩ := exo_at I.hok e
  have hC' := I.kIn _ _ hC
  obtain ⟨hp, g, d, t, os⟩ := s
  have FB := F.excBase_ValueError
  refine wpAny_call (codeAny_of_tree ?_)
  show wpAny _ A.in1 (callAny (.ref u) ⟨us, []⟩) _ _ _
  unfold callAny
  refine wpAny_bind (wpAny_load hu ?_)
  simp only [PySem.W.kxs_mw, show (Value.type "method-wrapper" == Value.type "method" || Value.type "method-wrapper" == Value.type "builtin_function_or_method" || Value.type "method-wrapper" == Value.type "method-wrapper") = true by decide, if_true]
  refine PySem.W.KFB.if_so (by decide) ?_
  refine wpAny_bind (PySem.W.check_bound_init FB.toExcCallFacts hC' ho rfl ?_)
  refine wpAny_bind (wpAny_pure (wpAny_pure ?_))
  refine ⟨plainId_quiet FB.init.plain _, codeAny_builtin FB.initEntry ?_⟩
  refine PySem.W.exc_init_tree (cls := .ref C) (t0 := t1) (dv := none) (c2 := .none) (c3 := .none) (b4 := .bool false) ho hl fun h' k hx _ => ?_
  have J := I.write (t' := t) (x := a) (e := a) (o := exo a C none) (by rw [e]; exact True.intro) (.inl rfl) k ⟨_, hx⟩ (exo_ok hx)
  have eu : upd H a (exo a C none) = H := by
    funext b
    by_cases hb : b = a
    · rw [hb, upd_same, e]
    · rw [upd_ne hb]
  rw [eu] at J
  exact h _ J
/-- the words of such a def -/
abbrev nfS (x qual : Str) (st : Stmt) (cc cda : Addr) : NF := ⟨x, qual, defArgs st, defBody st, defScope st, [("__class__", cc)], cda⟩
theorem okSup {cc cda f : Addr} {x qual : Str} {st : Stmt} {fd : FuncData} {N ps : List Str} {k : Nat} {sp : Sp} {e : Expr} {rest : List Stmt} {p0 p1 p2 p3 p4 : Pos} {ar : Arg}
    (F : FunS P K C cc cda x qual st f fd) (hbd : defBody st = .Expr (.Call (.Attribute (.Call (.Name "super" p0) [] [] p1) "__init__" p2) [e] [] p3) p4 :: rest)
    (S : NScope N ps ["__class__"] (defScope st)) (hsu : (defScope st).names.lookup ("super" : Str) = some .globalImplicit) (hp : ((defArgs st).posonlyargs ++ (defArgs st).args).head? = some ar) (hps : ps[0]? = some ar.arg)
    (T : SupC K C) (hmg : mg "super" = none) (many : ∀ vs H Q E, sp vs H Q E → vs.length = ps.length)
    (inside : ∀ (A : Around) (outer : List Env) (s : Shared) (H : Hp) (vs : List V) (Q : VK) (E : XK), A.guards = some [] → Room k (A.deeper (envF (nfS x qual st cc cda) f s.heap.objs.size)) → sp vs H Q E →
      ∃ (a : Addr) (te : TE) (t : TS), vs[0]? = some (.ref a) ∧ H a = some (exo a C none) ∧ PE (ncx CX P w K mg base N (nfS x qual st cc cda) f A outer s H E) e te ∧ PSs (ncx CX P w K mg base N (nfS x qual st cc cda) f A outer s H E) rest t ∧
        te (startF N vs [none]) H fun _ H1 => 1 = 1 ∧ H1 a = some (exo a C none) ∧ t { nx := fun _ H' => Q .non H', rt := Q } (startF N vs [none]) H1)
    (hca : ∀ env : Env, ∃ pl : Sem Bool, eval (.Call (.Attribute (.Call (.Name "super" p0) [] [] p1) "__init__" p2) [e] [] p3) env = (do
      let ov ← attributeBase (.Call (.Name "super" p0) [] [] p1) "__init__" env (eval (.Call (.Name "super" p0) [] [] p1) env)
      standAt p2.atName
      let (g, first) ← holding [ov] (getMethod ov "__init__" pl)
      callWith p3 g first (backTo p3 (starEach [e] env)) []) := by intro; exact ⟨_, rfl⟩)
    (hev : ∀ env : Env, starEach [e] env = (false, eval e env) :: starEach [] env := by intro; rfl) : FnG P w K mg base CX (k + 1) f fd ps sp := by
  obtain ⟨oc, od, kV, doc, pm, an, ct, osl, rfl, lk⟩ := F.ex
  refine ⟨fun h => many _ _ _ _ h, ?_⟩
  intro A outer s H args us vs Q E hg hr e0 hb r hsp
  have kin : K.In s.heap := e0.mod.kin.keeps (fun b o z => (e0.bs b o z).1)
  have lm : s.heap.NoLimit := e0.mod.nolimit.keeps (fun b o z => (e0.bs b o z).1)
  obtain ⟨cl1, cd1, sl1, hcell⟩ := F.cell
  obtain ⟨cl2, cd2, vs2, sl2, fi, tf, hcda, hfi, hfile⟩ := F.file
  obtain ⟨cd, hcd⟩ := T.cl
  obtain ⟨oC, hC1, hC2⟩ : ∃ oC, K.lookup C = some oC ∧ oC.data = .cls cd := by
    unfold PySem.W.clsIn at hcd
    split at hcd
    · rename_i c d cd' sl ho
      cases hcd
      exact ⟨_, ho, rfl⟩
    · cases hcd
  have hl := many _ _ _ _ hsp
  refine PySem.ks_codeAny_call_defAt hr.depth (kin _ _ lk) rfl lm (PySem.W.codeRec_of kin F.code) rfl hb S.nocell (fun y hy => ?_) (fun h0 hns hk => ?_) S.co S.gen S.kind
  · obtain ⟨n, v⟩ := y
    exact S.par n (List.of_mem_zip hy).1
  obtain ⟨a, te, t, hv0, ha, he, ht, hq⟩ := inside A outer s H vs Q E hg (hr.deeper _) hsp
  have hcc : H cc = none := (e0.bs cc _ (e0.mod.kin _ _ hcell)).2
  have I0 := inv_startN (CX := CX) (E := E) (F := nfS x qual st cc cda) (f := f) (N := N) (ws := [none]) (tk := s.toks + (ps.zip us).length) S hr.hd e0 hl r (cells1 ⟨_, kin _ _ hcell, rfl⟩ hcc) hns hk
  have lk1 : s.heap.get? f = some _ := kin _ _ lk
  show PySem.wpAt (model P w) (A.deeper (envF (nfS x qual st cc cda) f s.heap.objs.size)) (.func (defBody st) (envF (nfS x qual st cc cda) f s.heap.objs.size)) (execs (defBody st) (envF (nfS x qual st cc cda) f s.heap.objs.size)) (fun fl s' => CR CX outer P w H s Q E (.ok (.ret (match fl with | .ret v => v | _ => .none))) s') (ncx CX P w K mg base N (nfS x qual st cc cda) f A outer s H E).xe _
  rw [hbd]
  have kin0 : K.In h0 := kin.keeps hk
  have ok := I0.ok
  have hself : (ps.zip us).reverse.lookup ar.arg = some (Value.ref a) := by
    cases us with
    | nil =>
      cases vs with
      | nil => cases hv0
      | cons _ _ => cases r
    | cons u0 ur =>
      cases vs with
      | nil => cases hv0
      | cons v0 vr =>
        obtain rfl : v0 = .ref a := Option.some.inj hv0
        cases r with
        | cons r0 _ =>
          obtain rfl : u0 = Value.ref a := r0
          have ndP : ps.Nodup := by
            have q := S.nd.sublist (List.take_sublist (ps.length + 1) N)
            have pre := S.pre
            rw [show (["__class__"] : List Str).length = 1 from rfl] at pre
            rw [pre] at q
            exact (List.nodup_append.mp q).1
          exact zip_look ndP hps rfl
  have hint : interactive (envF (nfS x qual st cc cda) f s.heap.objs.size) = false := by
    unfold interactive
    show ((defScope st).kind == .module && _) = false
    rw [S.kind]
    rfl
  have hmem : ar.arg ∈ ps := List.mem_of_getElem? hps
  obtain ⟨pl, hca⟩ := hca (envF (nfS x qual st cc cda) f s.heap.objs.size)
  refine PySem.ks_wpAt_execs_cons (PySem.ks_wpAt_Expr_any (PySem.ks_wpAt_MethodCall (pl := pl) ?_ hca) (hi := hint))
  refine PySem.ks_wpAt_super_base (env := envF (nfS x qual st cc cda) f s.heap.objs.size) hsu (S.frk _ (by simp)) (by decide) rfl (kin0 _ _ lk) rfl hp rfl (kin0 _ _ hcda) rfl hfi hfile F.top ?_
  obtain ⟨mb, hb1, hb2⟩ := e0.mod.blt
  have kb : ∀ b o, base.get? b = some o → h0.get? b = some o := fun b o z => hk _ _ (e0.bs b o z).1
  refine PySem.W.ks_loadName_global (env := envF (nfS x qual st cc cda) f s.heap.objs.size) S.kind hsu (Calls.loadGlobal_builtin (env := envF (nfS x qual st cc cda) f s.heap.objs.size) (e0.mod.glob.keeps kb) hmg (hb1.keeps kb) ((hb2 _ (by decide)).trans (by first | boot_by_name | kernel_rfl)) ⟨rfl, ?_⟩)
  refine wpAny_loadName_free (env := envF (nfS x qual st cc cda) f s.heap.objs.size) S.kind (S.frk _ (by simp)) rfl ⟨_, kin0 _ _ hcell, rfl⟩ ?_
  refine wpAny_loadName_local (env := envF (nfS x qual st cc cda) f s.heap.objs.size) S.kind (S.par _ hmem) hns hself ?_
  refine PySem.ks_wpAny_isType_cls (kin0 _ _ hC1) hC2 ⟨rfl, ?_⟩
  obtain ⟨t0, hae⟩ := exo_at I0.hok ha
  refine PySem.ks_wpAny_call_super (kin0 _ _ hC1) hC2 hae rfl (fun c z => by cases z) (PySem.W.looks_mroIn kin0 T.me) fun h1 hso k1 => ?_
  have I1 := I0.kept (t' := s.toks + (ps.zip us).length) k1
  have kin1 : K.In h1 := kin0.keeps k1
  have J1 : PySem.W.InstAt h1 a _ C none := ⟨k1 _ _ hae, rfl, rfl, trivial⟩
  have hin : PySem.W.Looks (model P w) h1 (isInstance (.ref a) (.type "ValueError")) true := J1.type.andThen (PySem.W.looks_subIn kin1 T.ve)
  have hal : PySem.W.alongIn K "__init__" ((cd.mro.dropWhile (· != .ref C)).drop 1) = some (some (.builtin "ValueError.__init__")) := by
    have z := T.ini
    unfold PySem.W.ks_superIn at z
    rw [hcd] at z
    exact z
  have hmro : PySem.W.Looks (model P w) h1 (mroOf (.ref C)) cd.mro := fun A Q E s k q => wpAny_bind ((PySem.W.looks_clsIn kin1 hcd) A _ E s k (wpAny_pure q))
  refine PySem.W.kxs_getMethod PySem.W.kxs_ValueError hso (PySem.W.looks_opaque kin1 T.tp) hmro rfl kin1 hal hin (PySem.W.ks_ne kin1 J1 hcd) (by decide) ?_
  have I2 := ClX.pin_new (a := h1.objs.size) (o := PySem.W.kxs_mw "ValueError.__init__" a) (h' := h1.push (PySem.W.kxs_mw "ValueError.__init__" a)) (t' := s.toks + (ps.zip us).length + 1) I1 (fun b u z => Heap.get?_push_of_some _ z) (Nat.le_refl _) (Heap.get?_push_at rfl rfl) (fun v z => by cases z)
  rw [hev]
  have go := (pa_cons he pa_nil (hev _)).run p3 _ _ _ _ (fun ws H1 => ws.length = 1 ∧ H1 a = some (exo a C none) ∧ t { nx := fun _ H' => Q .non H', rt := Q } (startF N vs [none]) H1) I2 hq
  rw [hev] at go
  refine PySem.W.kxs_callWith (i := "ValueError.__init__") (x := a) rfl (Calls.evalArgs_plain (thn go ?_))
  rintro us2 s2 ⟨ws, H2, I3, r3, hw1, ha2, ht2⟩
  have hlen : us2.length ≤ sizeLine := by
    rw [← r3.length, hw1]
    decide
  refine ⟨ClX.pin_at I3, bound_init T.ox (ClX.unpin I3) (ClX.pin_at I3) ha2 hlen fun s3 I4 => ?_⟩
  refine PySem.wpAt_of_wpAny (wpAny_mono (ht.run [] _ _ H2 _ I4 ht2) (fun fl s' hs => ?_) fun _ _ z => z)
  cases fl with
  | next =>
    obtain ⟨σ', H', J, q⟩ := hs
    exact ⟨V.non, H', J.os, J.bare, J.base, J.hok, rfl, q⟩
  | ret u =>
    obtain ⟨v, σ', H', J, rv, q⟩ := hs
    exact ⟨v, H', J.os, J.bare, J.base, J.hok, rv, q⟩
  | brk =>
    obtain ⟨_, _, _, q⟩ := hs
    exact q.elim
  | cont =>
    obtain ⟨_, _, _, q⟩ := hs
    exact q.elim
end
end Hb
set_option maxHeartbeats 4000000
/-! data shown in a text; instances and errors made by defs whose promise holds where no repr is under way -/
namespace Hb
open PySem PySem.Spec PyProof.Rows L2
/-! ### shown -/
section
variable {prog : Program} {w : World} {A : Around} {E : Value → Shared → Prop} {s : Shared} {Q : Value → Shared → Prop}
theorem repr_obj {h₀ : Heap} {a : Addr} {d : PyData} {as : List Addr} (r : Reads h₀ (.ref a) d as) (hs : d.showable = true) (hsm : d.hasDict = true → sysModules ∉ as) (hg : A.guards = some []) (hu : A.units + (d.depth + 1) < cLine) (hk0 : ∀ b o, h₀.get? b = some o → s.heap.get? b = some o)
    (hsz : d.shown.length ≤ sizeLine) (hQ : ∀ h' u tk, (∀ b o, s.heap.get? b = some o → h'.get? b = some o) → Q (.str d.shown u) { s with heap := h', toks := tk }) : wpAny (model prog w) A (pyReprObj (.ref a)) Q E s := by
  obtain ⟨T, idr, S⟩ := showsBy_of_reads (prog := prog) (w := w) r hs hsm hsz
  unfold pyReprObj
  refine wpAny_bind (wpAny_cRoomFor (by omega) (wpAny_bind (wpAny_specialOf (name := Str.ofString "__repr__") (S.typeIs s hk0) S.slotRepr.lookup ?_)))
  refine wpAny_bind (m := callSpecialIfBound? (.ref a) (Str.ofString "__repr__")) (wpAny_callSpecialIfBound?_slotG (name := Str.ofString "__repr__") (S.typeIs s hk0) S.slotRepr (S.call A E s _ hg (by omega) hk0 fun h' u tk hk => ?_))
  exact wpAny_bind (wpAny_isInstance (T := "str") (b := true) rfl isSubtype_str_str (wpAny_pure (hQ h' u tk hk)))
end
/-- {x!r}: data without dicts -/
def tFmtD (K : PySem.W.Frag) (te : TE) : TE := fun σ H Q => te σ H fun x H1 => ∃ (a : Addr) (d : PyData), x = .ref a ∧ Dp K H1 x d ∧ d.showable = true ∧ d.shown.length ≤ sizeLine ∧ d.depth ≤ 30 ∧ Q (.str d.shown) H1
section
variable {X : Cx}
theorem pe_fmtD {e : Expr} {te : TE} {pos : Pos} (hg : X.A.guards = some []) (hu : X.A.units + 64 < cLine) (he : PE X e te) : PE X (.FormattedValue e 114 none pos) (tFmtD X.K te) := by
  refine ⟨fun pins s σ H Q I h => wpAny_FormattedValue_repr (thn (he.run pins s σ H _ I h) fun v s1 hv => ?_)⟩
  obtain ⟨x, H1, I1, r1, a, d, rfl, hd, hs, hz, hdep, q⟩ := hv
  obtain ⟨as, rd⟩ := Dp.reads I1 d _ v hd r1
  obtain rfl : v = Value.ref a := r1
  have nd := noDict_dp d _ hd
  refine repr_obj rd hs (PyData.noDict_hsm nd) hg (by omega) (fun _ _ z => z) hz fun h' u tk hk => ?_
  have J := I1.kept (t' := tk) hk
  exact wpAny_formatField_str ⟨.str d.shown, H1, J, ⟨_, rfl⟩, q⟩ ⟨.str d.shown, H1, J.tok _, ⟨_, rfl⟩, q⟩ hz
end
/-! ### made -/
theorem guards_make {A : Around} {C : Addr} {us : List Value} {kw : List (Str × Value)} (hg : A.guards = some []) : (A.under (.builtin "type.__call__" ⟨.ref C :: us, kw⟩)).guards = some [] := by
  show pushGuards (Code.guards (.builtin "type.__call__" ⟨.ref C :: us, kw⟩)) A.guards = some []
  rw [hg]
  have : (Code.builtin "type.__call__" ⟨.ref C :: us, kw⟩).isGuard = false := by
    show guardIds.contains "type.__call__" = false
    decide +kernel
  simp [Code.guards, this, pushGuards]
section
variable {X : Cx} {CX : CXT} {k : Nat} {f C : Addr} {fd : FuncData} {ps : List Str} {sp : Sp} {dvs : List V} {ds : List Value} {E : XK} {x m : Str} {p pos apos : Pos} {e o : Expr} {es : List Expr} {ta : TE} {t : TA}
theorem mkG {pins : List (Addr × Obj)} {σ : L2.St} {H : Hp} {s : Shared} {Q : VK} {us : List Value} {vs : List V} (M : Mk X.K C f) (F : FnG X.prog X.w X.K X.mg X.base CX k f fd ps sp) (hg : X.A.guards = some []) (hr : Room (k + 1) X.A) (hb : Binds X.K fd ps ds) (hd : Vals dvs ds)
    (hx : Passes CX X E) (I : Inv X pins σ H s) (r : Vals vs us)
    (h : ∀ x dx, H x = none → H dx = none → dx ≠ x → sp (.ref x :: (vs ++ dvs)) (upd (upd H dx (.own x)) x (.ins C dx [])) (fun v H2 => v = .non ∧ Q (.ref x) H2) E) :
    wpAny (model X.prog X.w) X.A (call (.ref C) us) (EP X pins σ Q) X.xe s := by
  have hq := h (s.heap.objs.size + 1) s.heap.objs.size (I.hok.fresh (Nat.le_succ _)) (I.hok.fresh (Nat.le_refl _)) (Nat.ne_of_lt (Nat.lt_succ_self _))
  have I2 := Inv.made (C := C) I
  have r2 := (show Vals (V.ref (s.heap.objs.size + 1) :: (vs ++ dvs)) (Value.ref (s.heap.objs.size + 1) :: (us ++ ds)) from .cons rfl (r.append hd))
  have hl : (Value.ref (s.heap.objs.size + 1) :: us ++ ds).length = ps.length := r2.length.symm.trans (F.many hq)
  have body := F.go (guards_make (C := C) (us := us) (kw := []) hg) (hr.make C us []) (I2.env0.make C us []) (hb _ (Value.ref (s.heap.objs.size + 1) :: us) I2.kIn hl) r2 hq
  refine wpAny_call (make_map (f := f) I.kIn M.makes M.init (beq_iff_eq.mp M.fn) (codeAny_mono body ?_))
  intro res s' hq'
  rcases res with z | fl
  · exact hx pins σ _ _ z s' I2 hq'
  · cases fl with
    | ret u =>
      obtain ⟨v, H', I3, rv, ev, q3⟩ := I2.after hq'
      subst ev
      exact ⟨rv, .ref (s.heap.objs.size + 1), H', I3, rfl, q3⟩
    | next => exact hq'.elim
    | brk => exact hq'.elim
    | cont => exact hq'.elim
theorem pe_makeG (M : Mk X.K C f) (F : FnG X.prog X.w X.K X.mg X.base CX k f fd ps sp) (hgu : X.A.guards = some []) (hr : Room (k + 1) X.A) (hg : Gl X x) (hm : X.mg x = some (.ref C)) (hb : Binds X.K fd ps ds) (hd : Vals dvs ds) (hx : Passes CX X E)
    (ha : PA X (e :: es) t) (hdb : (x == ("__debug__" : Str)) = false := by decide) (he : starEach (e :: es) X.env = (false, eval e X.env) :: starEach es X.env := by rfl) (hpl : (backTo pos (starEach es X.env)).any (·.1) = false := by rfl) :
    PE X (.Call (.Name x p) (e :: es) [] pos) (tMake C sp dvs E t) := by
  constructor
  intro pins s σ H Q I h
  apply wpAny_Call_Name_kw
  apply ld_glob I hg hm _ hdb
  apply PySem.W.callWith_K (h₀ := X.base) I.ok.mod.kin M.kp _ he hpl
  refine thn (ha.run pos pins s σ H _ I h) ?_
  rintro us s1 ⟨vs, H1, I1, r, q⟩
  exact ⟨I1.kIn, mkG M F hgu hr hb hd hx I1 r q⟩
/-- an error of an own class made, its __init__ keeping sp -/
theorem pmk_oexG (T : OexC X.K C) (iC : PySem.W.findIn X.K (.ref C) "__init__" = some (some (.ref f))) (tI : PySem.W.typeIn X.K (.ref f) = some (.type "function"))
    (F1 : FnG X.prog X.w X.K X.mg X.base CX k f fd ps sp) (hgu : X.A.guards = some []) (hr : Room (k + 1) X.A) (hb : Binds X.K fd ps ds) (hd : Vals dvs ds) (hx : Passes CX X (fun _ _ _ => False)) (hg : Gl X x) (hm : X.mg x = some (.ref C)) (ha : PA X (e :: es) t)
    (hdb : (x == ("__debug__" : Str)) = false := by decide) (he : starEach (e :: es) X.env = (false, eval e X.env) :: starEach es X.env := by rfl) (hpl : (backTo pos (starEach es X.env)).any (·.1) = false := by rfl) :
    PMk X (.Call (.Name x p) (e :: es) [] pos) (tMkO C sp dvs t) := by
  intro pins s σ H Q I h
  obtain ⟨nm, qn, N, bs, bm, sn, sub, ab, col, dd, k0, k1, k2, k3, k5, hC, hbm⟩ := T.cls
  apply wpAny_Call_Name_kw
  apply ld_glob I hg hm _ hdb
  apply PySem.W.callWith_K (h₀ := X.base) I.ok.mod.kin T.kC _ he hpl
  refine thn (ha.run pos pins s σ H _ I h) ?_
  rintro us s1 ⟨vs, H1, I1, r1, hz, q1⟩
  refine ⟨I1.kIn, ?_⟩
  show wpAny _ _ (call (.ref C) us) _ _ _
  obtain ⟨hp, g, dr, tk, os⟩ := s1
  have hsz := Nat.le_succ hp.objs.size
  have hq := q1 (hp.objs.size + 1) (I1.hok.fresh hsz)
  let h2 : Heap := (hp.push (PySem.W.kdv_tup us)).push (PySem.HandSPX.excO C hp.objs.size)
  have kk : ∀ b o, hp.get? b = some o → h2.get? b = some o := fun b o z => Heap.get?_push_of_some _ (Heap.get?_push_of_some _ z)
  have hget : h2.get? (hp.objs.size + 1) = some (PySem.HandSPX.excO C hp.objs.size) := by heap_get
  have I2 := I1.laid (t' := tk) (a := hp.objs.size + 1) (o := exo (hp.objs.size + 1) C none) (h' := h2) kk hsz (exo_ok hget)
  have r2 := (show Vals (V.ref (hp.objs.size + 1) :: (vs ++ dvs)) (Value.ref (hp.objs.size + 1) :: (us ++ ds)) from .cons rfl (r1.append hd))
  have hl : (Value.ref (hp.objs.size + 1) :: us ++ ds).length = ps.length := r2.length.symm.trans (F1.many hq)
  have hus : us.length ≤ sizeLine := by
    rw [← Paired.length r1, sizeLine_eq]
    omega
  have body := F1.go (E := fun _ _ _ => False) (guards_make (C := C) (us := us) (kw := []) hgu) (hr.make C us []) (I2.env0.make C us []) (hb _ (Value.ref (hp.objs.size + 1) :: us) I2.kIn hl) r2 hq
  apply wpAny_call
  apply PySem.HandSPX.call_own F.excBase_ValueError (fun Y => PySem.HandSPX.refsVE_contains Y bm hbm) (I1.kIn _ _ hC) (PySem.W.looks_findIn I1.kIn iC) (fun self => PySem.W.bind_fn I1.kIn self tI) hus
  refine codeAny_mono body ?_
  intro res s' hq'
  rcases res with er | fl
  · exact hx pins σ _ _ er s' I2 hq'
  · cases fl with
    | ret u =>
      obtain ⟨v, H2, os2, bare2, un2, hok2, rv, ev, d, fs, ea, ed, hd1, q2⟩ := hq'
      subst ev
      obtain ⟨h3, g3, d3, t3, os3⟩ := s'
      exact ⟨rv, mk_end (raises_own T.exC T.tyC) I1 hsz kk un2 hok2 os2 bare2 ea ed hd1 q2⟩
    | next => exact hq'.elim
    | brk => exact hq'.elim
    | cont => exact hq'.elim
end
end Hb
set_option maxHeartbeats 4000000
/-! copied: of data without dicts -/
namespace Hb
open PySem PySem.Spec PyProof.Rows L2
abbrev st_copied : Stmt := top 2
theorem sc_copied : FnScope ["thing", "item", "key"] ["thing"] (defScope st_copied) := ⟨rfl, rfl, rfl, by decide +kernel, rfl, by decide +kernel, by decide +kernel⟩
section
variable {K : PySem.W.Frag} {H H1 : Hp} {S : List Addr}
theorem SqL.keep0 {a : Addr} {xs : List V} (k : Kp [] H H1) (h : SqL K H a xs) : SqL K H1 a xs := by
  rcases h with (h | ⟨o, h⟩) | h
  · exact .inl (.inl (k.keep _ _ h List.not_mem_nil))
  · exact .inl (.inr ⟨o, k.frz _ _ _ h⟩)
  · exact .inr h
mutual
theorem dp_kept (k : Kp [] H H1) : ∀ (d : PyData) (v : V), Dp K H v d → Dp K H1 v d
  | .none, _, h => by cases h; exact .non
  | .bool b, _, h => by cases h; exact .bl b
  | .int i, _, h => by cases h; exact .int i
  | .str x, _, h => by cases h; exact .str x
  | .list ds, _, h => by
    cases h with
    | lst q a => exact .lst (SqL.keep0 k q) (dpa_kept k ds _ a)
  | .tuple ds, _, h => by
    cases h with
    | tup q a => exact .tup (k.seqT q) (dpa_kept k ds _ a)
  | .dict _, _, h => by cases h
theorem dpa_kept (k : Kp [] H H1) : ∀ (ds : List PyData) (vs : List V), DpAll K H vs ds → DpAll K H1 vs ds
  | [], _, h => by cases h; exact .nil
  | d :: ds, _, h => by
    cases h with
    | cons a b => exact .cons (dp_kept k d _ a) (dpa_kept k ds _ b)
end
theorem dpa_get : ∀ {vs : List V} {ds : List PyData} {i : Nat} {x : V}, DpAll K H vs ds → vs[i]? = some x → ∃ d, ds[i]? = some d ∧ Dp K H x d
  | [], _, _, _, _, h => by simp at h
  | v :: vs, _, 0, x, h, e => by
    cases h with
    | cons h1 h2 =>
      have : v = x := by simpa using e
      subst this
      exact ⟨_, rfl, h1⟩
  | v :: vs, _, i + 1, x, h, e => by
    cases h with
    | cons h1 h2 =>
      obtain ⟨d, a, b⟩ := dpa_get (i := i) h2 (by simpa using e)
      exact ⟨d, by simpa using a, b⟩
theorem dpa_length : ∀ {vs : List V} {ds : List PyData}, DpAll K H vs ds → vs.length = ds.length
  | [], _, h => by cases h; rfl
  | x :: vs, _, h => by
    cases h with
    | cons h1 h2 => exact congrArg (· + 1) (dpa_length h2)
end
mutual
/-- data whose lists stand at addresses of N -/
inductive Dn (K : PySem.W.Frag) (H : Hp) (N : Addr → Prop) : V → PyData → Prop
  | non : Dn K H N .non .none
  | bl (b : Bool) : Dn K H N (.bl b) (.bool b)
  | int (i : Int) : Dn K H N (.int i) (.int i)
  | str (x : Str) : Dn K H N (.str x) (.str x)
  | lst {a : Addr} {xs : List V} {ds : List PyData} : N a → H a = some (.lst xs) → DnA K H N xs ds → Dn K H N (.ref a) (.list ds)
  | tup {a : Addr} {xs : List V} {ds : List PyData} : SqT K H a xs → DnA K H N xs ds → Dn K H N (.ref a) (.tuple ds)
inductive DnA (K : PySem.W.Frag) (H : Hp) (N : Addr → Prop) : List V → List PyData → Prop
  | nil : DnA K H N [] []
  | cons {v : V} {vs : List V} {d : PyData} {ds : List PyData} : Dn K H N v d → DnA K H N vs ds → DnA K H N (v :: vs) (d :: ds)
end
section
variable {K : PySem.W.Frag} {H H1 : Hp} {S : List Addr} {N M : Addr → Prop}
mutual
theorem dn_keep (k : Kp S H H1) (n : ∀ a, N a → a ∉ S ∧ M a) : ∀ (d : PyData) (v : V), Dn K H N v d → Dn K H1 M v d
  | .none, _, h => by cases h; exact .non
  | .bool b, _, h => by cases h; exact .bl b
  | .int i, _, h => by cases h; exact .int i
  | .str x, _, h => by cases h; exact .str x
  | .list ds, _, h => by
    cases h with
    | lst m q a => exact .lst (n _ m).2 (k.keep _ _ q (n _ m).1) (dna_keep k n ds _ a)
  | .tuple ds, _, h => by
    cases h with
    | tup q a => exact .tup (k.seqT q) (dna_keep k n ds _ a)
  | .dict _, _, h => by cases h
theorem dna_keep (k : Kp S H H1) (n : ∀ a, N a → a ∉ S ∧ M a) : ∀ (ds : List PyData) (vs : List V), DnA K H N vs ds → DnA K H1 M vs ds
  | [], _, h => by cases h; exact .nil
  | d :: ds, _, h => by
    cases h with
    | cons a b => exact .cons (dn_keep k n d _ a) (dna_keep k n ds _ b)
end
mutual
theorem dn_dp : ∀ (d : PyData) (v : V), Dn K H N v d → Dp K H v d
  | .none, _, h => by cases h; exact .non
  | .bool b, _, h => by cases h; exact .bl b
  | .int i, _, h => by cases h; exact .int i
  | .str x, _, h => by cases h; exact .str x
  | .list ds, _, h => by
    cases h with
    | lst m q a => exact .lst (SqL.of q) (dna_dp ds _ a)
  | .tuple ds, _, h => by
    cases h with
    | tup q a => exact .tup q (dna_dp ds _ a)
  | .dict _, _, h => by cases h
theorem dna_dp : ∀ (ds : List PyData) (vs : List V), DnA K H N vs ds → DpAll K H vs ds
  | [], _, h => by cases h; exact .nil
  | d :: ds, _, h => by
    cases h with
    | cons a b => exact .cons (dn_dp d _ a) (dna_dp ds _ b)
end
mutual
theorem dn_there : ∀ (d : PyData) (v : V), Dn K H N v d → Dn K H (fun c => N c ∧ H c ≠ none) v d
  | .none, _, h => by cases h; exact .non
  | .bool b, _, h => by cases h; exact .bl b
  | .int i, _, h => by cases h; exact .int i
  | .str x, _, h => by cases h; exact .str x
  | .list ds, _, h => by
    cases h with
    | lst m q a => exact .lst ⟨m, by rw [q]; exact fun z => nomatch z⟩ q (dna_there ds _ a)
  | .tuple ds, _, h => by
    cases h with
    | tup q a => exact .tup q (dna_there ds _ a)
  | .dict _, _, h => by cases h
theorem dna_there : ∀ (ds : List PyData) (vs : List V), DnA K H N vs ds → DnA K H (fun c => N c ∧ H c ≠ none) vs ds
  | [], _, h => by cases h; exact .nil
  | d :: ds, _, h => by
    cases h with
    | cons a b => exact .cons (dn_there d _ a) (dna_there ds _ b)
end
theorem dna_snoc : ∀ {vs : List V} {ds : List PyData} {v : V} {d : PyData}, DnA K H N vs ds → Dn K H N v d → DnA K H N (vs ++ [v]) (ds ++ [d])
  | [], _, v, d, h, g => by
    cases h
    exact .cons g .nil
  | x :: vs, _, v, d, h, g => by
    cases h with
    | cons h1 h2 => exact .cons h1 (dna_snoc h2 g)
theorem dna_length : ∀ {vs : List V} {ds : List PyData}, DnA K H N vs ds → vs.length = ds.length
  | [], _, h => by cases h; rfl
  | x :: vs, _, h => by
    cases h with
    | cons h1 h2 => exact congrArg (· + 1) (dna_length h2)
theorem dp_typ {v : V} {d : PyData} (h : Dp K H v d) :
    (∃ T, TyP K H v T ∧ T ≠ "list" ∧ T ≠ "tuple" ∧ T ≠ "dict" ∧ ∀ (H' : Hp) (N : Addr → Prop), Dn K H' N v d) ∨ (∃ a vs ds, v = .ref a ∧ d = .list ds ∧ TyP K H v "list" ∧ SqL K H a vs ∧ DpAll K H vs ds) ∨ (∃ a vs ds, v = .ref a ∧ d = .tuple ds ∧ TyP K H v "tuple" ∧ SqT K H a vs ∧ DpAll K H vs ds) := by
  cases h with
  | non => exact .inl ⟨_, ty_non, by decide, by decide, by decide, fun _ _ => .non⟩
  | bl b => exact .inl ⟨_, ty_bl, by decide, by decide, by decide, fun _ _ => .bl b⟩
  | int i => exact .inl ⟨_, ty_int, by decide, by decide, by decide, fun _ _ => .int i⟩
  | str x => exact .inl ⟨_, ty_str, by decide, by decide, by decide, fun _ _ => .str x⟩
  | lst q a => exact .inr (.inl ⟨_, _, _, rfl, rfl, ty_seqL q, q, a⟩)
  | tup q a => exact .inr (.inr ⟨_, _, _, rfl, rfl, ty_seqT q, q, a⟩)
theorem Kp.none {a : Addr} (k : Kp [] H H1) (h : H1 a = none) : H a = none := k.free h List.not_mem_nil
end
def spCopied (K : PySem.W.Frag) (D : Nat) : Sp := fun vs H Q _ => ∃ (v : V) (d : PyData), vs = [v] ∧ Dp K H v d ∧ d.depth < D ∧ wt d ≤ 8000000 ∧ ∀ (r : V) (H' : Hp), Dn K H' (fun a => H a = none) r d → Kp [] H H' → Q r H'
section
variable {P : Program} {w : World} {K : PySem.W.Frag} {mg : Str → Option Value} {base : Heap} {f f1 f2 : Addr} {fd fd1 fd2 : FuncData}
theorem ok_copied1 {L0 D : Nat} (Df0 : Df K mg "copied" st_copied ["thing"] f fd) (G_copied : FnOk P w K mg base CX0 L0 f fd ["thing"] (spCopied K D)) (B : Bl mg) (hdi : mg "dict" = none) : FnOk P w K mg base CX0 (L0 + 1) f fd ["thing"] (spCopied K (D + 1)) := by
  refine Df0.fn.ok sc_copied (fun vs H Q E h => ?_) (fun cdv A outer s H vs Q E hr h => ?_)
  · obtain ⟨v, d, rfl, _⟩ := h
    rfl
  obtain ⟨v, d, rfl, hl, hd, hw, q⟩ := h
  have nd := sc_copied.nd
  refine ⟨_, PSs.nox (pss_cons (ps_if (pt_val (pe_callB call_isi (by rfl) B.isi (by decide +kernel) (pa_cons (pv 0) (pa_cons (pe_bltn (v := .ty "list") (u := .type "list") (by rfl) B.list (by decide +kernel) rfl) pa_nil))))
      (pss_one (ps_ret (pe_lc (own := [("item", 1)]) (g := gName 1) (tt := tYes) rfl nd (pi_list (pv 0)) (blkOk_by (own := [("item", 1)]) (N := ["thing", "item", "key"]) (sc := defScope st_copied) (by decide +kernel)) (fun _ _ _ _ _ => pg_name (i := 1) nd rfl (Or.inl rfl)) (fun _ _ _ _ _ => pts_nil)
        (fun _ _ _ _ _ => by (apply PE.to); (focus (exact pe_call G_copied hr (by rfl) Df0.gl Df0.fn.kp Df0.bd .nil pass0 (pa_cons (pv 1) pa_nil))); (focus ((try dsimp only [Cx.blk, Cx.nox, cxOf]); (try exact rfl))))))) pss_nil)
    (pss_cons (ps_if (pt_val (pe_callB call_isi (by rfl) B.isi (by decide +kernel) (pa_cons (pv 0) (pa_cons (pe_bltn (v := .ty "tuple") (u := .type "tuple") (by rfl) B.tuple (by decide +kernel) rfl) pa_nil))))
      (pss_one (ps_ret (pe_callTy call_tuple_of (by rfl) B.tuple (by decide +kernel) (pa_cons (pe_lc (own := [("item", 1)]) (g := gName 1) (tt := tYes) rfl nd (pi_tup (pv 0)) (blkOk_by (own := [("item", 1)]) (N := ["thing", "item", "key"]) (sc := defScope st_copied) (by decide +kernel)) (fun _ _ _ _ _ => pg_name (i := 1) nd rfl (Or.inl rfl)) (fun _ _ _ _ _ => pts_nil)
        (fun _ _ _ _ _ => by (apply PE.to); (focus (exact pe_call G_copied hr (by rfl) Df0.gl Df0.fn.kp Df0.bd .nil pass0 (pa_cons (pv 1) pa_nil))); (focus ((try dsimp only [Cx.blk, Cx.nox, cxOf]); (try exact rfl))))) pa_nil)))) pss_nil)
    (pss_cons (ps_if (pt_val (pe_callB call_isi (by rfl) B.isi (by decide +kernel) (pa_cons (pv 0) (pa_cons (pe_bltn (v := .ty "dict") (u := .type "dict") (by rfl) hdi (by decide +kernel) rfl) pa_nil)))) pss_never pss_nil)
    (pss_one (ps_ret (pv 0)))))), ?_⟩
  -- the items, one by one
  have turn : ∀ (vs : List V) (ds : List PyData) (D' : Addr), DpAll K H vs ds → PyData.depthAll ds < D → wts ds ≤ 8000000 → H D' = none → ∀ (i : Nat) (y : V) (H' : Hp) (us : List V), vs[i]? = some y → H' D' = some (.lst us) → DnA K H' (fun a => H a = none ∧ a ≠ D') us (ds.take i) → Kp [] H H' →
      ∃ d', ds[i]? = some d' ∧ spCopied K D [y] H' (fun r H2 => ∃ acc, H2 D' = some (.lst acc) ∧ acc.length < sizeLine ∧ ∃ us2, upd H2 D' (.lst (acc ++ [r])) D' = some (.lst us2) ∧ DnA K (upd H2 D' (.lst (acc ++ [r]))) (fun a => H a = none ∧ a ≠ D') us2 (ds.take (i + 1)) ∧ Kp [] H (upd H2 D' (.lst (acc ++ [r])))) E := by
    intro vs ds D' la hd1 hw1 hD i y H' us hy e1 tu k
    obtain ⟨d', hdi', g⟩ := dpa_get la hy
    have w1 := wts_take hdi'
    have w2 := wts_le ds (i + 1)
    have w3 := dep_mem hdi'
    refine ⟨d', hdi', y, d', rfl, dp_kept k _ _ g, by omega, by omega, fun r H2 tr k2 => ?_⟩
    have e2 := k2.keep _ _ e1 List.not_mem_nil
    have lu : us.length = i := by
      rw [dna_length tu, List.length_take]
      have h2 := (List.getElem?_eq_some_iff.mp hdi').1
      omega
    have l3 := len_wts ds
    have h2 := (List.getElem?_eq_some_iff.mp hdi').1
    have et : ds.take (i + 1) = ds.take i ++ [d'] := by rw [List.take_add_one, hdi']; rfl
    refine ⟨us, e2, by rw [sizeLine_eq]; omega, us ++ [r], upd_same, ?_, (k.trans k2).own hD _⟩
    rw [et]
    have kD : Kp [D'] H2 (upd H2 D' (.lst (us ++ [r]))) := (Kp.refl _ _).put (by simp) e2 (o := _)
    refine dna_snoc (dna_keep (k2.mono (by simp) |>.trans kD) (fun a n => ⟨by simpa using n.2, n⟩) _ _ tu) (dn_keep kD (fun a n => ?_) _ _ tr)
    have na : a ≠ D' := fun z => by rw [z, e1] at n; cases n
    exact ⟨by simpa using na, k.none n, na⟩
  rcases dp_typ hl with ⟨T, hT, n1, n2, n3, lv⟩ | ⟨a, vs, ds, rfl, rfl, hT, hs, la⟩ | ⟨a, vs, ds, rfl, rfl, hT, hs, la⟩
  · refine ⟨_, rfl, v, _, _, _, _, rfl, .ty "list", hT.ty, kit_ty (kit_list hT.mem), ?_⟩
    refine ⟨_, rfl, ?_⟩
    refine iteF_of (decide_eq_false n1) ?_
    refine ⟨_, rfl, v, _, _, _, _, rfl, .ty "tuple", hT.ty, kit_ty (kit_tuple hT.mem), ?_⟩
    refine ⟨_, rfl, ?_⟩
    refine iteF_of (decide_eq_false n2) ?_
    refine ⟨_, rfl, v, _, _, _, _, rfl, .ty "dict", hT.ty, kit_ty (kit_dict hT.mem), ?_⟩
    refine ⟨_, rfl, ?_⟩
    refine iteF_of (decide_eq_false n3) ?_
    exact ⟨_, rfl, q v H (lv _ _) (Kp.refl _ _)⟩
  · simp only [wt, PyData.depth] at hd hw
    refine ⟨_, rfl, _, _, _, _, _, rfl, .ty "list", hT.ty, kit_ty (kit_list hT.mem), ?_⟩
    refine ⟨_, rfl, ?_⟩
    refine iteT_of (by decide) ?_
    refine ⟨_, rfl, a, rfl, ⟨vs, hs⟩, fun D' hD => ?_⟩
    have tn := turn vs ds D' la (by omega) (by omega) hD
    refine lc_list (K := K) (a := a) (xs := vs) (fun i H' => ∃ us, H' D' = some (.lst us) ∧ DnA K H' (fun a => H a = none ∧ a ≠ D') us (ds.take i) ∧ Kp [] H H') ?_ ?_ ?_ ?_
    · exact ⟨[], upd_same, .nil, (Kp.refl _ _).new hD _⟩
    · rintro i H' hi ⟨us, e1, tu, k⟩
      exact SqL.keep0 k hs
    · rintro i y H' hy ⟨us, e1, tu, k⟩
      obtain ⟨d', hdi', z⟩ := tn i y H' us hy e1 tu k
      exact ⟨rfl, _, rfl, z⟩
    · rintro H' ⟨us, e1, tu, k⟩
      rw [List.take_of_length_le (by rw [dpa_length la]; exact Nat.le_refl _)] at tu
      exact q _ H' (.lst hD e1 (dna_keep (Kp.refl [] _) (fun a n => ⟨List.not_mem_nil, n.1⟩) _ _ tu)) k
  · simp only [wt, PyData.depth] at hd hw
    refine ⟨_, rfl, _, _, _, _, _, rfl, .ty "list", hT.ty, kit_ty (kit_list hT.mem), ?_⟩
    refine ⟨_, rfl, ?_⟩
    refine iteF_of (by decide) ?_
    refine ⟨_, rfl, _, _, _, _, _, rfl, .ty "tuple", hT.ty, kit_ty (kit_tuple hT.mem), ?_⟩
    refine ⟨_, rfl, ?_⟩
    refine iteT_of (by decide) ?_
    refine ⟨_, rfl, a, rfl, ⟨vs, hs⟩, fun D' hD => ?_⟩
    have tn := turn vs ds D' la (by omega) (by omega) hD
    refine lc_tup (K := K) (a := a) (xs := vs) (fun i H' => ∃ us, H' D' = some (.lst us) ∧ DnA K H' (fun a => H a = none ∧ a ≠ D') us (ds.take i) ∧ Kp [] H H') ?_ ?_ ?_ ?_
    · exact ⟨[], upd_same, .nil, (Kp.refl _ _).new hD _⟩
    · rintro i H' hi ⟨us, e1, tu, k⟩
      exact k.seqT hs
    · rintro i y H' hy ⟨us, e1, tu, k⟩
      obtain ⟨d', hdi', z⟩ := tn i y H' us hy e1 tu k
      exact ⟨rfl, _, rfl, z⟩
    · rintro H' ⟨us, e1, tu, k⟩
      rw [List.take_of_length_le (by rw [dpa_length la]; exact Nat.le_refl _)] at tu
      refine ⟨D', us, rfl, .inl ⟨SqL.of e1, fun t ht0 => ?_⟩⟩
      have kt : Kp [] H' (upd H' t (.tup us)) := (Kp.refl _ _).new ht0 _
      exact q _ _ (.tup (SqT.of upd_same) (dna_keep kt (fun a n => ⟨List.not_mem_nil, n.1⟩) _ _ tu)) (k.new ht0 _)
theorem ok_copied {D : Nat} (Df0 : Df K mg "copied" st_copied ["thing"] f fd) (B : Bl mg) (hdi : mg "dict" = none) : FnOk P w K mg base CX0 D f fd ["thing"] (spCopied K D) := by
  induction D with
  | zero =>
    have no : ∀ vs H Q E, ¬ spCopied K 0 vs H Q E := fun vs H Q E h => by
      obtain ⟨v, d, _, _, hd, _⟩ := h
      exact absurd hd (Nat.not_lt_zero _)
    exact ⟨fun _ _ _ _ h => (no _ _ _ _ h).elim, fun _ _ _ _ _ _ _ _ _ _ _ _ _ h => (no _ _ _ _ h).elim⟩
  | succ D ih => exact ok_copied1 Df0 ih B hdi
end
end Hb
set_option maxHeartbeats 4000000
/-! BadPart made -/
namespace Hb
open PySem PySem.Spec PyProof.Rows L2 NdefX
/-- an error with one field, told of data that can be shown -/
def spErr (K : PySem.W.Frag) (C : Addr) (fld : Str) : Sp := fun vs H Q _ => ∃ (a b : Addr) (d : PyData), vs = [.ref a, .ref b] ∧ H a = some (exo a C none) ∧ Dp K H (.ref b) d ∧ d.showable = true ∧ d.shown.length ≤ 100000 ∧ d.depth < 12 ∧ wt d ≤ 8000000 ∧
  ∀ (dx : Addr) (r : V) (H' : Hp), H' a = some (exo a C (some dx)) → H' dx = some (exd dx [(fld, r)]) → H dx = none → Dn K H' (fun c => H c = none ∧ c ≠ dx) r d → Kp [a] H H' → Q .non H'
section
variable {P : Program} {w : World} {K : PySem.W.Frag} {mg : Str → Option Value} {base : Heap} {f f1 f2 C cc cda : Addr} {fd fd1 fd2 : FuncData}
end
end Hb
set_option maxHeartbeats 4000000
/-! own operators of instances -/
namespace Hb
open PySem PySem.Spec PyProof.Rows L2
theorem int_mul_ins (a : Int) (t : Tok) (l C dx : Addr) :
    Meets (Builtin.«int.__mul__» ⟨[.int a t, .ref l], []⟩) (fun _ R s => s.heap.get? l = some (PySem.W.instObj C dx) ∧ R (.ok (.ret Value.notImplemented)) s) :=
  .of_wp fun prog w A R s h => by
    obtain ⟨hp, g, d, tk, os⟩ := s
    obtain ⟨hl, h⟩ := h
    wp_walk using wpAny_loadPart' hl
    exact ⟨_, rfl, h⟩
section
variable {prog : Program} {w : World} {A : Around} {E : Value → Shared → Prop} {s : Shared} {K : PySem.W.Frag} {x C L f g : Addr} {h₀ : Heap} {m : Str → Option Value} {dx : Addr} {od : Option Obj} {ox : Obj}
open PySem.W in
/-- an int and an instance, by the instance's own def for the right side -/
theorem rbin_int {op : Operator} {a : Int} {t : Tok} {id1 id2 : String} {Q : Value → Shared → Prop} (X : K.In s.heap) (I : InstAt s.heap x (instObj C dx) C od) (hc : selfFirst K C = true)
    (hs : findIn K (.ref C) (PySem.dunder op.info.2) = some (some (.ref g))) (hr : findIn K (.ref C) (dunderR op.info.2) = some (some (.ref f))) (hf : isFn K (.ref f) = true)
    (h1 : findIn K (.type "int") (PySem.dunder op.info.2) = some (some (.builtin id1))) (h2 : findIn K (.type "int") (dunderR op.info.2) = some (some (.builtin id2))) (hq1 : isSeqSlot (some (.builtin id1)) = false) (hsub : subIn K (.ref C) (.type "int") = some false)
    (two : ∀ E : Value → Shared → Prop, wpAny (model prog w) A (tryMethod (.int a t) (PySem.dunder op.info.2) (.ref x)) (fun r s' => r = none ∧ s' = s) E s)
    (h : wpAny (model prog w) A (call (.ref f) [.ref x, .int a t]) (PySem.W.CmpBack Q) E s) : wpAny (model prog w) A (binaryOp op (.int a t) (.ref x)) Q E s := by
  obtain ⟨cd, rest, hcd, hm⟩ := ksp_first hc
  rcases hi : op.info with ⟨sym, nm'⟩
  rw [hi] at hs hr h1 h2 two
  dsimp only at hs hr h1 h2 two
  have one := ksp_try X I hr hf h
  have two := two E
  obtain ⟨hh, g0, d0, tt, os⟩ := s
  have L1 : Looks (model prog w) hh (typeOf (.int a t)) (.type "int") := Looks.of_pure rfl
  have L2 : Looks (model prog w) hh (typeOf (.ref x)) (.ref C) := I.type
  have L3 : Looks (model prog w) hh (fillsNumberSlot (.type "int") nm') true := by
    have := ksp_fillsT (M := model prog w) X h1 h2
    rw [hq1] at this
    exact this
  have L4 : Looks (model prog w) hh (fillsNumberSlot (.ref C) nm') true := fills_K X hcd hm hs
  have L5 : Looks (model prog w) hh (isSubtype (.ref C) (.type "int")) false := looks_subIn X hsub
  have L7 : Looks (model prog w) hh (numberSlotInPython (.type "int") nm') false := Looks.of_pure rfl
  have hne : (Value.type "int" == Value.ref C) = false := Bool.eq_false_iff.mpr fun q => by cases beq_iff_eq.mp q
  simp only [binaryOp, hi]
  refine wpAny_holding (wpAny_bind ?_)
  unfold binaryOp1
  refine wpAny_bind (L1.at (wpAny_bind (L2.at (wpAny_bind (L3.at ?_)))))
  simp only [hne, Bool.false_eq_true, if_false]
  ksp_lk
  refine wpAny_mono two (fun r s' hr' => ?_) fun _ _ e => e
  obtain ⟨rfl, rfl⟩ := hr'
  simp only [Bool.false_eq_true, if_false, Bool.not_false, Bool.and_self, if_true]
  refine wpAny_bind (wpAny_mono one (fun r s' hr' => ?_) fun _ _ e => e)
  obtain ⟨v, rfl, hq⟩ := hr'
  dsimp only
  exact wpAny_bind (wpAny_rule (wpAny_pure (wpAny_pure hq)))
open PySem.W in
theorem noI {M : Model} {h : Heap} {nm : String} {cd : ClassData} {add : Bool} (X : K.In h) (hc : clsIn K C = some cd) (hm : cd.mro = [.ref C, .type "object"]) (hs : findIn K (.ref C) (dunderI nm) = some none) (ho : findIn K (.type "object") (dunderI nm) = some none) :
    Looks M h (fillsInplaceSlot (.ref C) nm add) false := by
  intro A Q E s k q
  have Lm : Looks M h (mroOf (.ref C)) cd.mro := (looks_clsIn X hc).andThen (f := fun cd => pure cd.mro) .now
  have Lm' := Lm.keeps k
  obtain ⟨hh, g, d, tt, os⟩ := s
  have X' : K.In hh := X.keeps k
  have L1 : Looks M hh (typeLookup (.ref C) (dunderI nm)) none := looks_findIn X' hs
  have L2 : Looks M hh (typeLookup (.type "object") (dunderI nm)) none := looks_findIn X' ho
  unfold fillsInplaceSlot
  refine wpAny_bind (Lm'.at ?_)
  rw [hm, List.anyM_cons]
  refine wpAny_bind (wpAny_bind (L1.at (wpAny_pure ?_)))
  simp only [Bool.false_eq_true, if_false]
  rw [List.anyM_cons]
  refine wpAny_bind (wpAny_bind (L2.at (wpAny_pure ?_)))
  simp only [Bool.false_eq_true, if_false]
  exact wpAny_pure q
open PySem.W in
/-- x op= y of two instances of a class with a def for op, and none for op= -/
theorem aug_K {op : Operator} {b : Value} {cd : ClassData} {Q : Value → Shared → Prop} (X : K.In s.heap) (I : InstAt s.heap x ox C od) (hb : Looks (model prog w) s.heap (typeOf b) (.ref C)) (hcd : clsIn K C = some cd) (hm : cd.mro = [.ref C, .type "object"])
    (hi : findIn K (.ref C) (dunderI op.info.2) = some none) (ho : findIn K (.type "object") (dunderI op.info.2) = some none) (hs : findIn K (.ref C) (PySem.dunder op.info.2) = some (some (.ref f))) (hf : isFn K (.ref f) = true)
    (h : wpAny (model prog w) A (call (.ref f) [.ref x, b]) (PySem.W.CmpBack Q) E s) : wpAny (model prog w) A (inplaceOp op (.ref x) b) Q E s := by
  have one := ksp_try X I hs hf h
  have L1 : Looks (model prog w) s.heap (typeOf (.ref x)) (.ref C) := I.type
  unfold inplaceOp
  refine wpAny_holding (wpAny_bind (L1.here (wpAny_bind ((noI X hcd hm hi ho).here ?_))))
  simp only [Bool.false_eq_true, if_false]
  unfold binaryOp1
  refine wpAny_bind (wpAny_bind (I.type.here (wpAny_bind (hb.here (wpAny_bind ((fills_K X hcd hm hs).here ?_))))))
  simp only [beq_self_eq_true, if_true]
  refine wpAny_bind (wpAny_pure ?_)
  simp only [Bool.and_false, Bool.false_eq_true, if_false, Bool.false_and]
  refine wpAny_bind (wpAny_pure ?_)
  simp only [Bool.false_eq_true, if_false]
  refine wpAny_bind (wpAny_mono one (fun r s' hr' => ?_) fun _ _ e => e)
  obtain ⟨v, rfl, hq⟩ := hr'
  exact wpAny_pure (wpAny_pure hq)
end
/-! ### in the hand layer -/
/-- what a class says of its operators: name, its function -/
structure OwnOp (K : PySem.W.Frag) (C : Addr) (m : Str) (g : Addr) : Prop where
  first : PySem.W.selfFirst K C = true
  at_ : PySem.W.findIn K (.ref C) m = some (some (.ref g))
  fn : PySem.W.isFn K (.ref g) = true
/-- x op y, both instances of the class at C -/
def rOwnB (C : Addr) (sp : Sp) (E : XK) : R2 := fun x y H Q => ∃ a dx fs b dy gs, x = .ref a ∧ y = .ref b ∧ H a = some (.ins C dx fs) ∧ H b = some (.ins C dy gs) ∧ sp [x, y] H Q E
/-- x op n -/
def rOwnI (C : Addr) (sp : Sp) (E : XK) : R2 := fun x y H Q => ∃ a dx fs i, x = .ref a ∧ y = .int i ∧ H a = some (.ins C dx fs) ∧ sp [x, y] H Q E
/-- n op x -/
def rIOwn (C : Addr) (sp : Sp) (E : XK) : R2 := fun x y H Q => ∃ a dx fs i, x = .int i ∧ y = .ref a ∧ H a = some (.ins C dx fs) ∧ sp [y, x] H Q E
section
variable {X : Cx} {CX : CXT} {C g g2 : Addr} {k : Nat} {fd : FuncData} {ps : List Str} {sp : Sp} {E : XK}
theorem op_ownB {op : Operator} (O : OwnOp X.K C (PySem.dunder op.info.2) g) (F : FnG X.prog X.w X.K X.mg X.base CX k g fd ps sp) (hg : X.A.guards = some []) (hr : Room k X.A) (hb : Binds X.K fd ps []) (hx : Passes CX X E) : OpR X (binaryOp op) (rOwnB C sp E) := by
  intro pins s σ H x y v u Q I rx ry h
  obtain ⟨a, dx, fs, b, dy, gs, rfl, rfl, ha, hb', q⟩ := h
  obtain rfl : v = Value.ref a := rx
  obtain rfl : u = Value.ref b := ry
  obtain ⟨mA, J, _⟩ := ins_get I.hok ha
  obtain ⟨od, J, _⟩ := J.look
  obtain ⟨mB, J2, _⟩ := ins_get I.hok hb'
  obtain ⟨od2, J2, _⟩ := J2.look
  obtain ⟨m, hF⟩ := I.fr
  refine PySem.W.binop_K hF I.ok.mod.kin J J2.type O.first O.at_ O.fn (wpAny_mono (go_fnG (us := [.ref a, .ref b]) (vs := [.ref a, .ref b]) (dvs := []) (ds := []) F hg hr hb .nil hx I (.cons rfl (.cons rfl .nil)) (by simpa using q)) (fun w s' z => ?_) fun _ _ z => z)
  obtain ⟨z', H', I', rz, qz⟩ := z
  exact SlX.cmpback rz ⟨z', H', I', rz, qz⟩
theorem op_ownI {op : Operator} {fo ro : Option Value} (O : OwnOp X.K C (PySem.dunder op.info.2) g) (hr1 : PySem.W.findIn X.K (.ref C) (dunderR op.info.2) = some (some (.ref g2))) (h1 : PySem.W.findIn X.K (.type "int") (PySem.dunder op.info.2) = some fo) (h2 : PySem.W.findIn X.K (.type "int") (dunderR op.info.2) = some ro) (hsub : PySem.W.subIn X.K (.type "int") (.ref C) = some false)
    (F : FnG X.prog X.w X.K X.mg X.base CX k g fd ps sp) (hg : X.A.guards = some []) (hr : Room k X.A) (hb : Binds X.K fd ps []) (hx : Passes CX X E) : OpR X (binaryOp op) (rOwnI C sp E) := by
  intro pins s σ H x y v u Q I rx ry h
  obtain ⟨a, dx, fs, i, rfl, rfl, ha, q⟩ := h
  obtain rfl : v = Value.ref a := rx
  obtain ⟨t, rfl⟩ := (show ∃ t, u = Value.int i t from ry)
  obtain ⟨mA, J, _⟩ := ins_get I.hok ha
  obtain ⟨od, J, _⟩ := J.look
  obtain ⟨m, hF⟩ := I.fr
  refine PySem.W.ksp_binT hF I.ok.mod.kin J rfl O.first O.at_ O.fn hr1 (.inr ⟨_, rfl⟩) h1 h2 hsub (wpAny_mono (go_fnG (us := [.ref a, .int i t]) (vs := [.ref a, .int i]) (dvs := []) (ds := []) F hg hr hb .nil hx I (.cons rfl (.cons ⟨_, rfl⟩ .nil)) (by simpa using q)) (fun w s' z => ?_) fun _ _ z => z)
  obtain ⟨z', H', I', rz, qz⟩ := z
  exact SlX.cmpback rz ⟨z', H', I', rz, qz⟩
theorem op_intOwn (O : OwnOp X.K C "__rmul__" g) (hs : PySem.W.findIn X.K (.ref C) "__mul__" = some (some (.ref g2))) (h1 : PySem.W.findIn X.K (.type "int") "__mul__" = some (some (.builtin "int.__mul__"))) (h2 : PySem.W.findIn X.K (.type "int") "__rmul__" = some (some (.builtin "int.__rmul__"))) (hsub : PySem.W.subIn X.K (.ref C) (.type "int") = some false)
    (F : FnG X.prog X.w X.K X.mg X.base CX k g fd ps sp) (hg : X.A.guards = some []) (hr : Room k X.A) (hb : Binds X.K fd ps []) (hx : Passes CX X E) : OpR X (binaryOp .Mult) (rIOwn C sp E) := by
  intro pins s σ H x y v u Q I rx ry h
  obtain ⟨a, dx, fs, i, rfl, rfl, ha, q⟩ := h
  obtain rfl : u = Value.ref a := ry
  obtain ⟨t, rfl⟩ := (show ∃ t, v = Value.int i t from rx)
  obtain ⟨mA, J, _⟩ := ins_get I.hok ha
  have hat := J.obj
  obtain ⟨od, J, _⟩ := J.look
  have e1 : PySem.dunder (Operator.Mult).info.2 = ("__mul__" : Str) := by decide +kernel
  have e2 : dunderR (Operator.Mult).info.2 = ("__rmul__" : Str) := by decide +kernel
  refine rbin_int (id1 := "int.__mul__") (id2 := "int.__rmul__") (g := g2) (f := g) I.kIn J O.first (by rw [e1]; exact hs) (by rw [e2]; exact O.at_) O.fn (by rw [e1]; exact h1) (by rw [e2]; exact h2) (by decide +kernel) hsub (fun E => ?_) (wpAny_mono (go_fnG (us := [.ref a, .int i t]) (vs := [.ref a, .int i]) (dvs := []) (ds := []) F hg hr hb .nil hx I (.cons rfl (.cons ⟨_, rfl⟩ .nil)) (by simpa using q)) (fun w s' z => ?_) fun _ _ z => z)
  · rw [e1]
    unfold tryMethod
    refine wpAny_bind (wpAny_callSpecial?_slot (name := Str.ofString "__mul__") (typeIs_int s i t) PySem.F.slot_int_mul (call_meets PySem.F.slot_int_mul (typeIs_int s i t) PySem.F.entry_int_mul (PySem.F.args_int_mul_2 _ _) (int_mul_ins i t a C dx) ⟨hat, ?_⟩))
    exact wpAny_pure ⟨rfl, rfl⟩
  · obtain ⟨z', H', I', rz, qz⟩ := z
    exact SlX.cmpback rz ⟨z', H', I', rz, qz⟩
theorem pip_ownB {op : Operator} {cd : ClassData} (O : OwnOp X.K C (PySem.dunder op.info.2) g) (hcd : PySem.W.clsIn X.K C = some cd) (hm : cd.mro = [.ref C, .type "object"]) (hi : PySem.W.findIn X.K (.ref C) (dunderI op.info.2) = some none) (ho : PySem.W.findIn X.K (.type "object") (dunderI op.info.2) = some none)
    (F : FnG X.prog X.w X.K X.mg X.base CX k g fd ps sp) (hg : X.A.guards = some []) (hr : Room k X.A) (hb : Binds X.K fd ps []) (hx : Passes CX X E) : PIp X op (rOwnB C sp E) := by
  intro pins s σ H x y v u Q I rx ry h
  obtain ⟨a, dx, fs, b, dy, gs, rfl, rfl, ha, hb', q⟩ := h
  obtain rfl : v = Value.ref a := rx
  obtain rfl : u = Value.ref b := ry
  obtain ⟨mA, J, _⟩ := ins_get I.hok ha
  obtain ⟨od, J, _⟩ := J.look
  obtain ⟨mB, J2, _⟩ := ins_get I.hok hb'
  obtain ⟨od2, J2, _⟩ := J2.look
  refine aug_K I.kIn J J2.type hcd hm hi ho O.at_ O.fn (wpAny_mono (go_fnG (us := [.ref a, .ref b]) (vs := [.ref a, .ref b]) (dvs := []) (ds := []) F hg hr hb .nil hx I (.cons rfl (.cons rfl .nil)) (by simpa using q)) (fun w s' z => ?_) fun _ _ z => z)
  obtain ⟨z', H', I', rz, qz⟩ := z
  exact SlX.cmpback rz ⟨z', H', I', rz, qz⟩
end
end Hb
set_option maxHeartbeats 4000000
/-! data with dicts: shown in a text -/
namespace Hb
open PySem PySem.Spec PyProof.Rows L2
mutual
/-- data as it stands, dicts with texts as keys too -/
inductive Dx (K : PySem.W.Frag) (H : Hp) : V → PyData → Prop
  | non : Dx K H .non .none
  | bl (b : Bool) : Dx K H (.bl b) (.bool b)
  | int (i : Int) : Dx K H (.int i) (.int i)
  | str (x : Str) : Dx K H (.str x) (.str x)
  | lst {a : Addr} {xs : List V} {ds : List PyData} : H a = some (.lst xs) → DxA K H xs ds → Dx K H (.ref a) (.list ds)
  | tup {a : Addr} {xs : List V} {ds : List PyData} : SqT K H a xs → DxA K H xs ds → Dx K H (.ref a) (.tuple ds)
  | dct {a : Addr} {kvs : List (Key × V)} {es : List (PyData × PyData)} : H a = some (.dK kvs) → DxE K H kvs es → Dx K H (.ref a) (.dict es)
inductive DxA (K : PySem.W.Frag) (H : Hp) : List V → List PyData → Prop
  | nil : DxA K H [] []
  | cons {v : V} {vs : List V} {d : PyData} {ds : List PyData} : Dx K H v d → DxA K H vs ds → DxA K H (v :: vs) (d :: ds)
inductive DxE (K : PySem.W.Frag) (H : Hp) : List (Key × V) → List (PyData × PyData) → Prop
  | nil : DxE K H [] []
  | cons {x : Str} {v : V} {kvs : List (Key × V)} {d : PyData} {es : List (PyData × PyData)} : Dx K H v d → DxE K H kvs es → DxE K H ((.inr x, v) :: kvs) ((.str x, d) :: es)
end
/-- the table of the loaded modules is known to stand apart -/
def SysK (K : PySem.W.Frag) : Prop := (K.lookup sysModules).isSome = true
section
variable {X : Cx} {pins : List (Addr × Obj)} {σ : L2.St} {H : Hp} {s : Shared}
theorem notSys (hK : SysK X.K) (I : Inv X pins σ H s) {a : Addr} {u : HO} (e : H a = some u) : a ≠ sysModules := by
  rintro rfl
  obtain ⟨o, ho⟩ := Option.isSome_iff_exists.mp hK
  have h1 := I.mod.kin _ _ ho
  have h2 := (I.bs _ _ h1).2
  rw [h2] at e
  cases e
mutual
theorem Dx.reads (hK : SysK X.K) (I : Inv X pins σ H s) : ∀ (d : PyData) (v : V) (u : Value), Dx X.K H v d → RelV v u → ∃ as, Reads s.heap u d as ∧ sysModules ∉ as
  | .none, _, _, h, r => by
    cases h
    cases r
    exact ⟨_, Reads.none, List.not_mem_nil⟩
  | .bool b, _, _, h, r => by
    cases h
    cases r
    exact ⟨_, Reads.bool b, List.not_mem_nil⟩
  | .int i, _, _, h, r => by
    cases h
    obtain ⟨t, rfl⟩ := r
    exact ⟨_, Reads.int i t, List.not_mem_nil⟩
  | .str x, _, _, h, r => by
    cases h
    obtain ⟨t, rfl⟩ := r
    exact ⟨_, Reads.str x t, List.not_mem_nil⟩
  | .list ds, _, _, h, r => by
    cases h with
    | lst hs ha =>
      cases r
      obtain ⟨its, rv, ⟨o, n, ho, hc, _, hd⟩, _⟩ := I.list (SqL.of hs)
      obtain ⟨as, hr, ns⟩ := Dx.readsAll hK I ds _ its ha rv
      refine ⟨_, Reads.list ho hc hd hr, fun m => ?_⟩
      rcases List.mem_cons.mp m with z | z
      · exact notSys hK I hs z.symm
      · exact ns z
  | .tuple ds, _, _, h, r => by
    cases h with
    | tup hs ha =>
      cases r
      obtain ⟨its, rv, ⟨o, ho, hc, n, hd⟩, _⟩ := I.tuple hs
      obtain ⟨as, hr, ns⟩ := Dx.readsAll hK I ds _ its ha rv
      exact ⟨_, Reads.tuple ho hc hd hr, ns⟩
  | .dict es, _, _, h, r => by
    cases h with
    | dct hs he =>
      cases r
      obtain ⟨_, nsys, vs, kv, o, eo, ep, ho, hx, hd, _, ps, _⟩ := dk_of I.hok hs
      obtain ⟨as, bs, r1, n1, r2, n2⟩ := Dx.readsE hK I es _ vs eo.toList he kv ps
      refine ⟨_, Reads.dict ho hx.1 hd r1 r2, fun m => ?_⟩
      rcases List.mem_append.mp m with z | z
      · rcases List.mem_cons.mp z with z | z
        · rw [← z] at nsys
          simp at nsys
        · exact n1 z
      · exact n2 z
theorem Dx.readsAll (hK : SysK X.K) (I : Inv X pins σ H s) : ∀ (ds : List PyData) (vs : List V) (us : List Value), DxA X.K H vs ds → Vals vs us → ∃ as, ReadsAll s.heap us ds as ∧ sysModules ∉ as
  | [], _, _, h, r => by
    cases h
    cases r
    exact ⟨_, ReadsAll.nil, List.not_mem_nil⟩
  | d :: ds, _, _, h, r => by
    cases h with
    | cons h1 h2 =>
      cases r with
      | cons r1 r2 =>
        obtain ⟨as, q1, n1⟩ := Dx.reads hK I d _ _ h1 r1
        obtain ⟨bs, q2, n2⟩ := Dx.readsAll hK I ds _ _ h2 r2
        exact ⟨_, ReadsAll.cons q1 q2, fun m => (List.mem_append.mp m).elim n1 n2⟩
theorem Dx.readsE (hK : SysK X.K) (I : Inv X pins σ H s) : ∀ (es : List (PyData × PyData)) (kvs : List (Key × V)) (vs : List (Key × Value)) (les : List DictEntry), DxE X.K H kvs es → KV kvs vs → Pairs (mixKind X.prog X.w) les vs →
    ∃ as bs, ReadsAll s.heap (les.map (·.key)) (es.map (·.1)) as ∧ sysModules ∉ as ∧ ReadsAll s.heap (les.map (·.val)) (es.map (·.2)) bs ∧ sysModules ∉ bs
  | [], _, _, _, h, r, p => by
    cases h
    cases r
    cases p
    exact ⟨_, _, ReadsAll.nil, List.not_mem_nil, ReadsAll.nil, List.not_mem_nil⟩
  | (k, d) :: es, _, _, _, h, r, p => by
    cases h with
    | cons h1 h2 =>
      cases r with
      | cons r1 r2 =>
        cases p with
        | cons p1 p2 p3 =>
          obtain ⟨re, rv⟩ := r1
          obtain ⟨as, q1, n1⟩ := Dx.reads hK I d _ _ h1 rv
          obtain ⟨ks, bs, q2, n2, q3, n3⟩ := Dx.readsE hK I es _ _ _ h2 r2 p3
          rename_i x0 v0 _ kv0 _ e0 _
          rw [← re] at p1
          have p1' : keyIs (.inr x0) e0.key = true := p1
          rcases keyIs_shape p1' with ⟨i, t, e1, e2⟩ | ⟨x, t, e1, e2⟩
          · cases e1
          · injection e1 with e1
            subst e1
            refine ⟨[] ++ ks, as ++ bs, ?_, fun m => n2 (by simpa using m), ?_, fun m => (List.mem_append.mp m).elim n1 n3⟩
            · have z : Reads s.heap e0.key (.str x0) [] := by
                rw [e2]
                exact Reads.str _ _
              exact ReadsAll.cons z q2
            · have z : Reads s.heap e0.val d as := by
                rw [p2]
                exact q1
              exact ReadsAll.cons z q3
end
end
section
variable {K : PySem.W.Frag} {H H1 : Hp} {S : List Addr}
mutual
theorem Dx.keep (k : Kp S H H1) (n : ∀ a, H a ≠ none → a ∉ S) : ∀ {v : V} {d : PyData}, Dx K H v d → Dx K H1 v d
  | _, _, .non => .non
  | _, _, .bl b => .bl b
  | _, _, .int i => .int i
  | _, _, .str x => .str x
  | _, _, .lst e t => .lst (k.keep _ _ e (n _ (by rw [e]; exact Option.some_ne_none _))) (DxA.keep k n t)
  | _, _, .tup q t => .tup (k.seqT q) (DxA.keep k n t)
  | _, _, .dct e t => .dct (k.keep _ _ e (n _ (by rw [e]; exact Option.some_ne_none _))) (DxE.keep k n t)
theorem DxA.keep (k : Kp S H H1) (n : ∀ a, H a ≠ none → a ∉ S) : ∀ {vs : List V} {ds : List PyData}, DxA K H vs ds → DxA K H1 vs ds
  | _, _, .nil => .nil
  | _, _, .cons h t => .cons (Dx.keep k n h) (DxA.keep k n t)
theorem DxE.keep (k : Kp S H H1) (n : ∀ a, H a ≠ none → a ∉ S) : ∀ {kvs : List (Key × V)} {es : List (PyData × PyData)}, DxE K H kvs es → DxE K H1 kvs es
  | _, _, .nil => .nil
  | _, _, .cons h t => .cons (Dx.keep k n h) (DxE.keep k n t)
end
end
/-- the scalars' size -/
def litOk : PyData → Prop
  | .int i => i.natAbs.log2 < 1920
  | _ => True
/-- {x!r}: any data -/
def tFmtX (K : PySem.W.Frag) (te : TE) : TE := fun σ H Q => te σ H fun x H1 => ∃ d : PyData, Dx K H1 x d ∧ litOk d ∧ d.showable = true ∧ d.shown.length ≤ sizeLine ∧ d.depth ≤ 30 ∧ Q (.str d.shown) H1
section
variable {X : Cx}
theorem pe_fmtX {e : Expr} {te : TE} {pos : Pos} (hK : SysK X.K) (hg : X.A.guards = some []) (hu : X.A.units + 64 < cLine) (he : PE X e te) : PE X (.FormattedValue e 114 none pos) (tFmtX X.K te) := by
  refine ⟨fun pins s σ H Q I h => wpAny_FormattedValue_repr (thn (he.run pins s σ H _ I h) fun v s1 hv => ?_)⟩
  obtain ⟨x, H1, I1, r1, d, hd, hl, hs, hz, hdep, q⟩ := hv
  have refCase : ∀ a : Addr, v = .ref a → wpAny (model X.prog X.w) X.A (pyReprObj v) (fun r s2 => wpAny (model X.prog X.w) X.A (formatField r Str.empty) (EP X pins σ Q) X.xe s2) X.xe s1 := by
    rintro a rfl
    obtain ⟨as, rd, ns⟩ := Dx.reads hK I1 d _ _ hd r1
    refine repr_obj rd hs (fun _ => ns) hg (by omega) (fun _ _ z => z) hz fun h' u tk hk => ?_
    have J := I1.kept (t' := tk) hk
    exact wpAny_formatField_str ⟨.str d.shown, H1, J, ⟨_, rfl⟩, q⟩ ⟨.str d.shown, H1, J.tok _, ⟨_, rfl⟩, q⟩ hz
  cases hd with
  | non =>
    cases r1
    simp only [PyData.shown] at q hz
    exact pyReprObj_none (wpAny_formatField_str ⟨.str "None", H1, I1.tok _, ⟨_, rfl⟩, q⟩ ⟨.str "None", H1, I1.tok _, ⟨_, rfl⟩, q⟩ hz)
  | bl b =>
    cases r1
    simp only [PyData.shown] at q hz
    cases b
    · exact pyReprObj_bool (wpAny_formatField_str ⟨.str "False", H1, I1.tok _, ⟨_, rfl⟩, q⟩ ⟨.str "False", H1, I1.tok _, ⟨_, rfl⟩, q⟩ hz)
    · exact pyReprObj_bool (wpAny_formatField_str ⟨.str "True", H1, I1.tok _, ⟨_, rfl⟩, q⟩ ⟨.str "True", H1, I1.tok _, ⟨_, rfl⟩, q⟩ hz)
  | int i =>
    obtain ⟨t, rfl⟩ := r1
    simp only [PyData.shown] at q hz
    exact pyReprObj_int hl (wpAny_formatField_str ⟨.str (toString i), H1, I1.tok _, ⟨_, rfl⟩, q⟩ ⟨.str (toString i), H1, I1.tok _, ⟨_, rfl⟩, q⟩ hz)
  | str y =>
    obtain ⟨t, rfl⟩ := r1
    simp only [PyData.shown] at q hz
    exact pyReprObj_str (wpAny_formatField_str ⟨.str (reprText y), H1, I1.tok _, ⟨_, rfl⟩, q⟩ ⟨.str (reprText y), H1, I1.tok _, ⟨_, rfl⟩, q⟩ hz) hz
  | lst e t => exact refCase _ r1
  | tup e t => exact refCase _ r1
  | dct e t => exact refCase _ r1
end
end Hb
set_option maxHeartbeats 4000000
/-! copied: of data with empty dicts -/
namespace Hb
open PySem PySem.Spec PyProof.Rows L2
mutual
/-- data as it stands, dicts empty -/
inductive De (K : PySem.W.Frag) (H : Hp) : V → PyData → Prop
  | non : De K H .non .none
  | bl (b : Bool) : De K H (.bl b) (.bool b)
  | int (i : Int) : De K H (.int i) (.int i)
  | str (x : Str) : De K H (.str x) (.str x)
  | lst {a : Addr} {xs : List V} {ds : List PyData} : H a = some (.lst xs) → DeA K H xs ds → De K H (.ref a) (.list ds)
  | tup {a : Addr} {xs : List V} {ds : List PyData} : SqT K H a xs → DeA K H xs ds → De K H (.ref a) (.tuple ds)
  | dct {a : Addr} : H a = some (.dK []) → De K H (.ref a) (.dict [])
inductive DeA (K : PySem.W.Frag) (H : Hp) : List V → List PyData → Prop
  | nil : DeA K H [] []
  | cons {v : V} {vs : List V} {d : PyData} {ds : List PyData} : De K H v d → DeA K H vs ds → DeA K H (v :: vs) (d :: ds)
end
section
variable {K : PySem.W.Frag} {H : Hp}
mutual
theorem De.x : ∀ {v : V} {d : PyData}, De K H v d → Dx K H v d
  | _, _, .non => .non
  | _, _, .bl b => .bl b
  | _, _, .int i => .int i
  | _, _, .str x => .str x
  | _, _, .lst e t => .lst e (DeA.x t)
  | _, _, .tup q t => .tup q (DeA.x t)
  | _, _, .dct e => .dct e .nil
theorem DeA.x : ∀ {vs : List V} {ds : List PyData}, DeA K H vs ds → DxA K H vs ds
  | _, _, .nil => .nil
  | _, _, .cons h t => .cons (De.x h) (DeA.x t)
end
end
section
variable {K : PySem.W.Frag} {H H1 : Hp} {S : List Addr}
mutual
theorem de_kept (k : Kp [] H H1) : ∀ (d : PyData) (v : V), De K H v d → De K H1 v d
  | .none, _, h => by cases h; exact .non
  | .bool b, _, h => by cases h; exact .bl b
  | .int i, _, h => by cases h; exact .int i
  | .str x, _, h => by cases h; exact .str x
  | .list ds, _, h => by
    cases h with
    | lst q a => exact .lst (k.keep _ _ q List.not_mem_nil) (dea_kept k ds _ a)
  | .tuple ds, _, h => by
    cases h with
    | tup q a => exact .tup (k.seqT q) (dea_kept k ds _ a)
  | .dict _, _, h => by
    cases h with
    | dct e => exact .dct (k.keep _ _ e List.not_mem_nil)
theorem dea_kept (k : Kp [] H H1) : ∀ (ds : List PyData) (vs : List V), DeA K H vs ds → DeA K H1 vs ds
  | [], _, h => by cases h; exact .nil
  | d :: ds, _, h => by
    cases h with
    | cons a b => exact .cons (de_kept k d _ a) (dea_kept k ds _ b)
end
theorem dea_get : ∀ {vs : List V} {ds : List PyData} {i : Nat} {x : V}, DeA K H vs ds → vs[i]? = some x → ∃ d, ds[i]? = some d ∧ De K H x d
  | [], _, _, _, _, h => by simp at h
  | v :: vs, _, 0, x, h, e => by
    cases h with
    | cons h1 h2 =>
      have : v = x := by simpa using e
      subst this
      exact ⟨_, rfl, h1⟩
  | v :: vs, _, i + 1, x, h, e => by
    cases h with
    | cons h1 h2 =>
      obtain ⟨d, a, b⟩ := dea_get (i := i) h2 (by simpa using e)
      exact ⟨d, by simpa using a, b⟩
theorem dea_length : ∀ {vs : List V} {ds : List PyData}, DeA K H vs ds → vs.length = ds.length
  | [], _, h => by cases h; rfl
  | x :: vs, _, h => by
    cases h with
    | cons h1 h2 => exact congrArg (· + 1) (dea_length h2)
end
mutual
/-- data whose lists stand at addresses of N -/
inductive Dy (K : PySem.W.Frag) (H : Hp) (N : Addr → Prop) : V → PyData → Prop
  | non : Dy K H N .non .none
  | bl (b : Bool) : Dy K H N (.bl b) (.bool b)
  | int (i : Int) : Dy K H N (.int i) (.int i)
  | str (x : Str) : Dy K H N (.str x) (.str x)
  | lst {a : Addr} {xs : List V} {ds : List PyData} : N a → H a = some (.lst xs) → DyA K H N xs ds → Dy K H N (.ref a) (.list ds)
  | tup {a : Addr} {xs : List V} {ds : List PyData} : SqT K H a xs → DyA K H N xs ds → Dy K H N (.ref a) (.tuple ds)
  | dct {a : Addr} : N a → H a = some (.dK []) → Dy K H N (.ref a) (.dict [])
inductive DyA (K : PySem.W.Frag) (H : Hp) (N : Addr → Prop) : List V → List PyData → Prop
  | nil : DyA K H N [] []
  | cons {v : V} {vs : List V} {d : PyData} {ds : List PyData} : Dy K H N v d → DyA K H N vs ds → DyA K H N (v :: vs) (d :: ds)
end
section
variable {K : PySem.W.Frag} {H H1 : Hp} {S : List Addr} {N M : Addr → Prop}
mutual
theorem dy_keep (k : Kp S H H1) (n : ∀ a, N a → a ∉ S ∧ M a) : ∀ (d : PyData) (v : V), Dy K H N v d → Dy K H1 M v d
  | .none, _, h => by cases h; exact .non
  | .bool b, _, h => by cases h; exact .bl b
  | .int i, _, h => by cases h; exact .int i
  | .str x, _, h => by cases h; exact .str x
  | .list ds, _, h => by
    cases h with
    | lst m q a => exact .lst (n _ m).2 (k.keep _ _ q (n _ m).1) (dya_keep k n ds _ a)
  | .tuple ds, _, h => by
    cases h with
    | tup q a => exact .tup (k.seqT q) (dya_keep k n ds _ a)
  | .dict _, _, h => by
    cases h with
    | dct m e => exact .dct (n _ m).2 (k.keep _ _ e (n _ m).1)
theorem dya_keep (k : Kp S H H1) (n : ∀ a, N a → a ∉ S ∧ M a) : ∀ (ds : List PyData) (vs : List V), DyA K H N vs ds → DyA K H1 M vs ds
  | [], _, h => by cases h; exact .nil
  | d :: ds, _, h => by
    cases h with
    | cons a b => exact .cons (dy_keep k n d _ a) (dya_keep k n ds _ b)
end
mutual
theorem dy_de : ∀ (d : PyData) (v : V), Dy K H N v d → De K H v d
  | .none, _, h => by cases h; exact .non
  | .bool b, _, h => by cases h; exact .bl b
  | .int i, _, h => by cases h; exact .int i
  | .str x, _, h => by cases h; exact .str x
  | .list ds, _, h => by
    cases h with
    | lst m q a => exact .lst q (dya_de ds _ a)
  | .tuple ds, _, h => by
    cases h with
    | tup q a => exact .tup q (dya_de ds _ a)
  | .dict _, _, h => by
    cases h with
    | dct m e => exact .dct e
theorem dya_de : ∀ (ds : List PyData) (vs : List V), DyA K H N vs ds → DeA K H vs ds
  | [], _, h => by cases h; exact .nil
  | d :: ds, _, h => by
    cases h with
    | cons a b => exact .cons (dy_de d _ a) (dya_de ds _ b)
end
mutual
theorem dy_there : ∀ (d : PyData) (v : V), Dy K H N v d → Dy K H (fun c => N c ∧ H c ≠ none) v d
  | .none, _, h => by cases h; exact .non
  | .bool b, _, h => by cases h; exact .bl b
  | .int i, _, h => by cases h; exact .int i
  | .str x, _, h => by cases h; exact .str x
  | .list ds, _, h => by
    cases h with
    | lst m q a => exact .lst ⟨m, by rw [q]; exact fun z => nomatch z⟩ q (dya_there ds _ a)
  | .tuple ds, _, h => by
    cases h with
    | tup q a => exact .tup q (dya_there ds _ a)
  | .dict _, _, h => by
    cases h with
    | dct m e => exact .dct ⟨m, by rw [e]; exact fun z => nomatch z⟩ e
theorem dya_there : ∀ (ds : List PyData) (vs : List V), DyA K H N vs ds → DyA K H (fun c => N c ∧ H c ≠ none) vs ds
  | [], _, h => by cases h; exact .nil
  | d :: ds, _, h => by
    cases h with
    | cons a b => exact .cons (dy_there d _ a) (dya_there ds _ b)
end
theorem dya_snoc : ∀ {vs : List V} {ds : List PyData} {v : V} {d : PyData}, DyA K H N vs ds → Dy K H N v d → DyA K H N (vs ++ [v]) (ds ++ [d])
  | [], _, v, d, h, g => by
    cases h
    exact .cons g .nil
  | x :: vs, _, v, d, h, g => by
    cases h with
    | cons h1 h2 => exact .cons h1 (dya_snoc h2 g)
theorem dya_length : ∀ {vs : List V} {ds : List PyData}, DyA K H N vs ds → vs.length = ds.length
  | [], _, h => by cases h; rfl
  | x :: vs, _, h => by
    cases h with
    | cons h1 h2 => exact congrArg (· + 1) (dya_length h2)
theorem de_typ {v : V} {d : PyData} (h : De K H v d) :
    (∃ T, TyP K H v T ∧ T ≠ "list" ∧ T ≠ "tuple" ∧ T ≠ "dict" ∧ ∀ (H' : Hp) (N : Addr → Prop), Dy K H' N v d) ∨ (∃ a vs ds, v = .ref a ∧ d = .list ds ∧ TyP K H v "list" ∧ SqL K H a vs ∧ DeA K H vs ds) ∨ (∃ a vs ds, v = .ref a ∧ d = .tuple ds ∧ TyP K H v "tuple" ∧ SqT K H a vs ∧ DeA K H vs ds) ∨ (∃ a, v = .ref a ∧ d = .dict [] ∧ TyP K H v "dict" ∧ H a = some (.dK [])) := by
  cases h with
  | non => exact .inl ⟨_, ty_non, by decide, by decide, by decide, fun _ _ => .non⟩
  | bl b => exact .inl ⟨_, ty_bl, by decide, by decide, by decide, fun _ _ => .bl b⟩
  | int i => exact .inl ⟨_, ty_int, by decide, by decide, by decide, fun _ _ => .int i⟩
  | str x => exact .inl ⟨_, ty_str, by decide, by decide, by decide, fun _ _ => .str x⟩
  | lst q a => exact .inr (.inl ⟨_, _, _, rfl, rfl, ty_seqL (SqL.of q), SqL.of q, a⟩)
  | tup q a => exact .inr (.inr (.inl ⟨_, _, _, rfl, rfl, ty_seqT q, q, a⟩))
  | dct e => exact .inr (.inr (.inr ⟨_, rfl, rfl, ⟨.base (.dK e), by decide⟩, e⟩))
end
theorem lock_kp {H : Hp} {a D : Addr} {u o : HO} {od : Obj} (ea : H a = some u) (hD : H D = none) (ne : D ≠ a) (ht : ∀ xs, u ≠ .tup xs) (hf : ∀ p w, u ≠ .frz p w) : Kp [] H (upd (upd (upd H a (.frz od u)) D o) a u) := by
  have at_ : ∀ b v, H b = some v → upd (upd (upd H a (.frz od u)) D o) a u b = some v := fun b v e => by
    by_cases z : b = a
    · subst z
      rw [upd_same, ← ea, e]
    · rw [upd_ne z, upd_ne (ne_of_none e hD), upd_ne z]
      exact e
  exact ⟨fun b v e _ => at_ b v e, fun b xs e => at_ b _ e, fun b p w e => at_ b _ e⟩
def spCopiedE (K : PySem.W.Frag) (D : Nat) : Sp := fun vs H Q _ => ∃ (v : V) (d : PyData), vs = [v] ∧ De K H v d ∧ d.depth < D ∧ wt d ≤ 8000000 ∧ ∀ (r : V) (H' : Hp), Dy K H' (fun a => H a = none) r d → Kp [] H H' → Q r H'
section
variable {P : Program} {w : World} {K : PySem.W.Frag} {mg : Str → Option Value} {base : Heap} {f f1 f2 : Addr} {fd fd1 fd2 : FuncData}
theorem ok_copiedE1 {L0 D : Nat} (Df0 : Df K mg "copied" st_copied ["thing"] f fd) (G_copied : FnOk P w K mg base CX0 L0 f fd ["thing"] (spCopiedE K D)) (B : Bl mg) (hdi : mg "dict" = none) : FnOk P w K mg base CX0 (L0 + 1) f fd ["thing"] (spCopiedE K (D + 1)) := by
  refine Df0.fn.ok sc_copied (fun vs H Q E h => ?_) (fun cdv A outer s H vs Q E hr h => ?_)
  · obtain ⟨v, d, rfl, _⟩ := h
    rfl
  obtain ⟨v, d, rfl, hl, hd, hw, q⟩ := h
  have nd := sc_copied.nd
  refine ⟨_, PSs.nox (pss_cons (ps_if (pt_val (pe_callB call_isi (by rfl) B.isi (by decide +kernel) (pa_cons (pv 0) (pa_cons (pe_bltn (v := .ty "list") (u := .type "list") (by rfl) B.list (by decide +kernel) rfl) pa_nil))))
      (pss_one (ps_ret (pe_lc (own := [("item", 1)]) (g := gName 1) (tt := tYes) rfl nd (pi_list (pv 0)) (blkOk_by (own := [("item", 1)]) (N := ["thing", "item", "key"]) (sc := defScope st_copied) (by decide +kernel)) (fun _ _ _ _ _ => pg_name (i := 1) nd rfl (Or.inl rfl)) (fun _ _ _ _ _ => pts_nil)
        (fun _ _ _ _ _ => by (apply PE.to); (focus (exact pe_call G_copied hr (by rfl) Df0.gl Df0.fn.kp Df0.bd .nil pass0 (pa_cons (pv 1) pa_nil))); (focus ((try dsimp only [Cx.blk, Cx.nox, cxOf]); (try exact rfl))))))) pss_nil)
    (pss_cons (ps_if (pt_val (pe_callB call_isi (by rfl) B.isi (by decide +kernel) (pa_cons (pv 0) (pa_cons (pe_bltn (v := .ty "tuple") (u := .type "tuple") (by rfl) B.tuple (by decide +kernel) rfl) pa_nil))))
      (pss_one (ps_ret (pe_callTy call_tuple_of (by rfl) B.tuple (by decide +kernel) (pa_cons (pe_lc (own := [("item", 1)]) (g := gName 1) (tt := tYes) rfl nd (pi_tup (pv 0)) (blkOk_by (own := [("item", 1)]) (N := ["thing", "item", "key"]) (sc := defScope st_copied) (by decide +kernel)) (fun _ _ _ _ _ => pg_name (i := 1) nd rfl (Or.inl rfl)) (fun _ _ _ _ _ => pts_nil)
        (fun _ _ _ _ _ => by (apply PE.to); (focus (exact pe_call G_copied hr (by rfl) Df0.gl Df0.fn.kp Df0.bd .nil pass0 (pa_cons (pv 1) pa_nil))); (focus ((try dsimp only [Cx.blk, Cx.nox, cxOf]); (try exact rfl))))) pa_nil)))) pss_nil)
    (pss_cons (ps_if (pt_val (pe_callB call_isi (by rfl) B.isi (by decide +kernel) (pa_cons (pv 0) (pa_cons (pe_bltn (v := .ty "dict") (u := .type "dict") (by rfl) hdi (by decide +kernel) rfl) pa_nil))))
      (pss_one (ps_ret (pe_lock (pe_dc (own := [("key", 2)]) (g := gName 2) (tt := tYes) rfl nd (pi_keys (pv 0)) (blkOk_by (own := [("key", 2)]) (N := ["thing", "item", "key"]) (sc := defScope st_copied) (by decide +kernel)) (fun _ _ _ _ _ => pg_name (i := 2) nd rfl (Or.inl rfl)) (fun _ _ _ _ _ => pts_nil) (fun _ _ _ _ _ => pv 2)
        (fun _ _ _ _ _ => by (apply PE.to); (focus (exact pe_call G_copied hr (by rfl) Df0.gl Df0.fn.kp Df0.bd .nil pass0 (pa_cons (pe_dget (hu_of hr) (pv 0) (pv 2) (fun _ _ => rfl)) pa_nil))); (focus ((try dsimp only [Cx.blk, Cx.nox, cxOf]); (try exact rfl)))))))) pss_nil)
    (pss_one (ps_ret (pv 0)))))), ?_⟩
  -- the items, one by one
  have turn : ∀ (vs : List V) (ds : List PyData) (D' : Addr), DeA K H vs ds → PyData.depthAll ds < D → wts ds ≤ 8000000 → H D' = none → ∀ (i : Nat) (y : V) (H' : Hp) (us : List V), vs[i]? = some y → H' D' = some (.lst us) → DyA K H' (fun a => H a = none ∧ a ≠ D') us (ds.take i) → Kp [] H H' →
      ∃ d', ds[i]? = some d' ∧ spCopiedE K D [y] H' (fun r H2 => ∃ acc, H2 D' = some (.lst acc) ∧ acc.length < sizeLine ∧ ∃ us2, upd H2 D' (.lst (acc ++ [r])) D' = some (.lst us2) ∧ DyA K (upd H2 D' (.lst (acc ++ [r]))) (fun a => H a = none ∧ a ≠ D') us2 (ds.take (i + 1)) ∧ Kp [] H (upd H2 D' (.lst (acc ++ [r])))) E := by
    intro vs ds D' la hd1 hw1 hD i y H' us hy e1 tu k
    obtain ⟨d', hdi', g⟩ := dea_get la hy
    have w1 := wts_take hdi'
    have w2 := wts_le ds (i + 1)
    have w3 := dep_mem hdi'
    refine ⟨d', hdi', y, d', rfl, de_kept k _ _ g, by omega, by omega, fun r H2 tr k2 => ?_⟩
    have e2 := k2.keep _ _ e1 List.not_mem_nil
    have lu : us.length = i := by
      rw [dya_length tu, List.length_take]
      have h2 := (List.getElem?_eq_some_iff.mp hdi').1
      omega
    have l3 := len_wts ds
    have h2 := (List.getElem?_eq_some_iff.mp hdi').1
    have et : ds.take (i + 1) = ds.take i ++ [d'] := by rw [List.take_add_one, hdi']; rfl
    refine ⟨us, e2, by rw [sizeLine_eq]; omega, us ++ [r], upd_same, ?_, (k.trans k2).own hD _⟩
    rw [et]
    have kD : Kp [D'] H2 (upd H2 D' (.lst (us ++ [r]))) := (Kp.refl _ _).put (by simp) e2 (o := _)
    refine dya_snoc (dya_keep (k2.mono (by simp) |>.trans kD) (fun a n => ⟨by simpa using n.2, n⟩) _ _ tu) (dy_keep kD (fun a n => ?_) _ _ tr)
    have na : a ≠ D' := fun z => by rw [z, e1] at n; cases n
    exact ⟨by simpa using na, k.none n, na⟩
  rcases de_typ hl with ⟨T, hT, n1, n2, n3, lv⟩ | ⟨a, vs, ds, rfl, rfl, hT, hs, la⟩ | ⟨a, vs, ds, rfl, rfl, hT, hs, la⟩ | ⟨a, rfl, rfl, hT, ea⟩
  · refine ⟨_, rfl, v, _, _, _, _, rfl, .ty "list", hT.ty, kit_ty (kit_list hT.mem), ?_⟩
    refine ⟨_, rfl, ?_⟩
    refine iteF_of (decide_eq_false n1) ?_
    refine ⟨_, rfl, v, _, _, _, _, rfl, .ty "tuple", hT.ty, kit_ty (kit_tuple hT.mem), ?_⟩
    refine ⟨_, rfl, ?_⟩
    refine iteF_of (decide_eq_false n2) ?_
    refine ⟨_, rfl, v, _, _, _, _, rfl, .ty "dict", hT.ty, kit_ty (kit_dict hT.mem), ?_⟩
    refine ⟨_, rfl, ?_⟩
    refine iteF_of (decide_eq_false n3) ?_
    exact ⟨_, rfl, q v H (lv _ _) (Kp.refl _ _)⟩
  · simp only [wt, PyData.depth] at hd hw
    refine ⟨_, rfl, _, _, _, _, _, rfl, .ty "list", hT.ty, kit_ty (kit_list hT.mem), ?_⟩
    refine ⟨_, rfl, ?_⟩
    refine iteT_of (by decide) ?_
    refine ⟨_, rfl, a, rfl, ⟨vs, hs⟩, fun D' hD => ?_⟩
    have tn := turn vs ds D' la (by omega) (by omega) hD
    refine lc_list (K := K) (a := a) (xs := vs) (fun i H' => ∃ us, H' D' = some (.lst us) ∧ DyA K H' (fun a => H a = none ∧ a ≠ D') us (ds.take i) ∧ Kp [] H H') ?_ ?_ ?_ ?_
    · exact ⟨[], upd_same, .nil, (Kp.refl _ _).new hD _⟩
    · rintro i H' hi ⟨us, e1, tu, k⟩
      exact SqL.keep0 k hs
    · rintro i y H' hy ⟨us, e1, tu, k⟩
      obtain ⟨d', hdi', z⟩ := tn i y H' us hy e1 tu k
      exact ⟨rfl, _, rfl, z⟩
    · rintro H' ⟨us, e1, tu, k⟩
      rw [List.take_of_length_le (by rw [dea_length la]; exact Nat.le_refl _)] at tu
      exact q _ H' (.lst hD e1 (dya_keep (Kp.refl [] _) (fun a n => ⟨List.not_mem_nil, n.1⟩) _ _ tu)) k
  · simp only [wt, PyData.depth] at hd hw
    refine ⟨_, rfl, _, _, _, _, _, rfl, .ty "list", hT.ty, kit_ty (kit_list hT.mem), ?_⟩
    refine ⟨_, rfl, ?_⟩
    refine iteF_of (by decide) ?_
    refine ⟨_, rfl, _, _, _, _, _, rfl, .ty "tuple", hT.ty, kit_ty (kit_tuple hT.mem), ?_⟩
    refine ⟨_, rfl, ?_⟩
    refine iteT_of (by decide) ?_
    refine ⟨_, rfl, a, rfl, ⟨vs, hs⟩, fun D' hD => ?_⟩
    have tn := turn vs ds D' la (by omega) (by omega) hD
    refine lc_tup (K := K) (a := a) (xs := vs) (fun i H' => ∃ us, H' D' = some (.lst us) ∧ DyA K H' (fun a => H a = none ∧ a ≠ D') us (ds.take i) ∧ Kp [] H H') ?_ ?_ ?_ ?_
    · exact ⟨[], upd_same, .nil, (Kp.refl _ _).new hD _⟩
    · rintro i H' hi ⟨us, e1, tu, k⟩
      exact k.seqT hs
    · rintro i y H' hy ⟨us, e1, tu, k⟩
      obtain ⟨d', hdi', z⟩ := tn i y H' us hy e1 tu k
      exact ⟨rfl, _, rfl, z⟩
    · rintro H' ⟨us, e1, tu, k⟩
      rw [List.take_of_length_le (by rw [dea_length la]; exact Nat.le_refl _)] at tu
      refine ⟨D', us, rfl, .inl ⟨SqL.of e1, fun t ht0 => ?_⟩⟩
      have kt : Kp [] H' (upd H' t (.tup us)) := (Kp.refl _ _).new ht0 _
      exact q _ _ (.tup (SqT.of upd_same) (dya_keep kt (fun a n => ⟨List.not_mem_nil, n.1⟩) _ _ tu)) (k.new ht0 _)
  · refine ⟨_, rfl, _, _, _, _, _, rfl, .ty "list", hT.ty, kit_ty (kit_list hT.mem), ?_⟩
    refine ⟨_, rfl, ?_⟩
    refine iteF_of (by decide) ?_
    refine ⟨_, rfl, _, _, _, _, _, rfl, .ty "tuple", hT.ty, kit_ty (kit_tuple hT.mem), ?_⟩
    refine ⟨_, rfl, ?_⟩
    refine iteF_of (by decide) ?_
    refine ⟨_, rfl, _, _, _, _, _, rfl, .ty "dict", hT.ty, kit_ty (kit_dict hT.mem), ?_⟩
    refine ⟨_, rfl, ?_⟩
    refine iteT_of (by decide) ?_
    refine ⟨a, .dK [], ea, trivial, fun od => ?_⟩
    refine ⟨_, rfl, a, od, rfl, .inl ⟨[], upd_same, fun D' hD => ?_⟩⟩
    have ne : D' ≠ a := fun z => by rw [z, upd_same] at hD; cases hD
    have hD0 : H D' = none := by rw [upd_ne ne] at hD; exact hD
    refine ⟨fun i m H' => i = 0 ∧ H' = upd (upd H a (.frz od (.dK []))) D' (.dK []), ⟨0, rfl, rfl⟩, ?_⟩
    rintro i m H' ⟨rfl, rfl⟩
    refine .inl ⟨⟨by rw [upd_ne ne.symm, upd_same], Nat.le_refl _⟩, by rw [upd_ne ne.symm, upd_same], ?_⟩
    have kk := lock_kp (od := od) (o := .dK []) ea hD0 ne (fun _ => nofun) (fun _ _ => nofun)
    exact q _ _ (.dct hD0 (by rw [upd_ne ne, upd_same])) kk
theorem ok_copiedE {D : Nat} (Df0 : Df K mg "copied" st_copied ["thing"] f fd) (B : Bl mg) (hdi : mg "dict" = none) : FnOk P w K mg base CX0 D f fd ["thing"] (spCopiedE K D) := by
  induction D with
  | zero =>
    have no : ∀ vs H Q E, ¬ spCopiedE K 0 vs H Q E := fun vs H Q E h => by
      obtain ⟨v, d, _, _, hd, _⟩ := h
      exact absurd hd (Nat.not_lt_zero _)
    exact ⟨fun _ _ _ _ h => (no _ _ _ _ h).elim, fun _ _ _ _ _ _ _ _ _ _ _ _ _ h => (no _ _ _ _ h).elim⟩
  | succ D ih => exact ok_copiedE1 Df0 ih B hdi
end
end Hb
set_option maxHeartbeats 4000000
/-! NoPath made of any thing -/
namespace Hb
open PySem PySem.Spec PyProof.Rows L2 NdefX
/-- an error with one field, told of any data -/
def spErrE (K : PySem.W.Frag) (C : Addr) (fld : Str) : Sp := fun vs H Q _ => ∃ (a : Addr) (v : V) (d : PyData), vs = [.ref a, v] ∧ H a = some (exo a C none) ∧ De K H v d ∧ litOk d ∧ d.showable = true ∧ d.shown.length ≤ 100000 ∧ d.depth < 12 ∧ wt d ≤ 8000000 ∧
  ∀ (dx : Addr) (r : V) (H' : Hp), H' a = some (exo a C (some dx)) → H' dx = some (exd dx [(fld, r)]) → H dx = none → Dy K H' (fun c => H c = none ∧ c ≠ dx) r d → Kp [a] H H' → Q .non H'
section
variable {P : Program} {w : World} {K : PySem.W.Frag} {mg : Str → Option Value} {base : Heap} {f f1 f2 C cc cda : Addr} {fd fd1 fd2 : FuncData}
end
end Hb
set_option maxHeartbeats 4000000
/-! x[y] of an instance whose class has a def for it -/
namespace Hb
open PySem PySem.Spec PyProof.Rows L2
def rOwnIx (C : Addr) (sp : Sp) (E : XK) : R2 := fun x y H Q => ∃ a dx fs, x = .ref a ∧ H a = some (.ins C dx fs) ∧ sp [x, y] H Q E
section
variable {X : Cx} {CX : CXT} {C g : Addr} {k : Nat} {fd : FuncData} {ps : List Str} {sp : Sp} {E : XK} {a b : Expr} {ta tb : TE} {pos : Pos}
theorem pe_ixOwn (hs : PySem.W.findIn X.K (.ref C) "__getitem__" = some (some (.ref g))) (hf : PySem.W.fnIn X.K g = true) (hfn : PySem.W.isFn X.K (.ref g) = true) (F : FnG X.prog X.w X.K X.mg X.base CX k g fd ps sp) (hg : X.A.guards = some []) (hr : Room (k + 1) X.A)
    (hb : Binds X.K fd ps []) (hx : Passes CX X E) (ha : PE X a ta) (hb2 : PE X b tb) (hsl : ∀ o i, subscripted b true o i = runValue (.builtin "lifetime.subscript" ⟨[o, i], []⟩) := by intro _ _; rfl) : PE X (.Subscript a b pos) (tOp (rOwnIx C sp E) ta tb) := by
  refine ⟨fun pins s σ H Q I h => ?_⟩
  refine Subscript_ (binT ha hb2 I h fun v u s2 x y H2 I2 rx ry q => ?_)
  obtain ⟨c, dx, fs, rfl, hc, q⟩ := q
  obtain rfl : v = Value.ref c := rx
  obtain ⟨mA, J, _⟩ := ins_get I2.hok hc
  obtain ⟨od, J, _⟩ := J.look
  obtain ⟨m, hF⟩ := I2.fr
  refine PySem.W.sub_K hF I2.ok.mod.kin J hs hf hfn ?_ (hsl _ _)
  have rr : Vals [V.ref c, y] [Value.ref c, u] := .cons rfl (.cons ry .nil)
  have hl : ([Value.ref c, u] ++ []).length = ps.length := rr.length.symm.trans (F.many q)
  apply wpAny_call
  refine codeAny_mono (F.go (show X.A.in1.guards = some [] from hg) hr.in1 I2.env0.in1 (hb _ [Value.ref c, u] I2.kIn hl) rr q) ?_
  intro res s' hq
  rcases res with e | fl
  · exact hx pins σ H2 _ e s' I2 hq
  · cases fl with
    | ret u => exact I2.after hq
    | next => exact hq.elim
    | brk => exact hq.elim
    | cont => exact hq.elim
end
end Hb
set_option maxHeartbeats 4000000
/-! an own error made where nothing is handled: its context is None -/
namespace Hb
open PySem PySem.Spec PyProof.Rows L2
section
variable {X : Cx} {CX : CXT} {k : Nat} {f C : Addr} {fd : FuncData} {ps : List Str} {sp : Sp} {dvs : List V} {ds : List Value} {E : XK} {x m : Str} {p pos apos : Pos} {e o : Expr} {es : List Expr} {ta : TE} {t : TA}
/-- an error of an own class made, its __init__ keeping sp -/
theorem pmk_oexN (T : OexC X.K C) (iC : PySem.W.findIn X.K (.ref C) "__init__" = some (some (.ref f))) (tI : PySem.W.typeIn X.K (.ref f) = some (.type "function"))
    (F1 : FnG X.prog X.w X.K X.mg X.base CX k f fd ps sp) (hgu : X.A.guards = some []) (hr : Room (k + 1) X.A) (hb : Binds X.K fd ps ds) (hd : Vals dvs ds) (hx : Passes CX X (fun _ _ _ => False)) (hg : Gl X x) (hm : X.mg x = some (.ref C)) (ha : PA X (e :: es) t)
    (hdb : (x == ("__debug__" : Str)) = false := by decide) (he : starEach (e :: es) X.env = (false, eval e X.env) :: starEach es X.env := by rfl) (hpl : (backTo pos (starEach es X.env)).any (·.1) = false := by rfl) :
    L2N.PMk X (.Call (.Name x p) (e :: es) [] pos) (tMkO C sp dvs t) := by
  intro pins s σ H Q I h
  obtain ⟨nm, qn, N, bs, bm, sn, sub, ab, col, dd, k0, k1, k2, k3, k5, hC, hbm⟩ := T.cls
  apply wpAny_Call_Name_kw
  apply ld_glob I hg hm _ hdb
  apply PySem.W.callWith_K (h₀ := X.base) I.ok.mod.kin T.kC _ he hpl
  refine thn (ha.run pos pins s σ H _ I h) ?_
  rintro us s1 ⟨vs, H1, I1, r1, hz, q1⟩
  refine ⟨I1.kIn, ?_⟩
  show wpAny _ _ (call (.ref C) us) _ _ _
  obtain ⟨hp, g, dr, tk, os⟩ := s1
  have hsz := Nat.le_succ hp.objs.size
  have hq := q1 (hp.objs.size + 1) (I1.hok.fresh hsz)
  let h2 : Heap := (hp.push (PySem.W.kdv_tup us)).push (PySem.HandSPX.excO C hp.objs.size)
  have kk : ∀ b o, hp.get? b = some o → h2.get? b = some o := fun b o z => Heap.get?_push_of_some _ (Heap.get?_push_of_some _ z)
  have hget : h2.get? (hp.objs.size + 1) = some (PySem.HandSPX.excO C hp.objs.size) := by heap_get
  have I2 := I1.laid (t' := tk) (a := hp.objs.size + 1) (o := exo (hp.objs.size + 1) C none) (h' := h2) kk hsz (exo_ok hget)
  have r2 := (show Vals (V.ref (hp.objs.size + 1) :: (vs ++ dvs)) (Value.ref (hp.objs.size + 1) :: (us ++ ds)) from .cons rfl (r1.append hd))
  have hl : (Value.ref (hp.objs.size + 1) :: us ++ ds).length = ps.length := r2.length.symm.trans (F1.many hq)
  have hus : us.length ≤ sizeLine := by
    rw [← Paired.length r1, sizeLine_eq]
    omega
  have body := F1.go (E := fun _ _ _ => False) (guards_make (C := C) (us := us) (kw := []) hgu) (hr.make C us []) (I2.env0.make C us []) (hb _ (Value.ref (hp.objs.size + 1) :: us) I2.kIn hl) r2 hq
  apply wpAny_call
  apply PySem.HandSPX.call_own F.excBase_ValueError (fun Y => PySem.HandSPX.refsVE_contains Y bm hbm) (I1.kIn _ _ hC) (PySem.W.looks_findIn I1.kIn iC) (fun self => PySem.W.bind_fn I1.kIn self tI) hus
  refine codeAny_mono body ?_
  intro res s' hq'
  rcases res with er | fl
  · exact hx pins σ _ _ er s' I2 hq'
  · cases fl with
    | ret u =>
      obtain ⟨v, H2, os2, bare2, un2, hok2, rv, ev, d, fs, ea, ed, hd1, q2⟩ := hq'
      subst ev
      obtain ⟨h3, g3, d3, t3, os3⟩ := s'
      obtain ⟨t0, G, J, kG, nG, at_, na⟩ := mk_end0 (d2 := d3) (t2 := t3) I1 hsz kk un2 hok2 os2 bare2 ea ed hd1
      refine ⟨rv, hp.objs.size + 1, _, _, ⟨G, g3, d3, t3, os3⟩, _, .ref C, some d, rfl, J, kG, nG, at_, ⟨rfl, rfl, fun us2 y => ?_⟩, rfl, rfl, na, rfl, bare2, raises_own T.exC T.tyC, q2⟩
      cases y
      rfl
    | next => exact hq'.elim
    | brk => exact hq'.elim
    | cont => exact hq'.elim
end
end Hb
set_option maxHeartbeats 4000000
/-! k42: data, the error of a pile -/
namespace Hb
open PySem PySem.Spec PyProof.Rows L2 NdefX
def isIntD : PyData → Bool
  | .int _ => true
  | _ => false
theorem ty_dct {K : PySem.W.Frag} {H : Hp} {a : Addr} (e : H a = some (.dK [])) : TyP K H (.ref a) "dict" := ⟨.base (.dK e), by decide⟩
def sqOf : PyData → Option (List PyData)
  | .list ds => some ds
  | .tuple ds => some ds
  | _ => none
theorem wt_sq {d : PyData} {ds : List PyData} (h : sqOf d = some ds) : wts ds ≤ wt d := by
  cases d <;> simp only [sqOf, Option.some.injEq, reduceCtorEq] at h
  · subst h
    simp only [wt]
    omega
  · subst h
    simp only [wt]
    omega
section
variable {K : PySem.W.Frag} {H H1 : Hp}
theorem De.sqA {v : V} {d : PyData} {ds : List PyData} (h : De K H v d) (e : sqOf d = some ds) : ∃ a vs, v = .ref a ∧ SqA K H a vs ∧ DeA K H vs ds := by
  cases h <;> simp only [sqOf, Option.some.injEq, reduceCtorEq] at e
  · subst e
    rename_i a xs ds q t
    exact ⟨_, _, rfl, .inl q, t⟩
  · subst e
    rename_i a xs ds q t
    exact ⟨_, _, rfl, .inr q, t⟩
theorem De.ty {v : V} {d : PyData} (h : De K H v d) : ∃ T, TyP K H v T ∧ decide (T = "list" ∨ T = "tuple") = (sqOf d).isSome ∧ decide (T = "int") = isIntD d := by
  cases h with
  | non => exact ⟨_, ty_non, by simp [sqOf], by simp [isIntD]⟩
  | bl b => exact ⟨_, ty_bl, by simp [sqOf], by simp [isIntD]⟩
  | int i => exact ⟨_, ty_int, by simp [sqOf], by simp [isIntD]⟩
  | str x => exact ⟨_, ty_str, by simp [sqOf], by simp [isIntD]⟩
  | lst q t => exact ⟨_, ty_seqL (SqL.of q), by simp [sqOf], by simp [isIntD]⟩
  | tup q t => exact ⟨_, ty_seqT q, by simp [sqOf], by simp [isIntD]⟩
  | dct e => exact ⟨_, ty_dct e, by simp [sqOf], by simp [isIntD]⟩
theorem DeA.get {vs : List V} {ds : List PyData} {i : Nat} {x : V} (h : DeA K H vs ds) (e : vs[i]? = some x) : ∃ d, ds[i]? = some d ∧ De K H x d := dea_get h e
end
mutual
def tupD : PyData → PyData
  | .list ds => .tuple (tupDs ds)
  | .tuple ds => .tuple (tupDs ds)
  | .none => .none
  | .bool b => .bool b
  | .int i => .int i
  | .str x => .str x
  | .dict es => .dict es
def tupDs : List PyData → List PyData
  | [] => []
  | d :: ds => tupD d :: tupDs ds
end
theorem tupDs_map : ∀ ds : List PyData, tupDs ds = ds.map tupD
  | [] => by simp [tupDs]
  | d :: ds => by simp [tupDs, tupDs_map ds]
theorem tupD_sq {d : PyData} {ds : List PyData} (h : sqOf d = some ds) : tupD d = .tuple (ds.map tupD) := by
  cases d <;> simp only [sqOf, Option.some.injEq, reduceCtorEq] at h
  · subst h
    simp only [tupD, tupDs_map]
  · subst h
    simp only [tupD, tupDs_map]
theorem tupD_no {d : PyData} (h : sqOf d = none) : tupD d = d := by
  cases d <;> simp only [sqOf, reduceCtorEq] at h <;> simp only [tupD]
theorem dep_sq {d : PyData} {ds : List PyData} (h : sqOf d = some ds) : d.depth = PyData.depthAll ds + 1 := by
  cases d <;> simp only [sqOf, Option.some.injEq, reduceCtorEq] at h
  · subst h
    simp only [PyData.depth]
  · subst h
    simp only [PyData.depth]
theorem dea_snoc {K : PySem.W.Frag} {H : Hp} : ∀ {vs : List V} {ds : List PyData} {v : V} {d : PyData}, DeA K H vs ds → De K H v d → DeA K H (vs ++ [v]) (ds ++ [d])
  | _, _, _, _, .nil, g => .cons g .nil
  | _, _, _, _, .cons a t, g => .cons a (dea_snoc t g)
section
variable {K : PySem.W.Frag} {H H1 : Hp} {D' : Addr} {us : List V}
mutual
theorem de_put (k : Kp [D'] H H1) (e : H D' = some (.lst us)) : ∀ (d : PyData) (v : V), De K H v (tupD d) → De K H1 v (tupD d)
  | .none, _, h => by
    simp only [tupD] at h ⊢
    cases h
    exact .non
  | .bool b, _, h => by
    simp only [tupD] at h ⊢
    cases h
    exact .bl b
  | .int i, _, h => by
    simp only [tupD] at h ⊢
    cases h
    exact .int i
  | .str x, _, h => by
    simp only [tupD] at h ⊢
    cases h
    exact .str x
  | .list ds, _, h => by
    simp only [tupD] at h ⊢
    cases h with
    | tup q t => exact .tup (k.seqT q) (dea_put k e ds _ t)
  | .tuple ds, _, h => by
    simp only [tupD] at h ⊢
    cases h with
    | tup q t => exact .tup (k.seqT q) (dea_put k e ds _ t)
  | .dict es, _, h => by
    simp only [tupD] at h ⊢
    cases h with
    | dct q => exact .dct (k.keep _ _ q fun m => by
        rw [List.mem_singleton] at m
        rw [m, e] at q
        cases q)
theorem dea_put (k : Kp [D'] H H1) (e : H D' = some (.lst us)) : ∀ (ds : List PyData) (vs : List V), DeA K H vs (tupDs ds) → DeA K H1 vs (tupDs ds)
  | [], _, h => by
    simp only [tupDs] at h ⊢
    cases h
    exact .nil
  | d :: ds, _, h => by
    simp only [tupDs] at h ⊢
    cases h with
    | cons a t => exact .cons (de_put k e d _ a) (dea_put k e ds _ t)
end
end
def spTupled (K : PySem.W.Frag) (D : Nat) : Sp := fun vs H Q _ => ∃ (v : V) (d : PyData), vs = [v] ∧ De K H v d ∧ d.depth < D ∧ wt d ≤ 8000000 ∧ ∀ (r : V) (H' : Hp), De K H' r (tupD d) → Kp [] H H' → Q r H'
section
variable {K : PySem.W.Frag} {H2 H3 : Hp} {a dx : Addr} {N M : Addr → Prop}
theorem seqT_move (e : ∀ b, b ≠ a → b ≠ dx → H3 b = H2 b) (ha : ∀ o, H2 a = some o → (∀ xs, o ≠ .tup xs) ∧ ∀ q u, o ≠ .frz q u) (hx : ∀ o, H2 dx = some o → (∀ xs, o ≠ .tup xs) ∧ ∀ q u, o ≠ .frz q u) {t : Addr} {xs : List V} (h : SqT K H2 t xs) : SqT K H3 t xs := by
  have ne : ∀ o, H2 t = some o → ((∃ xs, o = .tup xs) ∨ ∃ q u, o = .frz q u) → t ≠ a ∧ t ≠ dx := fun o q z => by
    refine ⟨fun y => ?_, fun y => ?_⟩
    · rw [y] at q
      rcases z with ⟨xs, z⟩ | ⟨p, u, z⟩
      · exact (ha _ q).1 _ z
      · exact (ha _ q).2 _ _ z
    · rw [y] at q
      rcases z with ⟨xs, z⟩ | ⟨p, u, z⟩
      · exact (hx _ q).1 _ z
      · exact (hx _ q).2 _ _ z
  rcases h with (h | ⟨o, h⟩) | h
  · obtain ⟨n1, n2⟩ := ne _ h (.inl ⟨_, rfl⟩)
    exact .inl (.inl ((e _ n1 n2).trans h))
  · obtain ⟨n1, n2⟩ := ne _ h (.inr ⟨_, _, rfl⟩)
    exact .inl (.inr ⟨o, (e _ n1 n2).trans h⟩)
  · exact .inr h
end
/-- behind the making of an error at a, its dict at dx: the heap that is left -/
theorem err_kp {H1 H2 : Hp} {a dx C : Addr} {fs : List (Str × V)} {o : HO} (ha : H1 a = none) (hd : H1 dx = none) (ea : H2 a = some (exo a C (some dx))) (ed : H2 dx = some (exd dx fs)) (k : Kp [a] (upd H1 a (exo a C none)) H2) : Kp [] H1 (upd (del H2 a) dx o) := by
  have one : ∀ b u, H1 b = some u → b ≠ a ∧ b ≠ dx := fun b u q => ⟨ne_of_none q ha, ne_of_none q hd⟩
  have put : ∀ b u, H1 b = some u → H2 b = some u → upd (del H2 a) dx o b = some u := fun b u q z => by rw [upd_ne (one b u q).2, del_ne (one b u q).1]; exact z
  have up : ∀ b u, H1 b = some u → upd H1 a (exo a C none) b = some u := fun b u q => by rw [upd_ne (one b u q).1]; exact q
  exact ⟨fun b u q _ => put b u q (k.keep b u (up b u q) (by simpa using (one b u q).1)), fun b xs q => put b _ q (k.tup b xs (up b _ q)), fun b p u q => put b _ q (k.frz b p u (up b _ q))⟩
section
variable {K : PySem.W.Frag} {H2 H3 : Hp} {a dx : Addr} {N M : Addr → Prop}
mutual
theorem dy_move (e : ∀ b, b ≠ a → b ≠ dx → H3 b = H2 b) (ha : ∀ o, H2 a = some o → (∀ xs, o ≠ .tup xs) ∧ ∀ q u, o ≠ .frz q u) (hx : ∀ o, H2 dx = some o → (∀ xs, o ≠ .tup xs) ∧ ∀ q u, o ≠ .frz q u) (n : ∀ c, N c → c ≠ a ∧ c ≠ dx ∧ M c) : ∀ (d : PyData) (v : V), Dy K H2 N v d → Dy K H3 M v d
  | .none, _, h => by cases h; exact .non
  | .bool b, _, h => by cases h; exact .bl b
  | .int i, _, h => by cases h; exact .int i
  | .str x, _, h => by cases h; exact .str x
  | .list ds, _, h => by
    cases h with
    | lst m q a => exact .lst (n _ m).2.2 ((e _ (n _ m).1 (n _ m).2.1).trans q) (dya_move e ha hx n ds _ a)
  | .tuple ds, _, h => by
    cases h with
    | tup q a => exact .tup (seqT_move e ha hx q) (dya_move e ha hx n ds _ a)
  | .dict _, _, h => by
    cases h with
    | dct m q => exact .dct (n _ m).2.2 ((e _ (n _ m).1 (n _ m).2.1).trans q)
theorem dya_move (e : ∀ b, b ≠ a → b ≠ dx → H3 b = H2 b) (ha : ∀ o, H2 a = some o → (∀ xs, o ≠ .tup xs) ∧ ∀ q u, o ≠ .frz q u) (hx : ∀ o, H2 dx = some o → (∀ xs, o ≠ .tup xs) ∧ ∀ q u, o ≠ .frz q u) (n : ∀ c, N c → c ≠ a ∧ c ≠ dx ∧ M c) : ∀ (ds : List PyData) (vs : List V), DyA K H2 N vs ds → DyA K H3 M vs ds
  | [], _, h => by cases h; exact .nil
  | d :: ds, _, h => by
    cases h with
    | cons p q => exact .cons (dy_move e ha hx n d _ p) (dya_move e ha hx n ds _ q)
end
end
/-- a thing that may be shown and kept in an error -/
structure PdOk (d : PyData) : Prop where
  lit : litOk d
  sh : d.showable = true
  len : d.shown.length ≤ 100000
  dep : d.depth < 12
  wt : wt d ≤ 8000000
/-- what is used of an error with one field -/
structure Er1 (P : Program) (w : World) (K : PySem.W.Frag) (mg : Str → Option Value) (base : Heap) (x fld : Str) (C fI : Addr) (fd : FuncData) : Prop where
  T : SupC K C
  iC : PySem.W.findIn K (.ref C) "__init__" = some (some (.ref fI))
  tI : PySem.W.typeIn K (.ref fI) = some (.type "function")
  gl : mg x = some (.ref C)
  bd : Binds K fd ["self", fld] []
  go : FnG P w K mg base CX0 13 fI fd ["self", fld] (spErrE K C fld)
/-- the error of a thing -/
def ErrF (K : PySem.W.Frag) (C : Addr) (fld : Str) (d : PyData) (H : Hp) (E : XK) : Prop := ∀ (dx : Addr) (r : V) (H' : Hp), H' dx = some (.xd [(fld, r)]) → De K H' r d → Kp [] H H' → E (.ref C) (some dx) H'
theorem ErrF.from {K : PySem.W.Frag} {C : Addr} {fld : Str} {d : PyData} {H H1 : Hp} {E : XK} (e : ErrF K C fld d H E) (k : Kp [] H H1) : ErrF K C fld d H1 E := fun dx r H' a b c => e dx r H' a b (k.trans c)
theorem errF_sp {K : PySem.W.Frag} {C : Addr} {fld : Str} {d : PyData} {H1 : Hp} {E E' : XK} {v : V} {Q0 : VK} (e : ErrF K C fld d H1 E) (hd : De K H1 v d) (ok : PdOk d) {a' : Addr} (na : H1 a' = none)
    (hQ : ∀ (dx : Addr) (r : V) (H3 : Hp), H3 a' = some (exo a' C (some dx)) → H3 dx = some (exd dx [(fld, r)]) → H1 dx = none → E (.ref C) (some dx) (upd (del H3 a') dx (.xd [(fld, r)])) → Q0 .non H3) :
    spErrE K C fld [.ref a', v] (upd H1 a' (exo a' C none)) Q0 E' := by
  have ka : Kp [] H1 (upd H1 a' (exo a' C none)) := (Kp.refl _ _).new na _
  refine ⟨a', v, d, rfl, upd_same, de_kept ka _ _ hd, ok.lit, ok.sh, ok.len, ok.dep, ok.wt, fun dx r H3 e1 e2 nd' dr k => ?_⟩
  have nda : dx ≠ a' := fun z => by rw [z, upd_same] at nd'; cases nd'
  have nd2 : H1 dx = none := by rw [upd_ne nda] at nd'; exact nd'
  refine hQ dx r H3 e1 e2 nd2 ?_
  have kk := err_kp (o := .xd [(fld, r)]) na nd2 e1 e2 k
  refine e dx r _ upd_same (dy_de _ _ (dy_move (M := fun _ => True) (a := a') (dx := dx) (fun b n1 n2 => by rw [upd_ne n2, del_ne n1]) (fun o z => ?_) (fun o z => ?_) (fun c n => ?_) _ _ dr)) kk
  · rw [e1] at z
    cases z
    exact ⟨fun _ => exo_tup, fun _ _ => exo_frz⟩
  · rw [e2] at z
    cases z
    refine ⟨fun _ => exd_tup, fun q u y => ?_⟩
    unfold exd at y
    cases y
  · refine ⟨fun z => ?_, n.2, True.intro⟩
    have n1 := n.1
    rw [z, upd_same] at n1
    cases n1
abbrev st_BadPile_init : Stmt := inClass (top 8) 0
theorem ns_BadPile_init : NScope ["self", "index", "__class__"] ["self", "index"] ["__class__"] (defScope st_BadPile_init) := nscope_by (by decide +kernel)
section
variable {P : Program} {w : World} {K : PySem.W.Frag} {mg : Str → Option Value} {base : Heap} {f f1 f2 C cc cda : Addr} {fd fd1 fd2 : FuncData}
theorem ok_BadPile_init (hK : SysK K) (F : FunS P K C cc cda "__init__" "BadPile.__init__" st_BadPile_init f fd) (T : SupC K C) (hno : PySem.W.findIn K (.ref C) "index" = some none) (hsu : mg "super" = none)
    (G_copied : FnOk P w K mg base CX0 12 f1 fd1 ["thing"] (spCopiedE K 12)) (D_copied : Df K mg "copied" st_copied ["thing"] f1 fd1) : FnG P w K mg base CX0 13 f fd ["self", "index"] (spErrE K C "index") := by
  refine okSup F rfl ns_BadPile_init (by rfl) rfl rfl T hsu (fun vs H Q E h => ?_) (fun A outer s H vs Q E hg hr h => ?_)
  · obtain ⟨a, b, d, rfl, _⟩ := h
    rfl
  obtain ⟨a, v, d, rfl, ha, hd, hlit, hs, hz, hdep, hw, q⟩ := h
  refine ⟨a, _, _, rfl, ha, pe_joined (.cons pe_str (.cons (pe_fmtX hK (by exact hg) hr.units (pv 1)) .nil)), pss_one (ps_ost (pv 0) (pe_call G_copied (hr.mono (by decide)) (by rfl) D_copied.gl D_copied.fn.kp D_copied.bd .nil pass0 (pa_cons (pv 1) pa_nil))), ?_⟩
  have l1 : ("no layer, or one that stood before, at " : Str).length = 39 := by decide +kernel
  have l2 : (Str.empty ++ ("no layer, or one that stood before, at " : Str)).length = 39 := by decide +kernel
  refine ⟨_, rfl, by rw [l2]; decide, ?_⟩
  refine ⟨_, rfl, d, hd.x, hlit, hs, by rw [sizeLine_eq]; omega, by omega, d.shown, rfl, by rw [strLen_append, l2, sizeLine_eq]; omega, ?_⟩
  refine ⟨rfl, ha, ?_⟩
  refine ⟨_, rfl, v, d, rfl, hd, hdep, hw, fun r H1 dr k1 => ?_⟩
  have ha1 := k1.keep _ _ ha List.not_mem_nil
  refine ⟨_, rfl, a, C, rfl, T.ox, hno, .inl ⟨ha1, fun dx hdx hne => ?_⟩⟩
  have k2 : Kp [] H1 (upd H1 dx (exd dx [("index", r)])) := (Kp.refl _ _).new hdx _
  have ha2 := k2.keep _ _ ha1 List.not_mem_nil
  have k3 : Kp [a] H1 (upd (upd H1 dx (exd dx [("index", r)])) a (exo a C (some dx))) := (k2.mono (by simp)).put (by simp) ha2 (fun _ => exo_tup) (fun _ _ => exo_frz) _
  refine q dx r _ upd_same (by rw [upd_ne hne, upd_same]) (k1.none hdx) (dy_keep k3 (fun c n => ?_) _ _ (dy_there _ _ dr)) ((k1.mono (by simp)).trans k3)
  have nca : c ≠ a := fun z => by have n := n.1; rw [z, ha] at n; cases n
  exact ⟨by simpa using nca, n.1, fun z => n.2 (by rw [z]; exact hdx)⟩
end
end Hb
set_option maxHeartbeats 4000000
/-! k42: tables -/
namespace Hb
open PySem PySem.Spec PyProof.Rows L2 NdefX
def sqK (p : Str × Str) : List Key := [.inr p.1, .inr p.2]
theorem sqK_inj {p q : Str × Str} (h : sqK p = sqK q) : p = q := by
  unfold sqK at h
  injection h with h1 h2
  injection h2 with h2 _
  injection h1 with h1
  injection h2 with h2
  exact Prod.ext h1 h2
theorem sqK_V (p : Str × Str) : (sqK p).map kV = [.str p.1, .str p.2] := rfl
/-- pairs of texts and what stands at each -/
def kvP (L : List (Str × Str)) (g : Str × Str → V) : List (List Key × V) := L.map fun p => (sqK p, g p)
theorem kvP_val (L : List (Str × Str)) (g : Str × Str → V) (p : Str × Str) : valV (kvP L g) (sqK p) = if p ∈ L then some (g p) else none := by
  induction L with
  | nil => rfl
  | cons q L ih =>
    show valV ((sqK q, g q) :: kvP L g) (sqK p) = _
    by_cases e : q = p
    · subst e
      rw [valV_pos rfl, if_pos List.mem_cons_self]
    · rw [valV_neg (fun z => e (sqK_inj z)), ih]
      by_cases m : p ∈ L
      · rw [if_pos m, if_pos (List.mem_cons_of_mem _ m)]
      · rw [if_neg m, if_neg]
        intro z
        rcases List.mem_cons.mp z with z | z
        · exact e z.symm
        · exact m z
theorem kvP_new {L : List (Str × Str)} {g : Str × Str → V} {p : Str × Str} (v : V) (n : p ∉ L) : putK (kvP L g) (sqK p) v = kvP (L ++ [p]) (fun q => if q = p then v else g q) := by
  rw [putK_new v (by rw [kvP_val, if_neg n])]
  unfold kvP
  rw [List.map_append]
  congr 1
  · refine List.map_congr_left fun q m => ?_
    show (sqK q, g q) = (sqK q, if q = p then v else g q)
    rw [if_neg (fun z => n (by rw [← z]; exact m))]
  · show [(sqK p, v)] = [(sqK p, if p = p then v else g p)]
    rw [if_pos rfl]
theorem kvP_old {L : List (Str × Str)} {g : Str × Str → V} {p : Str × Str} (v : V) (n : p ∈ L) : putK (kvP L g) (sqK p) v = kvP L (fun q => if q = p then v else g q) := by
  unfold putK
  rw [valV_any, kvP_val, if_pos n]
  simp only [Option.isSome_some, if_true]
  unfold kvP
  rw [List.map_map]
  refine List.map_congr_left fun q m => ?_
  show (if sqK q = sqK p then (sqK q, v) else (sqK q, g q)) = (sqK q, if q = p then v else g q)
  by_cases e : q = p
  · rw [if_pos (by rw [e]), if_pos e]
  · rw [if_neg (fun z => e (sqK_inj z)), if_neg e]
theorem kvP_at {L : List (Str × Str)} {g : Str × Str → V} {i : Nat} {k : List Key} {v : V} (e : (kvP L g)[i]? = some (k, v)) : ∃ p, L[i]? = some p ∧ k = sqK p ∧ v = g p := by
  unfold kvP at e
  rw [List.getElem?_map] at e
  cases z : L[i]? with
  | none => rw [z] at e; cases e
  | some p =>
    rw [z] at e
    cases e
    exact ⟨p, rfl, rfl, rfl⟩
theorem kvP_len (L : List (Str × Str)) (g : Str × Str → V) : (kvP L g).length = L.length := List.length_map _
theorem kvP_congr {L : List (Str × Str)} {g g' : Str × Str → V} (h : ∀ p ∈ L, g p = g' p) : kvP L g = kvP L g' := by
  unfold kvP
  exact List.map_congr_left fun p m => by rw [h p m]
/-- all squares of some cells and ways -/
def gridP (cs ws : List Str) : List (Str × Str) := cs.flatMap fun c => ws.map fun w => (c, w)
theorem mem_gridP {cs ws : List Str} {p : Str × Str} : p ∈ gridP cs ws ↔ p.1 ∈ cs ∧ p.2 ∈ ws := by
  unfold gridP
  rw [List.mem_flatMap]
  constructor
  · rintro ⟨c, hc, h⟩
    obtain ⟨w, hw, rfl⟩ := List.mem_map.mp h
    exact ⟨hc, hw⟩
  · rintro ⟨h1, h2⟩
    exact ⟨p.1, h1, List.mem_map.mpr ⟨p.2, h2, rfl⟩⟩
theorem gridP_snoc (cs ws : List Str) (c : Str) : gridP (cs ++ [c]) ws = gridP cs ws ++ ws.map fun w => (c, w) := by
  unfold gridP
  rw [List.flatMap_append]
  simp
theorem gridP_len (cs ws : List Str) : (gridP cs ws).length = cs.length * ws.length := by
  induction cs with
  | nil => simp [gridP]
  | cons c cs ih =>
    have : gridP (c :: cs) ws = (ws.map fun w => (c, w)) ++ gridP cs ws := rfl
    rw [this, List.length_append, ih, List.length_map, List.length_cons, Nat.succ_mul, Nat.add_comm]
/-- pairs of texts, each a tuple -/
def PairV (K : PySem.W.Frag) (H : Hp) (v : V) (p : Str × Str) : Prop := ∃ t, v = .ref t ∧ SqT K H t [.str p.1, .str p.2]
inductive PrsA (K : PySem.W.Frag) (H : Hp) : List V → List (Str × Str) → Prop
  | nil : PrsA K H [] []
  | cons {v : V} {p : Str × Str} {vs : List V} {ps : List (Str × Str)} : PairV K H v p → PrsA K H vs ps → PrsA K H (v :: vs) (p :: ps)
theorem PairV.keep {K : PySem.W.Frag} {H H1 : Hp} {S : List Addr} {v : V} {p : Str × Str} (k : Kp S H H1) : PairV K H v p → PairV K H1 v p
  | ⟨t, e, h⟩ => ⟨t, e, k.seqT h⟩
theorem PrsA.keep {K : PySem.W.Frag} {H H1 : Hp} {S : List Addr} (k : Kp S H H1) : ∀ {vs : List V} {ps : List (Str × Str)}, PrsA K H vs ps → PrsA K H1 vs ps
  | _, _, .nil => .nil
  | _, _, .cons a b => .cons (a.keep k) (PrsA.keep k b)
theorem PrsA.length {K : PySem.W.Frag} {H : Hp} : ∀ {vs : List V} {ps : List (Str × Str)}, PrsA K H vs ps → vs.length = ps.length
  | _, _, .nil => rfl
  | _, _, .cons _ b => congrArg (· + 1) b.length
theorem PrsA.append {K : PySem.W.Frag} {H : Hp} : ∀ {vs us : List V} {ps qs : List (Str × Str)}, PrsA K H vs ps → PrsA K H us qs → PrsA K H (vs ++ us) (ps ++ qs)
  | _, _, _, _, .nil, h => h
  | _, _, _, _, .cons a b, h => .cons a (b.append h)
theorem PrsA.at {K : PySem.W.Frag} {H : Hp} : ∀ {vs : List V} {ps : List (Str × Str)} {i : Nat} {v : V}, PrsA K H vs ps → vs[i]? = some v → ∃ p, ps[i]? = some p ∧ PairV K H v p
  | _, _, _, _, .nil, e => by simp at e
  | _, _, 0, _, .cons a b, e => by
    rw [List.getElem?_cons_zero] at e
    cases e
    exact ⟨_, rfl, a⟩
  | _, _, i + 1, _, .cons a b, e => by
    obtain ⟨p, e1, e2⟩ := b.at (i := i) (by simpa using e)
    exact ⟨p, by simpa using e1, e2⟩
theorem sqT_unlock {K : PySem.W.Frag} {H : Hp} {d t : Addr} {od : Obj} {kvs : List (List Key × V)} {xs : List V} (e : H d = some (.frz od (.dT kvs))) (h : SqT K H t xs) : SqT K (upd H d (.dT kvs)) t xs := by
  have ne : ∀ o, H t = some o → ((∃ xs, o = .tup xs) ∨ ∃ q xs, o = .frz q (.tup xs)) → t ≠ d := fun o q z y => by
    rw [y, e] at q
    cases q
    rcases z with ⟨xs, z⟩ | ⟨p, xs, z⟩ <;> cases z
  rcases h with (h | ⟨o, h⟩) | h
  · exact .inl (.inl (by rw [upd_ne (ne _ h (.inl ⟨_, rfl⟩))]; exact h))
  · exact .inl (.inr ⟨o, by rw [upd_ne (ne _ h (.inr ⟨_, _, rfl⟩))]; exact h⟩)
  · exact .inr h
theorem PrsA.unlock {K : PySem.W.Frag} {H : Hp} {d : Addr} {od : Obj} {kvs : List (List Key × V)} (e : H d = some (.frz od (.dT kvs))) : ∀ {vs : List V} {ps : List (Str × Str)}, PrsA K H vs ps → PrsA K (upd H d (.dT kvs)) vs ps
  | _, _, .nil => .nil
  | _, _, .cons ⟨t, q, h⟩ b => .cons ⟨t, q, sqT_unlock e h⟩ (PrsA.unlock e b)
abbrev st_Table_init : Stmt := inClass (top 14) 0
abbrev st_Table_cells : Stmt := inClass (top 14) 1
abbrev st_Table_ways : Stmt := inClass (top 14) 2
abbrev st_Table_squares : Stmt := inClass (top 14) 3
abbrev st_is_square : Stmt := top 15
theorem sc_Table_init : FnScope ["self", "cells", "ways", "squares", "key", "board", "cell", "way", "square"] ["self", "cells", "ways", "squares"] (defScope st_Table_init) := ⟨rfl, rfl, rfl, by decide +kernel, rfl, by decide +kernel, by decide +kernel⟩
theorem sc_Table_cells : FnScope ["self"] ["self"] (defScope st_Table_cells) := ⟨rfl, rfl, rfl, by decide +kernel, rfl, by decide +kernel, by decide +kernel⟩
theorem sc_Table_ways : FnScope ["self"] ["self"] (defScope st_Table_ways) := ⟨rfl, rfl, rfl, by decide +kernel, rfl, by decide +kernel, by decide +kernel⟩
theorem sc_Table_squares : FnScope ["self", "square"] ["self"] (defScope st_Table_squares) := ⟨rfl, rfl, rfl, by decide +kernel, rfl, by decide +kernel, by decide +kernel⟩
theorem sc_is_square : FnScope ["board", "thing"] ["board", "thing"] (defScope st_is_square) := ⟨rfl, rfl, rfl, by decide +kernel, rfl, by decide +kernel, by decide +kernel⟩
/-- a method of the class at C, as it stands behind the top -/
structure Dm (K : PySem.W.Frag) (C : Addr) (m qual : Str) (st : Stmt) (ps : List Str) (f : Addr) (fd : FuncData) : Prop where
  fn : FunD K m qual (defArgs st) (defBody st) (defScope st) [] [] f fd
  me : Meth K C m f
  bd : Binds K fd ps []
/-- the class Table -/
structure Tc (K : PySem.W.Frag) (mg : Str → Option Value) (C : Addr) : Prop where
  gl : mg "Table" = some (.ref C)
  cls : Cls K C
  no : ∀ f ∈ (["cell_names", "way_names", "board"] : List Str), NoAttr K C f
/-- a table at a: its cells, its ways, and what it puts back -/
def TabAt (C : Addr) (H : Hp) (a : Addr) (cs ws : List Str) (f : Str × Str → Bool) : Prop := ∃ dx p q d : Addr, H a = some (.ins C dx [("cell_names", .ref p), ("way_names", .ref q), ("board", .ref d)]) ∧
  H p = some (.lst (cs.map V.str)) ∧ H q = some (.lst (ws.map V.str)) ∧ H d = some (.dT (kvP (gridP cs ws) fun p => .bl (f p)))
theorem TabAt.keep {C : Addr} {H H1 : Hp} {a : Addr} {cs ws : List Str} {f : Str × Str → Bool} (k : Kp [] H H1) (h : TabAt C H a cs ws f) : TabAt C H1 a cs ws f := by
  obtain ⟨dx, p, q, d, h1, h2, h3, h4⟩ := h
  exact ⟨dx, p, q, d, k.keep _ _ h1 List.not_mem_nil, k.keep _ _ h2 List.not_mem_nil, k.keep _ _ h3 List.not_mem_nil, k.keep _ _ h4 List.not_mem_nil⟩
theorem kp_lockT {H H' : Hp} {d : Addr} {od : Obj} {kvs : List (List Key × V)} (e : H d = some (.dT kvs)) (k : Kp [] (upd H d (.frz od (.dT kvs))) H') : Kp [] H (upd H' d (.dT kvs)) := by
  refine ⟨fun b o h n => ?_, fun b xs h => ?_, fun b o u h => ?_⟩
  · by_cases z : b = d
    · subst z
      rw [e] at h
      rw [upd_same, ← h]
    · rw [upd_ne z]
      exact k.keep b o (by rw [upd_ne z]; exact h) n
  · have z : b ≠ d := fun z => by rw [z, e] at h; cases h
    rw [upd_ne z]
    exact k.tup b xs (by rw [upd_ne z]; exact h)
  · have z : b ≠ d := fun z => by rw [z, e] at h; cases h
    rw [upd_ne z]
    exact k.frz b o u (by rw [upd_ne z]; exact h)
def spIsSq (K : PySem.W.Frag) : Sp := fun vs H Q _ => ∃ (d t : Addr) (p : Str × Str) (kvs : List (List Key × V)), vs = [.ref d, .ref t] ∧ H d = some (.dT kvs) ∧ SqT K H t [.str p.1, .str p.2] ∧ okName p.1 ∧ okName p.2 ∧ ∀ H', Kp [] H H' → Q (.bl (valV kvs (sqK p)).isSome) H'
def spTList (C : Addr) (ways : Bool) : Sp := fun vs H Q _ => ∃ (a : Addr) (cs ws : List Str) (f : Str × Str → Bool), vs = [.ref a] ∧ TabAt C H a cs ws f ∧ ∀ (r : Addr) (H' : Hp), H r = none → H' r = some (.lst ((if ways then ws else cs).map V.str)) → Kp [] H H' → Q (.ref r) H'
def spTSq (K : PySem.W.Frag) (C : Addr) : Sp := fun vs H Q _ => ∃ (a : Addr) (cs ws : List Str) (f : Str × Str → Bool), vs = [.ref a] ∧ TabAt C H a cs ws f ∧ (gridP cs ws).length ≤ 10000 ∧ ∀ (r : Addr) (xs : List V) (H' : Hp), H r = none → H' r = some (.lst xs) → PrsA K H' xs ((gridP cs ws).filter f) → Kp [] H H' → Q (.ref r) H'
def spTInit (K : PySem.W.Frag) (C : Addr) : Sp := fun vs H Q _ => ∃ (a dx p q r : Addr) (cs ws : List Str) (xs : List V) (ps : List (Str × Str)), vs = [.ref a, .ref p, .ref q, .ref r] ∧ H a = some (.ins C dx []) ∧ H p = some (.lst (cs.map V.str)) ∧ H q = some (.lst (ws.map V.str)) ∧ H r = some (.lst xs) ∧ PrsA K H xs ps ∧
  (∀ c ∈ cs, okName c) ∧ (∀ w ∈ ws, okName w) ∧ cs.Nodup ∧ ws.Nodup ∧ cs.length ≤ 20 ∧ ws.length ≤ 20 ∧ (∀ x ∈ ps, x.1 ∈ cs ∧ x.2 ∈ ws) ∧ ps.length ≤ 1000 ∧
  ∀ (cs' ws' : List Str) (H' : Hp), cs'.Perm cs → sortedS cs' = true → ws'.Perm ws → sortedS ws' = true → TabAt C H' a cs' ws' (fun x => decide (x ∈ ps)) → Kp [a] H H' → Q .non H'
section
variable {P : Program} {w : World} {K : PySem.W.Frag} {mg : Str → Option Value} {base : Heap} {f f1 f2 f3 C : Addr} {fd fd1 fd2 fd3 : FuncData}
theorem ok_is_square (D : Df K mg "is_square" st_is_square ["board", "thing"] f fd) (G_is_list : FnOk P w K mg base CX0 1 f1 fd1 ["thing"] (spIsList K)) (D_is_list : Df K mg "is_list" st_is_list ["thing"] f1 fd1)
    (G_is_name : FnOk P w K mg base CX0 1 f2 fd2 ["thing"] (spIsName K)) (D_is_name : Df K mg "is_name" st_is_name ["thing"] f2 fd2) (B : Bl mg) : FnOk P w K mg base CX0 2 f fd ["board", "thing"] (spIsSq K) := by
  refine D.fn.ok sc_is_square (fun vs H Q E h => ?_) (fun cdv A outer s H vs Q E hr h => ?_)
  · obtain ⟨d, t, p, kvs, rfl, _⟩ := h
    rfl
  obtain ⟨d, t, p, kvs, rfl, hd, ht, o1, o2, q⟩ := h
  have hu := hu_of hr
  refine ⟨_, PSs.nox (pss_cons (ps_if (PW.pt (pw_or (pt_not (pt_val (pe_call G_is_list (hr.mono (by decide)) (by rfl) D_is_list.gl D_is_list.fn.kp D_is_list.bd .nil pass0 (pa_cons (pv 1) pa_nil)))) (pw_or (pt_cmpR op_ne (pe_callB call_len_seq (by rfl) B.len PySem.boot_len (pa_cons (pv 1) pa_nil)) pe_int (nomark _)) (pw_or (pt_not (pt_val (pe_call G_is_name (hr.mono (by decide)) (by rfl) D_is_name.gl D_is_name.fn.kp D_is_name.bd .nil pass0 (pa_cons (pe_ix ix_tup (pv 1) pe_int (fun _ _ => rfl)) pa_nil)))) (pw_or1 (pt_not (pt_val (pe_call G_is_name (hr.mono (by decide)) (by rfl) D_is_name.gl D_is_name.fn.kp D_is_name.bd .nil pass0 (pa_cons (pe_ix ix_tup (pv 1) pe_int (fun _ _ => rfl)) pa_nil)))))))))
      pss_never pss_nil)
    (pss_one (ps_ret (pe_cmp (pc_din hu (pe_tup (pa_cons (pe_ix ix_tup (pv 1) pe_int (fun _ _ => rfl)) (pa_cons (pe_ix ix_tup (pv 1) pe_int (fun _ _ => rfl)) pa_nil))) (pv 0)))))), ?_⟩
  have ty : ∀ H1 : Hp, Kp [] H H1 → ∃ T, TyP K H1 (.ref t) T ∧ T = "tuple" := fun H1 k => ⟨_, ty_seqT (k.seqT ht), rfl⟩
  refine ⟨_, rfl, _, "tuple", rfl, ty_seqT ht, fun H1 k1 => ?_⟩
  refine ⟨_, rfl, ?_⟩
  refine iteF_of (by decide) ?_
  have ht1 := k1.seqT ht
  refine ⟨_, rfl, t, _, rfl, .inr ht1, rfl, _, rfl, ?_⟩
  refine iteF_of rfl ?_
  refine ⟨_, rfl, t, _, 0, .str p.1, rfl, rfl, ht1, rfl, .str p.1, "str", rfl, ty_str, fun _ => ⟨p.1, rfl, by have := o1.2.1; omega⟩, fun H2 k2 => ?_⟩
  refine ⟨_, rfl, ?_⟩
  refine iteF_of (by show (!decide (okName p.1)) = false; rw [decide_eq_true o1]; rfl) ?_
  have ht2 := k2.seqT ht1
  refine ⟨_, rfl, t, _, 1, .str p.2, rfl, rfl, ht2, rfl, .str p.2, "str", rfl, ty_str, fun _ => ⟨p.2, rfl, by have := o2.2.1; omega⟩, fun H3 k3 => ?_⟩
  refine ⟨_, rfl, ?_⟩
  refine iteF_of (by show (!decide (okName p.2)) = false; rw [decide_eq_true o2]; rfl) ?_
  have ht3 := k3.seqT ht2
  have k13 := (k1.trans k2).trans k3
  refine ⟨_, rfl, t, _, 0, .str p.1, rfl, rfl, ht3, rfl, _, rfl, t, _, 1, .str p.2, rfl, rfl, ht3, rfl, by show 2 ≤ sizeLine; decide, fun u hu1 => ?_⟩
  have ku : Kp [] H3 (upd H3 u (.tup [.str p.1, .str p.2])) := (Kp.refl _ _).new hu1 _
  have hd3 := ku.keep _ _ (k13.keep _ _ hd List.not_mem_nil) List.not_mem_nil
  exact ⟨_, rfl, d, _, rfl, DGet.t (k := sqK p) hd3 upd_same, q _ (k13.trans ku)⟩
theorem ok_Table_cells (D : Dm K C "cells" "Table.cells" st_Table_cells ["self"] f fd) (c : Tc K mg C) (B : Bl mg) : FnOk P w K mg base CX0 1 f fd ["self"] (spTList C false) := by
  refine D.fn.ok sc_Table_cells (fun vs H Q E h => ?_) (fun cdv A outer s H vs Q E hr h => ?_)
  · obtain ⟨a, cs, ws, g, rfl, _⟩ := h
    rfl
  obtain ⟨a, cs, ws, g, rfl, ⟨dx, p, r, d, ha, hp, hr1, hd⟩, q⟩ := h
  refine ⟨_, PSs.nox (pss_one (ps_ret (pe_callTy call_list_of (by rfl) B.list (by decide +kernel) (pa_cons (pe_fld (pv 0) rfl) pa_nil)))), ?_⟩
  refine ⟨_, rfl, a, C, dx, _, .ref p, rfl, ha, c.cls, c.no _ (by simp), rfl, p, _, rfl, .inl (SqL.of hp), fun l hl => ?_⟩
  exact q l _ hl upd_same ((Kp.refl _ _).new hl _)
theorem ok_Table_ways (D : Dm K C "ways" "Table.ways" st_Table_ways ["self"] f fd) (c : Tc K mg C) (B : Bl mg) : FnOk P w K mg base CX0 1 f fd ["self"] (spTList C true) := by
  refine D.fn.ok sc_Table_ways (fun vs H Q E h => ?_) (fun cdv A outer s H vs Q E hr h => ?_)
  · obtain ⟨a, cs, ws, g, rfl, _⟩ := h
    rfl
  obtain ⟨a, cs, ws, g, rfl, ⟨dx, p, r, d, ha, hp, hr1, hd⟩, q⟩ := h
  refine ⟨_, PSs.nox (pss_one (ps_ret (pe_callTy call_list_of (by rfl) B.list (by decide +kernel) (pa_cons (pe_fld (pv 0) rfl) pa_nil)))), ?_⟩
  refine ⟨_, rfl, a, C, dx, _, .ref r, rfl, ha, c.cls, c.no _ (by simp), rfl, r, _, rfl, .inl (SqL.of hr1), fun l hl => ?_⟩
  exact q l _ hl upd_same ((Kp.refl _ _).new hl _)
theorem ok_Table_squares (D : Dm K C "squares" "Table.squares" st_Table_squares ["self"] f fd) (c : Tc K mg C) : FnOk P w K mg base CX0 1 f fd ["self"] (spTSq K C) := by
  refine D.fn.ok sc_Table_squares (fun vs H Q E h => ?_) (fun cdv A outer s H vs Q E hr h => ?_)
  · obtain ⟨a, cs, ws, g, rfl, _⟩ := h
    rfl
  obtain ⟨a, cs, ws, g, rfl, ⟨dx, p, r, d, ha, hp, hr1, hd⟩, hz, q⟩ := h
  have nd := sc_Table_squares.nd
  have hu := hu_of hr
  refine ⟨_, PSs.nox (pss_one (ps_ret (pe_lock (pe_lc (own := [("square", 1)]) (g := gName 1) rfl nd (pi_keys (pe_fld (pv 0) rfl)) (blkOk_by (own := [("square", 1)]) (N := ["self", "square"]) (sc := defScope st_Table_squares) (by decide +kernel)) (fun _ _ _ _ _ => pg_name (i := 1) nd rfl (Or.inl rfl))
      (fun _ _ _ _ _ => by (apply PTs.to); (focus (exact pts_one (pt_val (pe_dget hu (pe_fld (pv 0) rfl) (pv 1) (fun _ _ => rfl))))); (focus ((try dsimp only [Cx.blk, Cx.nox, cxOf]); (try exact rfl)))) (fun _ _ _ _ _ => pv 1))))), ?_⟩
  refine ⟨d, _, hd, trivial, fun od => ?_⟩
  have nad : a ≠ d := fun z => by rw [z, hd] at ha; cases ha
  have fz0 : upd H d (.frz od (.dT (kvP (gridP cs ws) fun p => .bl (g p)))) d = _ := upd_same
  have ha0 : upd H d (.frz od (.dT (kvP (gridP cs ws) fun p => .bl (g p)))) a = _ := (upd_ne nad).trans ha
  refine ⟨_, rfl, a, C, dx, _, .ref d, rfl, ha0, c.cls, c.no _ (by simp), rfl, d, od, rfl, .inr ⟨_, fz0, fun D' hD => ?_⟩⟩
  have nD : D' ≠ d := fun z => by rw [z, upd_same] at hD; cases hD
  refine lc_it (walk_keysT (d := d) (o := od) (kvs := kvP (gridP cs ws) fun p => .bl (g p))) (fun i H' => ∃ xs, H' D' = some (.lst xs) ∧ PrsA K H' xs (((gridP cs ws).take i).filter g) ∧ Kp [] (upd H d (.frz od (.dT (kvP (gridP cs ws) fun p => .bl (g p))))) H') ?_ (fun i H' _ g => by obtain ⟨_, _, _, k⟩ := g; exact k.frz _ _ _ fz0) ?_ ?_
  · exact ⟨[], upd_same, by simp only [List.take_zero, List.filter_nil]; exact .nil, (Kp.refl _ _).new hD _⟩
  · rintro i x H2 H3 hi ⟨xs, e1, e2, k⟩ ⟨rfl, kk, v, u, ek, rfl, hu2⟩
    obtain ⟨y, ey, rfl, rfl⟩ := kvP_at ek
    have my := List.mem_of_getElem? ey
    have et : (gridP cs ws).take (i + 1) = (gridP cs ws).take i ++ [y] := by rw [List.take_add_one, ey]; rfl
    refine ⟨rfl, ?_⟩
    refine ⟨_, rfl, a, C, dx, _, .ref d, rfl, k.keep _ _ ha0 List.not_mem_nil, c.cls, c.no _ (by simp), rfl, _, rfl, d, .bl (g y), rfl, .inr ⟨_, sqK y, u, .inr ⟨od, k.frz _ _ _ fz0⟩, rfl, hu2, by rw [kvP_val, if_pos my]⟩, _, rfl, ?_⟩
    cases gy : g y with
    | true =>
      refine iteT_of rfl ?_
      have ll := e2.length
      have l1 := List.length_filter_le g ((gridP cs ws).take i)
      have l2 := List.length_take_le' i (gridP cs ws)
      have kD : Kp [D'] H3 (upd H3 D' (.lst (xs ++ [.ref u]))) := (Kp.refl _ _).put (by simp) e1 (o := _)
      refine ⟨_, rfl, xs, e1, by rw [sizeLine_eq]; omega, xs ++ [.ref u], upd_same, ?_, k.own hD _⟩
      rw [et, List.filter_append, List.filter_cons, gy]
      exact (e2.keep kD).append (.cons ⟨u, rfl, kD.seqT (SqT.of hu2)⟩ .nil)
    | false =>
      refine iteF_of rfl ?_
      refine ⟨xs, e1, ?_, k⟩
      rw [et, List.filter_append, List.filter_cons, gy]
      simpa using e2
  · rintro H' ⟨xs, e1, e2, k⟩
    rw [List.take_of_length_le (by rw [kvP_len]; exact Nat.le_refl _)] at e2
    refine ⟨k.frz _ _ _ fz0, ?_⟩
    have nDa : H D' = none := by rw [upd_ne nD] at hD; exact hD
    exact q D' xs _ nDa (by rw [upd_ne nD]; exact e1) (e2.unlock (k.frz _ _ _ fz0)) (kp_lockT hd k)
end
end Hb
set_option maxHeartbeats 4000000
/-! k42: a table is made -/
namespace Hb
open PySem PySem.Spec PyProof.Rows L2 NdefX StX
/-- Table.__init__, its default the empty tuple -/
structure DmT (K : PySem.W.Frag) (C : Addr) (f : Addr) (fd : FuncData) : Prop where
  fn : ∃ dv, FunD K "__init__" "Table.__init__" (defArgs st_Table_init) (defBody st_Table_init) (defScope st_Table_init) dv [] f fd
  me : Meth K C "__init__" f
  bd : Binds K fd ["self", "cells", "ways", "squares"] []
theorem nodup_take {α : Type} {xs : List α} {i : Nat} {y : α} (n : xs.Nodup) (e : xs[i]? = some y) : y ∉ xs.take i := by
  intro m
  obtain ⟨hi, e⟩ := List.getElem?_eq_some_iff.mp e
  obtain ⟨j, hj, e2⟩ := List.mem_iff_getElem.mp m
  rw [List.length_take] at hj
  rw [List.getElem_take] at e2
  have := (List.pairwise_iff_getElem.mp n) j i (by omega) hi (by omega)
  exact this (by rw [e, e2])
/-- sorted(set(xs)) of texts, xs a slot -/
def tSS (i : Nat) : TE := fun σ H Q => tVar i σ H fun x H1 => ∃ (p : Addr) (xs : List Str), x = .ref p ∧ H1 p = some (.lst (xs.map V.str)) ∧ (dd xs).length < 64 ∧ ∀ (ys : List Str) (r : Addr) (H2 : Hp), ys.Perm (dd xs) → sortedS ys = true → H1 r = none → H2 r = some (.lst (ys.map V.str)) → Kp [] H1 H2 → Q (.ref r) H2
theorem pe_ss {X : Cx} {e : Expr} {i : Nat} (h : PE X e (tCB (rSortX X.prog X.w) (tCons (tCB (rSetX X.prog X.w X.K) (tCons (tVar i) tNil)) tNil))) : PE X e (tSS i) := ⟨fun pins s σ H Q I hw => h.run pins s σ H Q I (by
  obtain ⟨v, e1, p, xs, rfl, e2, l, q⟩ := hw
  refine ⟨_, e1, p, xs, rfl, .inl (SqL.of e2), by show _ < 4096; omega, fun s1 hs1 => ?_⟩
  refine ⟨s1, _, rfl, upd_same, l, fun ys r pm so hr => ?_⟩
  have k1 : Kp [] H (upd H s1 (SxO X.prog X.w s1 (dd xs))) := (Kp.refl _ _).new hs1 _
  exact q ys r _ pm so (k1.free hr List.not_mem_nil) upd_same (k1.new hr _))⟩
theorem dd_perm {xs : List Str} (n : xs.Nodup) : (dd xs).Perm xs := perm_of nd_dd n fun _ => mem_dd
section
variable {P : Program} {w : World} {K : PySem.W.Frag} {mg : Str → Option Value} {base : Heap} {f f1 f2 f3 C : Addr} {fd fd1 fd2 fd3 : FuncData}
theorem ok_Table_init (D : DmT K C f fd) (c : Tc K mg C) (G_is_square : FnOk P w K mg base CX0 2 f1 fd1 ["board", "thing"] (spIsSq K)) (D_is_square : Df K mg "is_square" st_is_square ["board", "thing"] f1 fd1)
    (G_is_name : FnOk P w K mg base CX0 1 f2 fd2 ["thing"] (spIsName K)) (D_is_name : Df K mg "is_name" st_is_name ["thing"] f2 fd2) (B : Bl mg) : FnOk P w K mg base CX0 3 f fd ["self", "cells", "ways", "squares"] (spTInit K C) := by
  obtain ⟨dv, F⟩ := D.fn
  refine F.ok sc_Table_init (fun vs H Q E h => ?_) (fun cdv A outer s H vs Q E hr h => ?_)
  · obtain ⟨a, dx, p, q, r, cs, ws, xs, ps, rfl, _⟩ := h
    rfl
  obtain ⟨a, dx, p, q, r, cs, ws, xs, ps, rfl, ha, hp, hq, hr1, hps, oc, ow, nc, nw, lc, lw, hin, lps, Q1⟩ := h
  have nd := sc_Table_init.nd
  have hu := hu_of hr
  refine ⟨_, PSs.nox (pss_cons (ps_for PassesOwn.never rfl (pi_list (pe_lst (pa_star (pv 1) (pa_star (pv 2) pa_nil)))) (pg_name (i := 4) nd rfl (.inl rfl)) (pss_one (ps_if (pt_not (pt_val (pe_call G_is_name (hr.mono (by decide)) (by rfl) D_is_name.gl D_is_name.fn.kp D_is_name.bd .nil pass0 (pa_cons (pv 4) pa_nil)))) pss_never pss_nil)))
    (pss_cons (ps_fld (pv 0) (pe_ss (pe_callB (cr_sortX rfl) (by rfl) B.sorted (by decide +kernel) (pa_cons (pe_callTy (cr_setX rfl) (by rfl) B.set (by decide +kernel) (pa_cons (pv 1) pa_nil)) pa_nil))) rfl)
    (pss_cons (ps_fld (pv 0) (pe_ss (pe_callB (cr_sortX rfl) (by rfl) B.sorted (by decide +kernel) (pa_cons (pe_callTy (cr_setX rfl) (by rfl) B.set (by decide +kernel) (pa_cons (pv 2) pa_nil)) pa_nil))) rfl)
    (pss_cons (ps_set (i := 5) nd rfl (.inl rfl) pe_dnewT)
    (pss_cons (ps_for PassesOwn.never rfl (pi_list (pe_fld (pv 0) rfl)) (pg_name (i := 6) nd rfl (.inl rfl)) (pss_one (ps_for PassesOwn.never rfl (pi_list (pe_fld (pv 0) rfl)) (pg_name (i := 7) nd rfl (.inl rfl)) (pss_one (ps_dput hu (pv 5) (pe_tup (pa_cons (pv 6) (pa_cons (pv 7) pa_nil))) pe_bl rfl)))))
    (pss_cons (ps_for PassesOwn.never rfl (pi_list (pv 3)) (pg_name (i := 8) nd rfl (.inl rfl))
      (pss_cons (ps_if (pt_not (pt_val (pe_call G_is_square (hr.mono (by decide)) (by rfl) D_is_square.gl D_is_square.fn.kp D_is_square.bd .nil pass0 (pa_cons (pv 5) (pa_cons (pv 8) pa_nil))))) pss_never pss_nil)
      (pss_one (ps_dput hu (pv 5) (pe_tup (pa_cons (pe_ix ix_tup (pv 8) pe_int (fun _ _ => rfl)) (pa_cons (pe_ix ix_tup (pv 8) pe_int (fun _ _ => rfl)) pa_nil))) pe_bl rfl))))
    (pss_one (ps_fld (pv 0) (pv 5) rfl)))))))), ?_⟩
  refine ⟨_, rfl, p, _, rfl, .inr (SqL.of hp), _, rfl, q, _, rfl, .inr (SqL.of hq), ?_⟩
  refine ⟨by simp only [List.append_nil, List.length_append, List.length_map]; rw [sizeLine_eq]; omega, fun l hl => ?_⟩
  rw [List.append_nil, ← List.map_append]
  have kl : Kp [] H (upd H l (.lst ((cs ++ ws).map V.str))) := (Kp.refl _ _).new hl _
  refine ⟨l, rfl, ⟨_, SqL.of upd_same⟩, for_list (K := K) (a := l) (xs := (cs ++ ws).map V.str) (fun i σ H' => ∃ v4, σ = [some (.ref a), some (.ref p), some (.ref q), some (.ref r), v4, none, none, none, none] ∧ Kp [] (upd H l (.lst ((cs ++ ws).map V.str))) H') ?_ ?_ ?_ ?_⟩
  · exact ⟨none, rfl, Kp.refl _ _⟩
  · rintro i σ H' hi ⟨v4, rfl, k⟩
    exact SqL.of (k.keep _ _ upd_same List.not_mem_nil)
  · rintro i x σ H' hx ⟨v4, rfl, k⟩
    obtain ⟨y, hy, rfl⟩ := List.mem_map.mp (List.mem_of_getElem? hx)
    have oy : okName y := by
      rcases List.mem_append.mp hy with h | h
      · exact oc y h
      · exact ow y h
    refine ⟨_, rfl, .str y, "str", rfl, ty_str, fun _ => ⟨y, rfl, by have := oy.2.1; omega⟩, fun H2 k2 => ?_⟩
    refine ⟨_, rfl, ?_⟩
    refine iteF_of (by show (!decide (okName y)) = false; rw [decide_eq_true oy]; rfl) ?_
    exact ⟨_, rfl, k.trans k2⟩
  rintro σ H1 ⟨v4, rfl, k1⟩
  have k01 := kl.trans k1
  have few : ∀ (xs : List Str), xs.length ≤ 20 → (dd xs).length ≤ 20 := fun xs h => Nat.le_trans len_dd h
  have f1 := few cs lc
  have f2 := few ws lw
  refine ⟨_, rfl, p, cs, rfl, k01.keep _ _ hp List.not_mem_nil, by omega, fun cs' p' H2 pm1 so1 hp' ep' k12 => ?_⟩
  have k2 : Kp [] H H2 := k01.trans k12
  have ha2 := k2.keep _ _ ha List.not_mem_nil
  refine ⟨_, rfl, a, C, dx, _, rfl, ha2, c.cls, c.no _ (by simp), by decide, ?_⟩
  have na1 : p' ≠ a := fun z => by rw [z, ha2] at ep'; cases ep'
  have k3 : Kp [a] H2 (upd H2 a (.ins C dx [("cell_names", .ref p')])) := (Kp.refl _ _).put (by simp) ha2 (o := _)
  have k03 := (k2.mono (fun _ m => absurd m List.not_mem_nil)).trans k3
  have nqa : q ≠ a := fun z => by rw [z, ha] at hq; cases hq
  have nra : r ≠ a := fun z => by rw [z, ha] at hr1; cases hr1
  have ep3 : upd H2 a (.ins C dx [("cell_names", .ref p')]) p' = some (.lst (cs'.map V.str)) := (upd_ne na1).trans ep'
  have ea3 : upd H2 a (.ins C dx [("cell_names", .ref p')]) a = some (.ins C dx [("cell_names", .ref p')]) := upd_same
  refine ⟨_, rfl, q, ws, rfl, k03.keep _ _ hq (by simpa using nqa), by omega, fun ws' q' H4 pm2 so2 hq' eq4 k4 => ?_⟩
  have ea4 := k4.keep _ _ ea3 List.not_mem_nil
  have ep4 := k4.keep _ _ ep3 List.not_mem_nil
  refine ⟨_, rfl, a, C, dx, _, rfl, ea4, c.cls, c.no _ (by simp), by show 1 < 1000; decide, ?_⟩
  have na2 : q' ≠ a := fun z => by rw [z, ea4] at eq4; cases eq4
  have k5 : Kp [a] H4 (upd H4 a (.ins C dx [("cell_names", .ref p'), ("way_names", .ref q')])) := (Kp.refl _ _).put (by simp) ea4 (o := _)
  have k05 := (k03.trans (k4.mono (fun _ m => absurd m List.not_mem_nil))).trans k5
  have ep5 : upd H4 a (.ins C dx [("cell_names", .ref p'), ("way_names", .ref q')]) p' = some (.lst (cs'.map V.str)) := (upd_ne na1).trans ep4
  have eq5 : upd H4 a (.ins C dx [("cell_names", .ref p'), ("way_names", .ref q')]) q' = some (.lst (ws'.map V.str)) := (upd_ne na2).trans eq4
  have ea5 : upd H4 a (.ins C dx [("cell_names", .ref p'), ("way_names", .ref q')]) a = some (.ins C dx [("cell_names", .ref p'), ("way_names", .ref q')]) := upd_same
  show tSeq _ _ _ _ (upd H4 a (.ins C dx [("cell_names", .ref p'), ("way_names", .ref q')]))
  generalize upd H4 a (.ins C dx [("cell_names", .ref p'), ("way_names", .ref q')]) = H5 at k05 ep5 eq5 ea5
  intro b hb
  have k6 : Kp [] H5 (upd H5 b (.dT [])) := (Kp.refl _ _).new hb _
  have nc' : cs'.Nodup := pm1.nodup_iff.mpr nd_dd
  have nw' : ws'.Nodup := pm2.nodup_iff.mpr nd_dd
  have lc' : cs'.length ≤ 20 := by rw [pm1.length_eq]; exact f1
  have lw' : ws'.length ≤ 20 := by rw [pm2.length_eq]; exact f2
  have gl : ∀ i, (gridP (cs'.take i) ws').length ≤ 400 := fun i => by
    rw [gridP_len]
    exact Nat.mul_le_mul (Nat.le_trans (List.length_take_le' i cs') lc') lw'
  refine ⟨_, rfl, a, C, dx, _, .ref p', rfl, k6.keep _ _ ea5 List.not_mem_nil, c.cls, c.no _ (by simp), rfl, p', rfl, ⟨_, SqL.of (k6.keep _ _ ep5 List.not_mem_nil)⟩, for_list (K := K) (a := p') (xs := cs'.map V.str) (fun i σ H' => ∃ v6 v7, σ = [some (.ref a), some (.ref p), some (.ref q), some (.ref r), v4, some (.ref b), v6, v7, none] ∧ H' b = some (.dT (kvP (gridP (cs'.take i) ws') fun _ => .bl false)) ∧ Kp [] H5 H') ?_ ?_ ?_ ?_⟩
  · exact ⟨none, none, rfl, upd_same, k6⟩
  · rintro i σ H' hi ⟨v6, v7, rfl, e1, k⟩
    exact SqL.of (k.keep _ _ ep5 List.not_mem_nil)
  · rintro i x σ H6 hx ⟨v6, v7, rfl, e1, k⟩
    rw [List.getElem?_map] at hx
    obtain ⟨y, hy, rfl⟩ := Option.map_eq_some_iff.mp hx
    have ety : cs'.take (i + 1) = cs'.take i ++ [y] := by rw [List.take_add_one, hy]; rfl
    have niy : y ∉ cs'.take i := nodup_take nc' hy
    refine ⟨_, rfl, a, C, dx, _, .ref q', rfl, k.keep _ _ ea5 List.not_mem_nil, c.cls, c.no _ (by simp), rfl, q', rfl, ⟨_, SqL.of (k.keep _ _ eq5 List.not_mem_nil)⟩, for_list (K := K) (a := q') (xs := ws'.map V.str) (fun j σ H' => ∃ v7, σ = [some (.ref a), some (.ref p), some (.ref q), some (.ref r), v4, some (.ref b), some (.str y), v7, none] ∧ H' b = some (.dT (kvP (gridP (cs'.take i) ws' ++ (ws'.take j).map fun z => (y, z)) fun _ => .bl false)) ∧ Kp [] H5 H') ?_ ?_ ?_ ?_⟩
    · exact ⟨v7, rfl, by rw [List.take_zero, List.map_nil, List.append_nil]; exact e1, k⟩
    · rintro j σ H' hj ⟨v7, rfl, e2, k⟩
      exact SqL.of (k.keep _ _ eq5 List.not_mem_nil)
    · rintro j x σ H7 hx ⟨v7, rfl, e2, k7⟩
      rw [List.getElem?_map] at hx
      obtain ⟨z, hz, rfl⟩ := Option.map_eq_some_iff.mp hx
      refine ⟨_, rfl, _, rfl, _, rfl, by show 2 ≤ sizeLine; decide, fun t ht => ?_⟩
      have kt : Kp [] H7 (upd H7 t (.tup [.str y, .str z])) := (Kp.refl _ _).new ht _
      have e3 := kt.keep _ _ e2 List.not_mem_nil
      have nin : (y, z) ∉ gridP (cs'.take i) ws' ++ (ws'.take j).map fun z => (y, z) := by
        intro m
        rcases List.mem_append.mp m with m | m
        · exact niy (mem_gridP.mp m).1
        · obtain ⟨u, hu1, hu2⟩ := List.mem_map.mp m
          injection hu2 with _ hu2
          exact nodup_take nw' hz (hu2 ▸ hu1)
      have g1 := gl i
      have g2 := List.length_take_le' j ws'
      refine ⟨b, _, rfl, DPut.t (k := sqK (y, z)) e3 upd_same (by rw [kvP_len, List.length_append, List.length_map, sizeLine_eq]; omega), ?_⟩
      rw [kvP_new _ nin]
      refine ⟨_, rfl, ?_, ?_⟩
      · rw [upd_same, List.take_add_one, hz, List.append_assoc, List.map_append]
        refine congrArg (fun z => some (HO.dT z)) (kvP_congr fun u _ => ?_)
        split <;> rfl
      · exact (k7.trans kt).own hb _
    · rintro σ H7 ⟨v7, rfl, e2, k7⟩
      rw [List.length_map, List.take_of_length_le (Nat.le_refl _)] at e2
      exact ⟨_, _, rfl, by rw [ety, gridP_snoc]; exact e2, k7⟩
  rintro σ H6 ⟨v6, v7, rfl, e6, k6⟩
  rw [List.length_map, List.take_of_length_le (Nat.le_refl _)] at e6
  have k06 := k05.trans (k6.mono (fun _ m => absurd m List.not_mem_nil))
  have hr6 := k06.keep _ _ hr1 (by simpa using nra)
  have hps6 := hps.keep k06
  have lxs := hps.length
  refine ⟨_, rfl, r, rfl, ⟨_, SqL.of hr6⟩, for_list (K := K) (a := r) (xs := xs) (fun i σ H' => ∃ v8, σ = [some (.ref a), some (.ref p), some (.ref q), some (.ref r), v4, some (.ref b), v6, v7, v8] ∧ H' b = some (.dT (kvP (gridP cs' ws') fun x => .bl (decide (x ∈ ps.take i)))) ∧ Kp [b] H6 H') ?_ ?_ ?_ ?_⟩
  · refine ⟨none, rfl, ?_, Kp.refl _ _⟩
    rw [e6]
    refine congrArg (fun z => some (HO.dT z)) (kvP_congr fun u _ => ?_)
    simp
  · rintro i σ H' hi ⟨v8, rfl, e1, k⟩
    refine SqL.of (k.keep _ _ hr6 ?_)
    have : r ≠ b := fun z => by rw [z, e6] at hr6; cases hr6
    simpa using this
  · rintro i x σ H7 hx ⟨v8, rfl, e1, k⟩
    obtain ⟨y, hy, t, rfl, ht⟩ := (hps6.keep k).at hx
    have my := List.mem_of_getElem? hy
    obtain ⟨m1, m2⟩ := hin y my
    have mg : y ∈ gridP cs' ws' := mem_gridP.mpr ⟨pm1.mem_iff.mpr (mem_dd.mpr m1), pm2.mem_iff.mpr (mem_dd.mpr m2)⟩
    refine ⟨_, rfl, _, rfl, b, t, y, _, rfl, e1, ht, oc _ m1, ow _ m2, fun H8 k8 => ?_⟩
    refine ⟨_, rfl, ?_⟩
    rw [kvP_val, if_pos mg]
    refine iteF_of rfl ?_
    have ht8 := k8.seqT ht
    refine ⟨_, rfl, _, rfl, t, _, 0, .str y.1, rfl, rfl, ht8, rfl, _, rfl, t, _, 1, .str y.2, rfl, rfl, ht8, rfl, by show 2 ≤ sizeLine; decide, fun u hu1 => ?_⟩
    have ku : Kp [] H8 (upd H8 u (.tup [.str y.1, .str y.2])) := (Kp.refl _ _).new hu1 _
    have e8 := ku.keep _ _ (k8.keep _ _ e1 List.not_mem_nil) List.not_mem_nil
    have gg := gridP_len cs' ws'
    have gm : cs'.length * ws'.length ≤ 20 * 20 := Nat.mul_le_mul lc' lw'
    refine ⟨b, _, rfl, DPut.t (k := sqK y) e8 upd_same (by rw [kvP_len, gg, sizeLine_eq]; omega), ?_⟩
    rw [kvP_old _ mg]
    refine ⟨_, rfl, ?_, ?_⟩
    · rw [upd_same]
      refine congrArg (fun z => some (HO.dT z)) (kvP_congr fun u _ => ?_)
      rw [List.take_add_one, hy]
      by_cases e : u = y
      · rw [if_pos e, e]
        simp
      · rw [if_neg e]
        simp [e]
    · exact (k.trans ((k8.trans ku).mono (fun _ m => absurd m List.not_mem_nil))).put (by simp) e8 (o := _)
  rintro σ H7 ⟨v8, rfl, e7, k7⟩
  rw [lxs, List.take_of_length_le (Nat.le_refl _)] at e7
  have nab : a ≠ b := fun z => by rw [← z, ea5] at hb; cases hb
  have npb : p' ≠ b := fun z => by rw [← z, ep5] at hb; cases hb
  have nqb : q' ≠ b := fun z => by rw [← z, eq5] at hb; cases hb
  have ea7 := k7.keep _ _ (k6.keep _ _ ea5 List.not_mem_nil) (by simpa using nab)
  have ep7 := k7.keep _ _ (k6.keep _ _ ep5 List.not_mem_nil) (by simpa using npb)
  have eq7 := k7.keep _ _ (k6.keep _ _ eq5 List.not_mem_nil) (by simpa using nqb)
  refine ⟨_, rfl, _, rfl, a, C, dx, _, rfl, ea7, c.cls, c.no _ (by simp), by show 2 < 1000; decide, ?_⟩
  have k8 : Kp [a] H7 (upd H7 a (.ins C dx [("cell_names", .ref p'), ("way_names", .ref q'), ("board", .ref b)])) := (Kp.refl _ _).put (by simp) ea7 (o := _)
  refine Q1 cs' ws' _ (pm1.trans (dd_perm nc)) so1 (pm2.trans (dd_perm nw)) so2 ⟨dx, p', q', b, upd_same, (upd_ne na1).trans ep7, (upd_ne na2).trans eq7, (upd_ne nab.symm).trans e7⟩ ?_
  have nHb : H b = none := k05.free hb (by simpa using nab.symm)
  have k07 : Kp [a] H H7 := ((k06.mono (T := [a, b]) (by simp)).trans (k7.mono (by simp))).off (by simp [nHb])
  exact k07.trans k8
end
end Hb
set_option maxHeartbeats 400000
/-! k42: layers -/
namespace Hb
open PySem PySem.Spec PyProof.Rows L2 NdefX
abbrev cL (c : Str) : Str × Str := ("cell", c)
abbrev wL (c : Str) : Str × Str := ("way", c)
def layD : List PyData → Option (Str × Str)
  | [.str k, .str n] => if (k = "cell" ∨ k = "way") ∧ okName n then some (k, n) else none
  | _ => none
/-- the layer that a thing is -/
def layOf (d : PyData) : Option (Str × Str) := match sqOf d with
  | some ds => layD ds
  | none => none
theorem layD_some {ds : List PyData} {l : Str × Str} (h : layD ds = some l) : ds = [.str l.1, .str l.2] ∧ (l.1 = "cell" ∨ l.1 = "way") ∧ okName l.2 := by
  unfold layD at h
  split at h
  · split at h
    · rename_i k n c
      cases h
      exact ⟨rfl, c⟩
    · cases h
  · cases h
theorem layOf_some {d : PyData} {l : Str × Str} (h : layOf d = some l) : sqOf d = some [.str l.1, .str l.2] ∧ (l.1 = "cell" ∨ l.1 = "way") ∧ okName l.2 := by
  unfold layOf at h
  split at h
  · rename_i ds e
    obtain ⟨h1, h2⟩ := layD_some h
    exact ⟨by rw [e, h1], h2⟩
  · cases h
theorem layOf_pair {d : PyData} {k n : Str} (e : sqOf d = some [.str k, .str n]) : layOf d = if (k = "cell" ∨ k = "way") ∧ okName n then some (k, n) else none := by
  unfold layOf
  rw [e]
  rfl
/-- what the law puts among the layers -/
structure LzOk (d : PyData) : Prop where
  h : ∀ x0 x1, sqOf d = some [x0, x1] → (∃ k, x0 = .str k) ∧ ∀ s, x1 = .str s → s.length ≤ 10000
theorem De.tyN {K : PySem.W.Frag} {H : Hp} {v : V} {d : PyData} (h : De K H v d) : ∃ T, TyP K H v T ∧ (T = "str" → ∃ x : Str, v = .str x ∧ d = .str x) := by
  cases h with
  | non => exact ⟨_, ty_non, fun z => absurd z (by decide)⟩
  | bl b => exact ⟨_, ty_bl, fun z => absurd z (by decide)⟩
  | int i => exact ⟨_, ty_int, fun z => absurd z (by decide)⟩
  | str x => exact ⟨_, ty_str, fun _ => ⟨x, rfl, rfl⟩⟩
  | lst q t => exact ⟨_, ty_seqL (SqL.of q), fun z => absurd z (by decide)⟩
  | tup q t => exact ⟨_, ty_seqT q, fun z => absurd z (by decide)⟩
  | dct e => exact ⟨_, ty_dct e, fun z => absurd z (by decide)⟩
theorem dea_two {K : PySem.W.Frag} {H : Hp} {xs : List V} {ds : List PyData} (h : DeA K H xs ds) (l : xs.length = 2) : ∃ v0 v1 x0 x1, xs = [v0, v1] ∧ ds = [x0, x1] ∧ De K H v0 x0 ∧ De K H v1 x1 := by
  cases h with
  | nil => cases l
  | cons a t =>
    cases t with
    | nil => cases l
    | cons b t =>
      cases t with
      | nil => exact ⟨_, _, _, _, rfl, rfl, a, b⟩
      | cons c t => simp at l
abbrev st_is_layer : Stmt := top 21
theorem sc_is_layer : FnScope ["thing"] ["thing"] (defScope st_is_layer) := ⟨rfl, rfl, rfl, by decide +kernel, rfl, by decide +kernel, by decide +kernel⟩
def spIsLayer (K : PySem.W.Frag) : Sp := fun vs H Q _ => ∃ (v : V) (d : PyData), vs = [v] ∧ De K H v d ∧ LzOk d ∧ wt d ≤ 8000000 ∧ ∀ H', Kp [] H H' → Q (.bl (layOf d).isSome) H'
section
variable {P : Program} {w : World} {K : PySem.W.Frag} {mg : Str → Option Value} {base : Heap} {f f1 f2 f3 C : Addr} {fd fd1 fd2 fd3 : FuncData}
theorem ok_is_layer (D : Df K mg "is_layer" st_is_layer ["thing"] f fd) (G_is_list : FnOk P w K mg base CX0 1 f1 fd1 ["thing"] (spIsList K)) (D_is_list : Df K mg "is_list" st_is_list ["thing"] f1 fd1)
    (G_is_name : FnOk P w K mg base CX0 1 f2 fd2 ["thing"] (spIsName K)) (D_is_name : Df K mg "is_name" st_is_name ["thing"] f2 fd2) (B : Bl mg) : FnOk P w K mg base CX0 2 f fd ["thing"] (spIsLayer K) := by
  refine D.fn.ok sc_is_layer (fun vs H Q E h => ?_) (fun cdv A outer s H vs Q E hr h => ?_)
  · obtain ⟨v, d, rfl, _⟩ := h
    rfl
  obtain ⟨v, d, rfl, hd, hz, hw, q⟩ := h
  have nd := sc_is_layer.nd
  refine ⟨_, PSs.nox (pss_one (ps_ret (pe_and (pe_call G_is_list (hr.mono (by decide)) (by rfl) D_is_list.gl D_is_list.fn.kp D_is_list.bd .nil pass0 (pa_cons (pv 0) pa_nil)) (pe_and (pe_cmpR op_eq (pe_callB call_len_seq (by rfl) B.len PySem.boot_len (pa_cons (pv 0) pa_nil)) pe_int rfl) (pe_and (pe_cmpR op_in_seq (pe_ix ix_sq (pv 0) pe_int (fun _ _ => rfl)) (pe_tup (pa_cons pe_str (pa_cons pe_str pa_nil))) rfl)
    (pe_one (pe_call G_is_name (hr.mono (by decide)) (by rfl) D_is_name.gl D_is_name.fn.kp D_is_name.bd .nil pass0 (pa_cons (pe_ix ix_sq (pv 0) pe_int (fun _ _ => rfl)) pa_nil)))))))), ?_⟩
  obtain ⟨T, hT, hTl, _⟩ := hd.ty
  refine ⟨_, rfl, v, T, rfl, hT, fun H1 k1 => ?_⟩
  refine ⟨_, rfl, ?_⟩
  cases hsq : sqOf d with
  | none =>
    refine iteF_of (by rw [hTl, hsq]; rfl) ?_
    have := q H1 k1
    rw [show layOf d = none by unfold layOf; rw [hsq]] at this
    exact this
  | some ds =>
    refine iteT_of (by rw [hTl, hsq]; rfl) ?_
    obtain ⟨a, xs, rfl, hs, la⟩ := hd.sqA hsq
    have hs1 : SqA K H1 a xs := hs.keep k1 List.not_mem_nil
    have lxs := dea_length la
    have lw1 := len_wts ds
    have lw2 := wt_sq hsq
    refine ⟨_, rfl, a, xs, rfl, hs1.lt, rfl, _, rfl, ?_⟩
    by_cases h2 : xs.length = 2
    · refine iteT_of (decide_eq_true (by rw [h2]; rfl)) ?_
      obtain ⟨v0, v1, x0, x1, rfl, rfl, h0, h1⟩ := dea_two la h2
      obtain ⟨⟨k, rfl⟩, hz2⟩ := hz.h _ _ hsq
      obtain rfl : v0 = .str k := by cases h0; rfl
      refine ⟨_, rfl, a, _, 0, .str k, rfl, rfl, hs1, rfl, ?_⟩
      refine ⟨by show 2 ≤ sizeLine; decide, fun t ht => ?_⟩
      have kt : Kp [] H1 (upd H1 t (.tup [.str "cell", .str "way"])) := (Kp.refl _ _).new ht _
      refine ⟨t, _, rfl, .inr (SqT.of upd_same), rfl, rfl, _, rfl, ?_⟩
      have hs2 := hs1.keep kt List.not_mem_nil
      have h12 := de_kept (k1.trans kt) _ _ h1
      generalize upd H1 t (.tup [.str "cell", .str "way"]) = H2 at kt hs2 h12
      have ein : inV (.str k) [.str "cell", .str "way"] = decide (k ∈ (["cell", "way"] : List Str)) := inV_strs k ["cell", "way"]
      by_cases hk : k ∈ (["cell", "way"] : List Str)
      · refine iteT_of (by show inV (.str k) [.str "cell", .str "way"] = true; rw [ein, decide_eq_true hk]) ?_
        obtain ⟨T1, hT1, hs1'⟩ := h12.tyN
        refine ⟨_, rfl, a, _, 1, v1, rfl, rfl, hs2, rfl, v1, T1, rfl, hT1, fun e => ?_, fun H3 k3 => ?_⟩
        · obtain ⟨x, e1, e2⟩ := hs1' e
          exact ⟨x, e1, hz2 x e2⟩
        have e : nameB v1 = (layOf d).isSome := by
          have hk' : k = "cell" ∨ k = "way" := by simpa using hk
          cases h1 with
          | str x =>
            rw [layOf_pair hsq]
            show decide (okName x) = _
            by_cases o : okName x
            · rw [if_pos ⟨hk', o⟩, decide_eq_true o]
              rfl
            · rw [if_neg (fun z => o z.2), decide_eq_false o]
              rfl
          | _ =>
            unfold layOf
            rw [hsq]
            rfl
        rw [e]
        exact q H3 ((k1.trans kt).trans k3)
      · refine iteF_of (by show inV (.str k) [.str "cell", .str "way"] = false; rw [ein, decide_eq_false hk]) ?_
        have := q H2 (k1.trans kt)
        rw [show layOf d = none by
          cases e : layOf d with
          | none => rfl
          | some l =>
            obtain ⟨e1, e2, _⟩ := layOf_some e
            rw [hsq] at e1
            injection e1 with e1
            injection e1 with e1 _
            injection e1 with e1
            exact absurd (by rw [e1]; simpa using e2) hk] at this
        exact this
    · refine iteF_of (decide_eq_false (fun z => h2 (by injection z with z; omega))) ?_
      have := q H1 k1
      rw [show layOf d = none by
        cases e : layOf d with
        | none => rfl
        | some l =>
          obtain ⟨e1, _⟩ := layOf_some e
          rw [hsq] at e1
          injection e1 with e1
          rw [e1] at lxs
          exact absurd lxs h2] at this
      exact this
end
end Hb
set_option maxHeartbeats 1000000
/-! k42: of_pile -/
namespace Hb
open PySem PySem.Spec PyProof.Rows L2 NdefX
/-- the first thing that is no layer, or stood before, is the i-th -/
def BadAt (ds : List PyData) (i : Nat) : Prop := ∃ ls : List (Str × Str), (ds.take i).map layOf = ls.map some ∧ ls.Nodup ∧ ∃ d, ds[i]? = some d ∧ ∀ l, layOf d = some l → l ∈ ls
def cellsOf (ls : List (Str × Str)) : List Str := (ls.filter fun l : Str × Str => decide (l.1 = ("cell" : Str))).map (·.2)
def waysOf (ls : List (Str × Str)) : List Str := (ls.filter fun l : Str × Str => decide (l.1 = ("way" : Str))).map (·.2)
def ahead (ls : List (Str × Str)) (p : Str × Str) : Bool := decide (ls.idxOf (wL p.2) < ls.idxOf (cL p.1))
def behP (ls : List (Str × Str)) : List (Str × Str) := (gridP (cellsOf ls) (waysOf ls)).filter (ahead ls)
def ixV (ls : List (Str × Str)) (q : Str × Str) : V := .int (ls.idxOf q : Nat)
theorem kvP_snoc {ls : List (Str × Str)} {l : Str × Str} (n : l ∉ ls) : putK (kvP ls (ixV ls)) (sqK l) (.int (ls.length : Nat)) = kvP (ls ++ [l]) (ixV (ls ++ [l])) := by
  rw [kvP_new _ n]
  refine kvP_congr fun q m => ?_
  unfold ixV
  by_cases e : q = l
  · rw [if_pos e, e, List.idxOf_append, if_neg n]
    simp
  · rw [if_neg e]
    have m2 : q ∈ ls := by
      rcases List.mem_append.mp m with m | m
      · exact m
      · exact absurd (by simpa using m) e
    rw [List.idxOf_append, if_pos m2]
theorem cellsOf_nd {ls : List (Str × Str)} (n : ls.Nodup) : (cellsOf ls).Nodup := by
  unfold cellsOf
  have : (ls.filter fun l : Str × Str => decide (l.1 = ("cell" : Str))).Pairwise (fun a b => a.2 ≠ b.2) := by
    refine List.Pairwise.imp_of_mem ?_ (n.filter _)
    intro a b ha hb h z
    have h1 := of_decide_eq_true (List.mem_filter.mp ha).2
    have h2 := of_decide_eq_true (List.mem_filter.mp hb).2
    exact h (Prod.ext (h1.trans h2.symm) z)
  exact List.pairwise_map.mpr this
theorem waysOf_nd {ls : List (Str × Str)} (n : ls.Nodup) : (waysOf ls).Nodup := by
  unfold waysOf
  have : (ls.filter fun l : Str × Str => decide (l.1 = ("way" : Str))).Pairwise (fun a b => a.2 ≠ b.2) := by
    refine List.Pairwise.imp_of_mem ?_ (n.filter _)
    intro a b ha hb h z
    have h1 := of_decide_eq_true (List.mem_filter.mp ha).2
    have h2 := of_decide_eq_true (List.mem_filter.mp hb).2
    exact h (Prod.ext (h1.trans h2.symm) z)
  exact List.pairwise_map.mpr this
theorem mem_cellsOf {ls : List (Str × Str)} {c : Str} : c ∈ cellsOf ls ↔ ((("cell" : Str), c) : Str × Str) ∈ ls := by
  unfold cellsOf
  constructor
  · intro h
    obtain ⟨l, hl, rfl⟩ := List.mem_map.mp h
    obtain ⟨h1, h2⟩ := List.mem_filter.mp hl
    have := of_decide_eq_true h2
    show (_, l.2) ∈ ls
    rw [← this]
    exact h1
  · intro h
    exact List.mem_map.mpr ⟨_, List.mem_filter.mpr ⟨h, decide_eq_true rfl⟩, rfl⟩
theorem mem_waysOf {ls : List (Str × Str)} {c : Str} : c ∈ waysOf ls ↔ ((("way" : Str), c) : Str × Str) ∈ ls := by
  unfold waysOf
  constructor
  · intro h
    obtain ⟨l, hl, rfl⟩ := List.mem_map.mp h
    obtain ⟨h1, h2⟩ := List.mem_filter.mp hl
    have := of_decide_eq_true h2
    show (_, l.2) ∈ ls
    rw [← this]
    exact h1
  · intro h
    exact List.mem_map.mpr ⟨_, List.mem_filter.mpr ⟨h, decide_eq_true rfl⟩, rfl⟩
theorem pd_int {i : Nat} (h : i < 100) : PdOk (.int (i : Nat)) := by
  have n : nice (.int (i : Nat)) = true := by
    show decide ((i : Int).natAbs < 10 ^ 31) = true
    exact decide_eq_true (by
      rw [Int.natAbs_natCast]
      exact Nat.lt_trans h (by decide))
  have l := nice_len n
  simp only [wt] at l
  refine ⟨?_, nice_show n, by omega, by simp only [PyData.depth]; omega, by simp only [wt]; omega⟩
  show (i : Int).natAbs.log2 < 1920
  rw [Int.natAbs_natCast]
  exact log_small (Nat.lt_trans h (by decide))
abbrev st_of_pile : Stmt := top 20
theorem sc_of_pile : FnScope ["layers", "places", "index", "layer", "cells", "ways", "behind", "kind", "name", "cell", "way"] ["layers"] (defScope st_of_pile) := ⟨rfl, rfl, rfl, by decide +kernel, rfl, by decide +kernel, by decide +kernel⟩
def spOfPile (K : PySem.W.Frag) (BP CT : Addr) : Sp := fun vs H Q E => ∃ (v : V) (d : PyData) (ds : List PyData), vs = [v] ∧ De K H v d ∧ sqOf d = some ds ∧ (∀ x ∈ ds, LzOk x) ∧ wt d ≤ 8000000 ∧ ds.length ≤ 20 ∧
  (∀ i, BadAt ds i → ErrF K BP "index" (.int (i : Nat)) H E) ∧
  ∀ ls, ds.map layOf = ls.map some → ls.Nodup → ∀ (y : Addr) (cs ws : List Str) (H' : Hp), cs.Perm (cellsOf ls) → sortedS cs = true → ws.Perm (waysOf ls) → sortedS ws = true → TabAt CT H' y cs ws (fun x => decide (x ∈ behP ls)) → Kp [] H H' → Q (.ref y) H'
section
variable {P : Program} {w : World} {K : PySem.W.Frag} {mg : Str → Option Value} {base : Heap} {f f1 f2 fI C BP : Addr} {fd fd1 fd2 fdI : FuncData}
theorem ok_of_pile (D : Df K mg "of_pile" st_of_pile ["layers"] f fd) (c : Tc K mg C) (mk : Mk K C f1) (G_Table_init : FnOk P w K mg base CX0 3 f1 fd1 ["self", "cells", "ways", "squares"] (spTInit K C)) (D_Table_init : DmT K C f1 fd1)
    (G_is_layer : FnOk P w K mg base CX0 2 f2 fd2 ["thing"] (spIsLayer K)) (D_is_layer : Df K mg "is_layer" st_is_layer ["thing"] f2 fd2) (Z : Er1 P w K mg base "BadPile" "index" BP fI fdI) (B : Bl mg) : FnG P w K mg base (L2N.CX P w) 15 f fd ["layers"] (spOfPile K BP C) := by
  refine okG D.fn sc_of_pile (fun vs H Q E h => ?_) (fun cdv A outer s H vs Q E hg hr h => ?_)
  · obtain ⟨v, d, ds, rfl, _⟩ := h
    rfl
  obtain ⟨v, d, ds, rfl, hd, hsq, hz, hw, hlen, qb, qg⟩ := h
  obtain ⟨a, xs, rfl, hs, la⟩ := hd.sqA hsq
  have nd := sc_of_pile.nd
  have hu := hu_of hr
  have lxs := dea_length la
  have lw2 := wt_sq hsq
  have tk := L2N.takes_of (X := cxOf (L2N.CX P w) P w K mg base ["layers", "places", "index", "layer", "cells", "ways", "behind", "kind", "name", "cell", "way"] "of_pile" (defScope st_of_pile) f cdv A outer s H E) rfl rfl rfl (E := E) rfl
  refine ⟨_, (pss_cons (ps_set (i := 1) nd rfl (.inr rfl) pe_dnewT)
    (pss_cons (ps_for (passes_of rfl) rfl (pi_eq (by rfl) B.enum (pa_cons (pv 0) pa_nil)) (pg_tup rfl (pgs_cons (pg_name (i := 2) nd rfl (.inl rfl)) (pgs_cons (pg_name (i := 3) nd rfl (.inl rfl)) pgs_nil)))
      (pss_cons (ps_if (PW.pt (pw_or (pt_not (pt_val (pe_call G_is_layer (hr.mono (by decide)) (by rfl) D_is_layer.gl D_is_layer.fn.kp D_is_layer.bd .nil pass0 (pa_cons (pv 3) pa_nil)))) (pw_or1 (pt_cmp (pc_din hu (pe_tup (pa_cons (pe_ix ix_sq (pv 3) pe_int (fun _ _ => rfl)) (pa_cons (pe_ix ix_sq (pv 3) pe_int (fun _ _ => rfl)) pa_nil))) (pv 1))))))
        (pss_one (L2N.ps_raise rfl tk (pmk_oexN Z.T.ox Z.iC Z.tI Z.go hg (hr.mono (by decide)) Z.bd .nil pass0 (by rfl) Z.gl (pa_cons (pv 2) pa_nil)))) pss_nil)
      (pss_one (ps_dput hu (pv 1) (pe_tup (pa_cons (pe_ix ix_sq (pv 3) pe_int (fun _ _ => rfl)) (pa_cons (pe_ix ix_sq (pv 3) pe_int (fun _ _ => rfl)) pa_nil))) (pv 2) rfl))))
    (PSs.nox (pss_cons (ps_lock (ps_setLc (i := 4) (own := [("kind", 7), ("name", 8)]) (g := gTup K 2 (gCons (gName 7) (gCons (gName 8) gNil))) rfl nd rfl rfl (by rfl) (pi_keys (pv 1)) (blkOk_by (own := [("kind", 7), ("name", 8)]) (N := ["layers", "places", "index", "layer", "cells", "ways", "behind", "kind", "name", "cell", "way"]) (sc := defScope st_of_pile) (by decide +kernel))
        (fun _ _ _ _ _ => pg_tup rfl (pgs_cons (pg_name (i := 7) nd rfl (Or.inl rfl)) (pgs_cons (pg_name (i := 8) nd rfl (Or.inl rfl)) pgs_nil))) (fun _ _ _ _ _ => pts_one (pt_cmpR op_eq (pv 7) pe_str (nomark _))) (fun _ _ _ _ _ => pv 8)))
    (pss_cons (ps_set (i := 5) nd rfl (.inr rfl) (pe_lock (pe_lc (own := [("kind", 7), ("name", 8)]) (g := gTup K 2 (gCons (gName 7) (gCons (gName 8) gNil))) rfl nd (pi_keys (pv 1)) (blkOk_by (own := [("kind", 7), ("name", 8)]) (N := ["layers", "places", "index", "layer", "cells", "ways", "behind", "kind", "name", "cell", "way"]) (sc := defScope st_of_pile) (by decide +kernel))
        (fun _ _ _ _ _ => pg_tup rfl (pgs_cons (pg_name (i := 7) nd rfl (Or.inl rfl)) (pgs_cons (pg_name (i := 8) nd rfl (Or.inl rfl)) pgs_nil))) (fun _ _ _ _ _ => pts_one (pt_cmpR op_eq (pv 7) pe_str (nomark _))) (fun _ _ _ _ _ => pv 8))))
    (pss_cons (ps_setLc2 (i := 6) (own := [("cell", 9), ("way", 10)]) (vs1 := [10]) (g := gName 9) (tt := tYes) (g1 := gName 10) rfl nd rfl rfl (by rfl) (pi_list (pv 4)) (blkOk_by (own := [("cell", 9), ("way", 10)]) (N := ["layers", "places", "index", "layer", "cells", "ways", "behind", "kind", "name", "cell", "way"]) (sc := defScope st_of_pile) (by decide +kernel)) (by decide)
        (fun _ _ _ _ _ => pg_name (i := 9) nd rfl (Or.inl rfl)) (fun _ _ _ _ _ => pts_nil)
        (fun _ _ _ _ _ => by (apply PI.to); (focus (exact pi_list (pv 5))); (focus ((try dsimp only [Cx.blk, Cx.nox, cxOf]); (try exact rfl)))) (fun _ _ _ _ _ => pg_name (i := 10) nd rfl (Or.inl rfl))
        (fun _ _ _ _ _ => by (apply PTs.to); (focus (exact pts_one (pt_cmpR op_gt (pe_dget hu (pv 1) (pe_tup (pa_cons pe_str (pa_cons (pv 9) pa_nil))) (fun _ _ => rfl)) (pe_dget hu (pv 1) (pe_tup (pa_cons pe_str (pa_cons (pv 10) pa_nil))) (fun _ _ => rfl)) (nomark _)))); (focus ((try dsimp only [Cx.blk, Cx.nox, cxOf]); (try exact rfl))))
        (fun _ _ _ _ _ => pe_tup (pa_cons (pv 9) (pa_cons (pv 10) pa_nil))))
    (pss_one (ps_ret (pe_make mk G_Table_init (hr.mono (by decide)) (by rfl) c.gl D_Table_init.bd .nil pass0 (pa_cons (pv 4) (pa_cons (pv 5) (pa_cons (pv 6) pa_nil)))))))))))), ?_⟩
  intro pl hpl
  have kp : Kp [] H (upd H pl (.dT [])) := (Kp.refl _ _).new hpl _
  obtain ⟨b, eb, hb0, hbk⟩ := hs.bk
  have mem : ∀ i (l : Str × Str) d', ds[i]? = some d' → wt d' ≤ 8000000 ∧ LzOk d' := fun i l d' hd' => by
    have w1 := wts_take hd'
    have w2 := wts_le ds (i + 1)
    exact ⟨by omega, hz d' (List.mem_of_getElem? hd')⟩
  refine ⟨_, rfl, b, xs, by rw [eb], hbk [] _ List.not_mem_nil kp, for_it (walk_eq (K := K) (b := b) (xs := xs)) (fun i σ H' => ∃ (v2 v3 : Option V) (ls : List (Str × Str)), σ = [some (.ref a), some (.ref pl), v2, v3, none, none, none, none, none, none, none] ∧ (ds.take i).map layOf = ls.map some ∧ ls.Nodup ∧ H' pl = some (.dT (kvP ls (ixV ls))) ∧ Kp [] H H') ?_ ?_ ?_ ?_⟩
  · exact ⟨none, none, [], rfl, rfl, List.nodup_nil, upd_same, kp⟩
  · rintro i σ H' _ ⟨v2, v3, ls, rfl, e1, nls, e2, k⟩
    exact hbk [] _ List.not_mem_nil k
  · rintro i x σ H2 H3 hi ⟨v2, v3, ls, rfl, e1, nls, e2, k⟩ ⟨T, y, z, rfl, hT, rfl, hy, hz2⟩
    obtain rfl : y = .int (i : Nat) := (Option.some.inj hy).symm
    have kT := k.new hT (.tup [.int (i : Nat), z])
    have eT := ((Kp.refl [] H2).new hT (.tup [.int (i : Nat), z])).keep _ _ e2 List.not_mem_nil
    refine ⟨T, _, rfl, SqT.of upd_same, rfl, ?_⟩
    refine ⟨_, _, rfl, _, _, rfl, rfl, ?_⟩
    generalize upd H2 T (.tup [.int (i : Nat), z]) = H3 at kT eT
    obtain ⟨d', hd', hdz⟩ := dea_get (dea_kept kT _ _ la) hz2
    obtain ⟨w1, z1⟩ := mem i ("", "") d' hd'
    have lls : ls.length = i := by
      have := congrArg List.length e1
      rw [List.length_map, List.length_map, List.length_take] at this
      have hi2 := (List.getElem?_eq_some_iff.mp hd').1
      omega
    have hi2 := (List.getElem?_eq_some_iff.mp hd').1
    refine ⟨_, rfl, z, d', rfl, hdz, z1, w1, fun H4 k4 => ?_⟩
    refine ⟨_, rfl, ?_⟩
    cases hl : layOf d' with
    | none =>
      refine iteT_of rfl ?_
      refine iteT_of rfl ?_
      refine ⟨_, rfl, by show 1 ≤ 1000; decide, fun a' na => ?_⟩
      exact errF_sp ((qb i ⟨ls, e1, nls, d', hd', fun l e => by rw [hl] at e; cases e⟩).from (kT.trans k4)) (.int _) (pd_int (by omega)) na fun dx r H3 e1 e2 n q => ⟨rfl, dx, _, e1, e2, n, q⟩
    | some l =>
      refine iteF_of rfl ?_
      obtain ⟨sq, _, _⟩ := layOf_some hl
      obtain ⟨a', us, rfl, hs', la'⟩ := hdz.sqA sq
      obtain rfl : us = [.str l.1, .str l.2] := by
        cases la' with
        | cons p q =>
          cases q with
          | cons p2 q2 =>
            cases q2
            cases p
            cases p2
            rfl
      have hs4 := hs'.keep k4 List.not_mem_nil
      have e4 := k4.keep _ _ eT List.not_mem_nil
      refine ⟨_, rfl, a', _, 0, .str l.1, rfl, rfl, hs4, rfl, _, rfl, a', _, 1, .str l.2, rfl, rfl, hs4, rfl, by show 2 ≤ sizeLine; decide, fun t ht => ?_⟩
      have k5 : Kp [] H4 (upd H4 t (.tup [.str l.1, .str l.2])) := (Kp.refl _ _).new ht _
      have e5 := k5.keep _ _ e4 List.not_mem_nil
      refine ⟨_, rfl, pl, _, rfl, DGet.t (k := sqK l) e5 upd_same, _, rfl, ?_⟩
      rw [kvP_val]
      have k05 := (kT.trans k4).trans k5
      have hs5 := hs4.keep k5 List.not_mem_nil
      by_cases m : l ∈ ls
      · rw [if_pos m]
        refine iteT_of rfl ?_
        refine ⟨_, rfl, by show 1 ≤ 1000; decide, fun a' na => ?_⟩
        exact errF_sp ((qb i ⟨ls, e1, nls, d', hd', fun l' e => by rw [hl] at e; cases e; exact m⟩).from k05) (.int _) (pd_int (by omega)) na fun dx r H3 e1 e2 n q => ⟨rfl, dx, _, e1, e2, n, q⟩
      · rw [if_neg m]
        refine iteF_of rfl ?_
        refine ⟨_, rfl, _, rfl, _, rfl, a', _, 0, .str l.1, rfl, rfl, hs5, rfl, _, rfl, a', _, 1, .str l.2, rfl, rfl, hs5, rfl, by show 2 ≤ sizeLine; decide, fun t2 ht2 => ?_⟩
        generalize upd H4 t (.tup [.str l.1, .str l.2]) = H5 at k05 e5 ht2
        have k6 : Kp [] H5 (upd H5 t2 (.tup [.str l.1, .str l.2])) := (Kp.refl _ _).new ht2 _
        have e6 := k6.keep _ _ e5 List.not_mem_nil
        refine ⟨pl, _, rfl, DPut.t (k := sqK l) e6 upd_same (by rw [kvP_len, sizeLine_eq]; omega), ?_⟩
        refine ⟨_, _, ls ++ [l], rfl, ?_, ?_, ?_, (k05.trans k6).own hpl _⟩
        · rw [List.take_add_one, hd', List.map_append, e1, List.map_append]
          show _ ++ [layOf d'] = _
          rw [hl]
          rfl
        · exact List.nodup_append.mpr ⟨nls, by simp, fun a ha b hb z => m (by rw [List.mem_singleton] at hb; rw [← hb, ← z]; exact ha)⟩
        · rw [upd_same, ← lls, kvP_snoc m]
  rintro σ H2 ⟨v2, v3, ls, rfl, e1, nls, eP2, k⟩
  rw [lxs, List.take_of_length_le (Nat.le_refl _)] at e1
  have lls : ls.length ≤ 20 := by
    have := congrArg List.length e1
    rw [List.length_map, List.length_map] at this
    omega
  have okl : ∀ l ∈ ls, okName l.2 := fun l hl => by
    have : some l ∈ ds.map layOf := by rw [e1]; exact List.mem_map.mpr ⟨l, hl, rfl⟩
    obtain ⟨d', _, h⟩ := List.mem_map.mp this
    exact (layOf_some h).2.2
  replace qg := qg ls e1 nls
  refine ⟨pl, _, eP2, trivial, fun od => ?_⟩
  have fz2 : upd H2 pl (.frz od (.dT (kvP ls (ixV ls)))) pl = _ := upd_same
  refine ⟨_, rfl, pl, od, rfl, .inr ⟨_, fz2, fun D2 hD => ?_⟩⟩
  have nD2 : D2 ≠ pl := fun z => by rw [z, upd_same] at hD; cases hD
  refine lc_it (walk_keysT (d := pl) (o := od) (kvs := kvP ls (ixV ls))) (fun i H' => H' D2 = some (.lst ((((ls.take i).filter fun l : Str × Str => decide (l.1 = ("cell" : Str))).map (·.2)).map V.str)) ∧ Kp [] (upd H2 pl (.frz od (.dT (kvP ls (ixV ls))))) H') ?_ (fun i H' _ g => g.2.frz _ _ _ fz2) ?_ ?_
  · exact ⟨upd_same, (Kp.refl _ _).new hD _⟩
  · rintro i x Ha Hb hi ⟨d1, k⟩ ⟨rfl, kk, v, u, ek, rfl, hu2⟩
    obtain ⟨l, hl, rfl, rfl⟩ := kvP_at ek
    have et : ls.take (i + 1) = ls.take i ++ [l] := by rw [List.take_add_one, hl]; rfl
    refine ⟨u, _, rfl, SqT.of hu2, rfl, ?_⟩
    refine ⟨_, _, rfl, _, _, rfl, rfl, ?_⟩
    refine ⟨rfl, ?_⟩
    refine ⟨_, rfl, rfl, _, rfl, ?_⟩
    by_cases e : l.1 = ("cell" : Str)
    · refine iteT_of (decide_eq_true (by rw [e]; rfl)) ?_
      have l1 := List.length_filter_le (fun l : Str × Str => decide (l.1 = ("cell" : Str))) (ls.take i)
      have l2 := List.length_take_le' i ls
      refine ⟨_, rfl, _, d1, by rw [List.length_map, List.length_map, sizeLine_eq]; omega, ?_, k.own hD _⟩
      rw [upd_same, et, List.filter_append, List.filter_cons, if_pos (decide_eq_true e), List.map_append, List.map_append]
      rfl
    · refine iteF_of (decide_eq_false (fun z => e (by injection z))) ?_
      refine ⟨?_, k⟩
      rw [et, List.filter_append, List.filter_cons, if_neg (by simpa using e)]
      simpa using d1
  rintro Hc ⟨d2, kc⟩
  rw [List.take_of_length_le (by rw [kvP_len]; exact Nat.le_refl _)] at d2
  refine ⟨kc.frz _ _ _ fz2, ?_⟩
  have k3 : Kp [] H2 (upd Hc pl (.dT (kvP ls (ixV ls)))) := kp_lockT eP2 kc
  have eP3 : upd Hc pl (.dT (kvP ls (ixV ls))) pl = some (.dT (kvP ls (ixV ls))) := upd_same
  have eD2 : upd Hc pl (.dT (kvP ls (ixV ls))) D2 = some (.lst ((cellsOf ls).map V.str)) := (upd_ne nD2).trans d2
  generalize upd Hc pl (.dT (kvP ls (ixV ls))) = H3 at k3 eP3 eD2
  refine ⟨pl, _, eP3, trivial, fun od => ?_⟩
  have fz3 : upd H3 pl (.frz od (.dT (kvP ls (ixV ls)))) pl = _ := upd_same
  refine ⟨_, rfl, pl, od, rfl, .inr ⟨_, fz3, fun D3 hD => ?_⟩⟩
  have nD3 : D3 ≠ pl := fun z => by rw [z, upd_same] at hD; cases hD
  refine lc_it (walk_keysT (d := pl) (o := od) (kvs := kvP ls (ixV ls))) (fun i H' => H' D3 = some (.lst ((((ls.take i).filter fun l : Str × Str => decide (l.1 = ("way" : Str))).map (·.2)).map V.str)) ∧ Kp [] (upd H3 pl (.frz od (.dT (kvP ls (ixV ls))))) H') ?_ (fun i H' _ g => g.2.frz _ _ _ fz3) ?_ ?_
  · exact ⟨upd_same, (Kp.refl _ _).new hD _⟩
  · rintro i x Ha Hb hi ⟨d1, k⟩ ⟨rfl, kk, v, u, ek, rfl, hu2⟩
    obtain ⟨l, hl, rfl, rfl⟩ := kvP_at ek
    have et : ls.take (i + 1) = ls.take i ++ [l] := by rw [List.take_add_one, hl]; rfl
    refine ⟨u, _, rfl, SqT.of hu2, rfl, ?_⟩
    refine ⟨_, _, rfl, _, _, rfl, rfl, ?_⟩
    refine ⟨rfl, ?_⟩
    refine ⟨_, rfl, rfl, _, rfl, ?_⟩
    by_cases e : l.1 = ("way" : Str)
    · refine iteT_of (decide_eq_true (by rw [e]; rfl)) ?_
      have l1 := List.length_filter_le (fun l : Str × Str => decide (l.1 = ("way" : Str))) (ls.take i)
      have l2 := List.length_take_le' i ls
      refine ⟨_, rfl, _, d1, by rw [List.length_map, List.length_map, sizeLine_eq]; omega, ?_, k.own hD _⟩
      rw [upd_same, et, List.filter_append, List.filter_cons, if_pos (decide_eq_true e), List.map_append, List.map_append]
      rfl
    · refine iteF_of (decide_eq_false (fun z => e (by injection z))) ?_
      refine ⟨?_, k⟩
      rw [et, List.filter_append, List.filter_cons, if_neg (by simpa using e)]
      simpa using d1
  rintro Hc ⟨d3, kc⟩
  rw [List.take_of_length_le (by rw [kvP_len]; exact Nat.le_refl _)] at d3
  refine ⟨kc.frz _ _ _ fz3, ?_⟩
  have k4 : Kp [] H3 (upd Hc pl (.dT (kvP ls (ixV ls)))) := kp_lockT eP3 kc
  have eP4 : upd Hc pl (.dT (kvP ls (ixV ls))) pl = some (.dT (kvP ls (ixV ls))) := upd_same
  have eD3 : upd Hc pl (.dT (kvP ls (ixV ls))) D3 = some (.lst ((waysOf ls).map V.str)) := (upd_ne nD3).trans d3
  have eD2' : upd Hc pl (.dT (kvP ls (ixV ls))) D2 = some (.lst ((cellsOf ls).map V.str)) := k4.keep _ _ eD2 List.not_mem_nil
  generalize upd Hc pl (.dT (kvP ls (ixV ls))) = H4 at k4 eP4 eD3 eD2'
  have lc : (cellsOf ls).length ≤ 20 := by
    unfold cellsOf
    rw [List.length_map]
    exact Nat.le_trans (List.length_filter_le _ _) lls
  have lw : (waysOf ls).length ≤ 20 := by
    unfold waysOf
    rw [List.length_map]
    exact Nat.le_trans (List.length_filter_le _ _) lls
  refine ⟨_, rfl, D2, rfl, ⟨_, SqL.of eD2'⟩, fun D4 hD4 => ?_⟩
  refine lc2_list (K := K) (a := D2) (xs := (cellsOf ls).map V.str) (fun i H' => ∃ us, H' D4 = some (.lst us) ∧ PrsA K H' us ((gridP ((cellsOf ls).take i) (waysOf ls)).filter (ahead ls)) ∧ Kp [] H4 H') ?_ ?_ ?_ ?_
  · exact ⟨[], upd_same, .nil, (Kp.refl _ _).new hD4 _⟩
  · rintro i H' hi ⟨us, e1, pu, k⟩
    exact SqL.of (k.keep _ _ eD2' List.not_mem_nil)
  · rintro i x H5 hx ⟨us, e5, pu, k5⟩
    rw [List.getElem?_map] at hx
    obtain ⟨cc, hcc, rfl⟩ := Option.map_eq_some_iff.mp hx
    have mcc : cL cc ∈ ls := mem_cellsOf.mp (List.mem_of_getElem? hcc)
    have etc : (cellsOf ls).take (i + 1) = (cellsOf ls).take i ++ [cc] := by rw [List.take_add_one, hcc]; rfl
    refine ⟨rfl, ?_⟩
    refine ⟨_, rfl, D3, rfl, ⟨_, SqL.of (k5.keep _ _ eD3 List.not_mem_nil)⟩, ?_⟩
    refine in_list (K := K) (a := D3) (xs := (waysOf ls).map V.str) (fun j H' => ∃ us, H' D4 = some (.lst us) ∧ PrsA K H' us ((gridP ((cellsOf ls).take i) (waysOf ls) ++ ((waysOf ls).take j).map fun z => (cc, z)).filter (ahead ls)) ∧ Kp [] H4 H') ?_ ?_ ?_ ?_
    · exact ⟨us, e5, by rw [List.take_zero, List.map_nil, List.append_nil]; exact pu, k5⟩
    · rintro j H' hj ⟨us, e6, pu, k⟩
      exact SqL.of (k.keep _ _ eD3 List.not_mem_nil)
    · rintro j x H6 hx ⟨us, e6, pu, k6⟩
      rw [List.getElem?_map] at hx
      obtain ⟨ww, hww, rfl⟩ := Option.map_eq_some_iff.mp hx
      have mww : wL ww ∈ ls := mem_waysOf.mp (List.mem_of_getElem? hww)
      have etw : (waysOf ls).take (j + 1) = (waysOf ls).take j ++ [ww] := by rw [List.take_add_one, hww]; rfl
      refine ⟨rfl, ?_⟩
      refine ⟨_, rfl, _, rfl, by show 2 ≤ sizeLine; decide, fun t1 ht1 => ?_⟩
      have k7 : Kp [] H6 (upd H6 t1 (.tup [.str "cell", .str cc])) := (Kp.refl _ _).new ht1 _
      have eP7 := k7.keep _ _ (k6.keep _ _ eP4 List.not_mem_nil) List.not_mem_nil
      refine ⟨pl, ixV ls (cL cc), rfl, by have := DGet.t (k := sqK (cL cc)) eP7 (upd_same (o := .tup [.str "cell", .str cc])); rw [kvP_val, if_pos mcc] at this; exact this, ?_⟩
      refine ⟨_, rfl, _, rfl, by show 2 ≤ sizeLine; decide, fun t2 ht2 => ?_⟩
      have k8 : Kp [] H6 (upd (upd H6 t1 (.tup [.str "cell", .str cc])) t2 (.tup [.str "way", .str ww])) := k7.new ht2 _
      have eP8 := k8.keep _ _ (k6.keep _ _ eP4 List.not_mem_nil) List.not_mem_nil
      refine ⟨pl, ixV ls (wL ww), rfl, by have := DGet.t (k := sqK (wL ww)) eP8 (upd_same (o := .tup [.str "way", .str ww])); rw [kvP_val, if_pos mww] at this; exact this, ?_⟩
      generalize upd (upd H6 t1 (.tup [.str "cell", .str cc])) t2 (.tup [.str "way", .str ww]) = H8 at k8 eP8
      have e8 := k8.keep _ _ e6 List.not_mem_nil
      refine ⟨_, _, rfl, rfl, _, rfl, ?_⟩
      have lus := pu.length
      have fl := List.length_filter_le (ahead ls) (gridP ((cellsOf ls).take i) (waysOf ls) ++ ((waysOf ls).take j).map fun z => (cc, z))
      have gl := gridP_len ((cellsOf ls).take i) (waysOf ls)
      have gl2 : ((cellsOf ls).take i).length * (waysOf ls).length ≤ 20 * 20 := Nat.mul_le_mul (Nat.le_trans (List.length_take_le' i _) lc) lw
      have gl3 := List.length_take_le' j (waysOf ls)
      rw [List.length_append, List.length_map] at fl
      by_cases ah : ls.idxOf (wL ww) < ls.idxOf (cL cc)
      · refine iteT_of (decide_eq_true (by show (ls.idxOf (wL ww) : Int) < (ls.idxOf (cL cc) : Int); omega)) ?_
        refine ⟨_, rfl, _, rfl, by show 2 ≤ sizeLine; decide, fun t3 ht3 => ?_⟩
        have k9 : Kp [] H8 (upd H8 t3 (.tup [.str cc, .str ww])) := (Kp.refl _ _).new ht3 _
        have e9 := k9.keep _ _ e8 List.not_mem_nil
        have kD : Kp [D4] (upd H8 t3 (.tup [.str cc, .str ww])) (upd (upd H8 t3 (.tup [.str cc, .str ww])) D4 (.lst (us ++ [.ref t3]))) := (Kp.refl _ _).put (by simp) e9 (o := _)
        refine ⟨us, e9, by rw [sizeLine_eq]; omega, us ++ [.ref t3], upd_same, ?_, ((k6.trans k8).trans k9).own hD4 _⟩
        rw [etw, List.map_append, ← List.append_assoc, List.filter_append]
        refine ((pu.keep (k8.trans k9)).keep kD).append ?_
        show PrsA K _ _ (List.filter (ahead ls) [(cc, ww)])
        rw [List.filter_cons, if_pos (show ahead ls (cc, ww) = true from decide_eq_true ah)]
        exact .cons ⟨t3, rfl, kD.seqT (SqT.of upd_same)⟩ .nil
      · refine iteF_of (decide_eq_false (by show ¬ (ls.idxOf (wL ww) : Int) < (ls.idxOf (cL cc) : Int); omega)) ?_
        refine ⟨us, e8, ?_, k6.trans k8⟩
        rw [etw, List.map_append, ← List.append_assoc, List.filter_append]
        show PrsA K _ _ (_ ++ List.filter (ahead ls) [(cc, ww)])
        rw [List.filter_cons, if_neg (show ¬ ahead ls (cc, ww) = true from fun z => ah (of_decide_eq_true z)), List.filter_nil, List.append_nil]
        exact pu.keep k8
    · rintro H6 ⟨us, e6, pu, k6⟩
      rw [List.length_map, List.take_of_length_le (Nat.le_refl _)] at pu
      exact ⟨us, e6, by rw [etc, gridP_snoc]; exact pu, k6⟩
  rintro H5 ⟨us, e5, pu, k5⟩
  rw [List.length_map, List.take_of_length_le (Nat.le_refl _)] at pu
  have k05 := ((k.trans k3).trans k4).trans k5
  refine ⟨_, rfl, _, rfl, _, rfl, fun y dx ny ndx nex => ?_⟩
  have ky : Kp [] H5 (upd (upd H5 dx (.own y)) y (.ins C dx [])) := by
    refine ((Kp.refl _ _).new ndx _).new ?_ _
    rw [upd_ne (Ne.symm nex)]
    exact ny
  have eC := ky.keep _ _ (k5.keep _ _ eD2' List.not_mem_nil) List.not_mem_nil
  have eW := ky.keep _ _ (k5.keep _ _ eD3 List.not_mem_nil) List.not_mem_nil
  have eB := ky.keep _ _ e5 List.not_mem_nil
  have lus := pu.length
  have fl := List.length_filter_le (ahead ls) (gridP (cellsOf ls) (waysOf ls))
  have gl := gridP_len (cellsOf ls) (waysOf ls)
  have gl2 : (cellsOf ls).length * (waysOf ls).length ≤ 20 * 20 := Nat.mul_le_mul lc lw
  refine ⟨y, dx, D2, D3, D4, cellsOf ls, waysOf ls, us, behP ls, rfl, upd_same, eC, eW, eB, pu.keep ky, fun c hc => okl _ (mem_cellsOf.mp hc), fun c hc => okl _ (mem_waysOf.mp hc), cellsOf_nd nls, waysOf_nd nls, lc, lw, fun x hx => mem_gridP.mp (List.mem_filter.mp hx).1, by show (List.filter (ahead ls) _).length ≤ 1000; omega, fun cs' ws' H' p1 s1 p2 s2 tab kk => ⟨rfl, ?_⟩⟩
  refine qg y cs' ws' H' p1 s1 p2 s2 tab ?_
  refine Kp.off (S := [y]) (((k05.trans ky).mono (by simp)).trans kk) ?_
  simp only [List.mem_singleton]
  rintro b rfl
  exact .inr (k05.free ny List.not_mem_nil)
end
end Hb
set_option maxHeartbeats 4000000
/-! sorted of a list of pairs of texts -/
namespace Hb
open PySem PySem.Spec PyProof.Rows L2
abbrev PrO : KeyOrd := PyProof.Rows.listOrd PyProof.Rows.itemOrd
def pk (p : Str × Str) : PrO.α := [Sum.inr p.1.cps.toList, Sum.inr p.2.cps.toList]
/-- the one pair stands ahead of the other -/
def pLt (a b : Str × Str) : Bool := PrO.blt (pk a) (pk b)
theorem str_back (x : Str) : (⟨x.cps.toList.toArray⟩ : Str) = x := by
  cases x
  simp
def keyP : Option PrO.α → Str × Str
  | some [Sum.inr a, Sum.inr b] => (⟨a.toArray⟩, ⟨b.toArray⟩)
  | _ => (Str.empty, Str.empty)
theorem keyP_pk (p : Str × Str) : keyP (some (pk p)) = p := by
  show ((⟨p.1.cps.toList.toArray⟩ : Str), (⟨p.2.cps.toList.toArray⟩ : Str)) = p
  rw [str_back, str_back]
def sh2 : Nat → Bool := fun _ => true
def rSortPr (K : PySem.W.Frag) : List V → Hp → VK → Prop := fun vs H Q => ∃ (a : Addr) (xs : List V) (ps : List (Str × Str)), vs = [V.ref a] ∧ SqL K H a xs ∧ PrsA K H xs ps ∧
  ∀ (ys : List V) (qs : List (Str × Str)) (p : Addr), PrsA K H ys qs → qs.Perm ps → qs.Pairwise (fun a b => pLt b a = false) → H p = none → Q (.ref p) (upd H p (.lst ys))
section
variable {X : Cx} {pins : List (Addr × Obj)} {σ : L2.St} {H : Hp} {s : Shared}
theorem pair_raw (I : Inv X pins σ H s) {t : Addr} {p : Str × Str} (h : SqT X.K H t [.str p.1, .str p.2]) : PyProof.Rows.G.tupKeyC s.heap sh2 (.ref t) = some (pk p) ∧ ∃ f, PyProof.Rows.TupOf s.heap sh2 (.ref t) f := by
  obtain ⟨its, rv, ⟨o, ho, hc, n, hd⟩, _⟩ := I.tuple h
  cases rv with
  | cons r1 rv =>
    cases rv with
    | cons r2 rv =>
      cases rv
      obtain ⟨t1, rfl⟩ := r1
      obtain ⟨t2, rfl⟩ := r2
      refine ⟨?_, .str p.1 t1, t, o, _, n, rfl, ho, hc, hd, rfl, (fun z => by cases z), fun _ => ⟨_, _, rfl⟩⟩
      unfold PyProof.Rows.G.tupKeyC
      have e1 : PyProof.Rows.G.isTupObj s.heap (.ref t) = true := by
        unfold PyProof.Rows.G.isTupObj
        simp only [ho, hc]
        decide
      rw [if_pos e1]
      unfold PyProof.Rows.tupKey
      simp only [ho, hd]
      rfl
theorem cr_sortPr : CallR X (.builtin "sorted") (rSortPr X.K) := by
  intro pins s σ H vs us Q I r h
  obtain ⟨a, xs, ps, rfl, hs, hp, q⟩ := h
  obtain ⟨its, rv, hl, hz⟩ := I.list hs
  rw [Vals.ref1 r]
  obtain ⟨e1, e2⟩ := bkV_refs rv fun x m => by
    obtain ⟨i, hi, e⟩ := List.mem_iff_getElem.mp m
    obtain ⟨p, _, t, e3, _⟩ := hp.at (i := i) (v := x) (by rw [List.getElem?_eq_getElem hi, e])
    exact ⟨t, e3⟩
  let pr : Value → Str × Str := fun u => keyP (PyProof.Rows.G.tupKeyC s.heap sh2 u)
  have each : ∀ u ∈ its, ∃ t p, u = Value.ref t ∧ SqT X.K H t [.str p.1, .str p.2] ∧ pr u = p := fun u hu => by
    obtain ⟨t, rfl⟩ := e2 u hu
    have hm : V.ref t ∈ xs := by
      rw [e1]
      exact List.mem_map.mpr ⟨_, hu, rfl⟩
    obtain ⟨i, hi, e⟩ := List.mem_iff_getElem.mp hm
    obtain ⟨p, _, t', e3, h3⟩ := hp.at (i := i) (v := .ref t) (by rw [List.getElem?_eq_getElem hi, e])
    cases e3
    refine ⟨t, p, rfl, h3, ?_⟩
    show keyP _ = _
    rw [(pair_raw I h3).1, keyP_pk]
  have eps : ps = its.map pr := by
    apply List.ext_getElem?
    intro i
    rw [List.getElem?_map]
    rcases Nat.lt_or_ge i its.length with hi | hi
    · have hx : xs[i]? = some (bkV its[i]) := by rw [e1, List.getElem?_map, List.getElem?_eq_getElem hi]; rfl
      obtain ⟨p, h1, t', h2, h3⟩ := hp.at hx
      have h4 := bkV_ref h2
      rw [h1, List.getElem?_eq_getElem hi]
      show some p = some (keyP (PyProof.Rows.G.tupKeyC s.heap sh2 its[i]))
      rw [h4, (pair_raw I h3).1, keyP_pk]
    · have hl1 := hp.length
      have hl2 : xs.length = its.length := by rw [e1, List.length_map]
      rw [List.getElem?_eq_none (by omega), List.getElem?_eq_none hi]
      rfl
  have tups : ∀ vs : List Value, (∀ u ∈ vs, u ∈ its) → ∃ fs, PyProof.Rows.TupsOf s.heap sh2 vs fs := fun vs => by
    induction vs with
    | nil => exact fun _ => ⟨[], .nil⟩
    | cons u vs ih =>
      intro h
      obtain ⟨fs, hf⟩ := ih fun x m => h x (List.mem_cons_of_mem _ m)
      obtain ⟨t, p, rfl, h3, _⟩ := each u (h u List.mem_cons_self)
      obtain ⟨f, hf1⟩ := (pair_raw I h3).2
      exact ⟨f :: fs, .cons hf1 hf⟩
  obtain ⟨fs, hfs⟩ := tups its fun _ h => h
  refine PyProof.Rows.G.sorted_tups hl.isList hfs (fun v hv => ?_) (by rw [← rv.length]; exact hz) fun st' h1 h2 _ => ?_
  · obtain ⟨t, p, rfl, h3, _⟩ := each v hv
    exact ⟨_, (pair_raw I h3).1⟩
  · generalize harr : PyProof.Rows.arrOf st' = arr at h1 h2
    have hsame : ∀ x ∈ arr.toList, x.1 = x.2 ∧ x.2 ∈ its := fun x hx => by
      have hx2 := h1.toList.mem_iff.mp hx
      rw [pairsOf_toList] at hx2
      obtain ⟨i, hi, e⟩ := List.mem_iff_getElem.mp hx2
      rw [List.getElem_zip] at e
      rw [← e]
      exact ⟨rfl, List.getElem_mem _⟩
    have hout : ((arr.map (·.2)).toList).Perm its := by
      have h3 := h1.toList.map (·.2)
      rw [pairsOf_toList] at h3
      have h4 : (its.zip its).map (·.2) = its := List.map_snd_zip (Nat.le_refl _)
      rw [h4] at h3
      rw [Array.toList_map]
      exact h3
    obtain ⟨ep, he'⟩ := PyProof.Rows.sortedAll_at s.heap its (arr.map (·.2))
    have h3 : ∀ u ∈ (arr.map (·.2)).toList, ∃ a, u = Value.ref a := fun u hu => e2 u (hout.mem_iff.mp hu)
    have hlen : ((arr.map (·.2)).toList.map bkV).length ≤ sizeLine := by
      rw [List.length_map, hout.length_eq, ← rv.length]
      exact hz
    refine ⟨.ref _, upd H (s.heap.objs.size + 1) (.lst ((arr.map (·.2)).toList.map bkV)), I.laid (t' := s.toks) (fun _ _ => PyProof.Rows.sortedAll_old) (Nat.le_succ _) ⟨hlen, (arr.map (·.2)).toList, ep, bkV_vals h3, he'⟩, rfl, q _ ((arr.map (·.2)).toList.map pr) _ ?_ ?_ ?_ (I.hok.fresh (Nat.le_succ _))⟩
    · have all : ∀ vs : List Value, (∀ u ∈ vs, u ∈ its) → PrsA X.K H (vs.map bkV) (vs.map pr) := fun vs => by
        induction vs with
        | nil => exact fun _ => .nil
        | cons u vs ih =>
          intro h
          obtain ⟨t, p, rfl, h3, h4⟩ := each u (h u List.mem_cons_self)
          exact .cons ⟨t, rfl, by rw [h4]; exact h3⟩ (ih fun x m => h x (List.mem_cons_of_mem _ m))
      exact all _ fun u hu => hout.mem_iff.mp hu
    · rw [eps]
      exact hout.map pr
    · rw [Array.toList_map, List.map_map]
      have key : ∀ k (hk : k < arr.toList.length), KK (PyProof.Rows.G.tupKindC s.heap sh2) arr k = pk (pr (arr.toList[k]).2) := fun k hk => by
        have hk2 : k < arr.size := by simpa using hk
        obtain ⟨s1, s2⟩ := hsame _ (List.getElem_mem hk)
        obtain ⟨t, p, e3, h3, h4⟩ := each _ s2
        unfold KK
        rw [show arr[k]? = some arr[k] from Array.getElem?_eq_getElem hk2]
        have ea : arr[k] = arr.toList[k] := by simp
        dsimp only
        rw [ea, s1, h4, e3]
        show (PyProof.Rows.G.tupKeyC s.heap sh2 (.ref t)).getD default = _
        rw [(pair_raw I h3).1]
        rfl
      refine List.pairwise_iff_getElem.mpr fun i j hi hj hij => ?_
      rw [List.length_map] at hi hj
      rw [List.getElem_map, List.getElem_map]
      have e5 : arr.size = (pairsOf its).size := h1.size_eq
      have e6 : j < arr.size := by simpa using hj
      have := h2 i j (Nat.le_of_lt hij) (by rw [← e5]; exact e6)
      rw [key i hi, key j hj] at this
      exact this
end
end Hb
set_option maxHeartbeats 1000000
/-! k42: the law s own frozen and listed -/
namespace Hb
open PySem PySem.Spec PyProof.Rows L2
section
variable {P : Program} {w : World} {K : PySem.W.Frag} {mg : Str → Option Value} {base : Heap} {f f1 f2 : Addr} {fd fd1 fd2 : FuncData}
end
theorem Dy.tyT {K : PySem.W.Frag} {H : Hp} {N : Addr → Prop} {v : V} {d : PyData} (h : Dy K H N v d) : ∃ T, TyP K H v T ∧ decide (T = "tuple") = isTup d := by
  cases h with
  | non => exact ⟨_, ty_non, by simp [isTup]⟩
  | bl b => exact ⟨_, ty_bl, by simp [isTup]⟩
  | int i => exact ⟨_, ty_int, by simp [isTup]⟩
  | str x => exact ⟨_, ty_str, by simp [isTup]⟩
  | lst m q t => exact ⟨_, ty_seqL (SqL.of q), by simp [isTup]⟩
  | tup q t => exact ⟨_, ty_seqT q, by simp [isTup]⟩
  | dct m e => exact ⟨_, ty_dct e, by simp [isTup]⟩
theorem dya_get {K : PySem.W.Frag} {H : Hp} {N : Addr → Prop} : ∀ {vs : List V} {ds : List PyData} {i : Nat} {x : V}, DyA K H N vs ds → vs[i]? = some x → ∃ d, ds[i]? = some d ∧ Dy K H N x d
  | [], _, _, _, _, h => by simp at h
  | v :: vs, _, 0, x, h, e => by
    cases h with
    | cons h1 h2 =>
      have : v = x := by simpa using e
      subst this
      exact ⟨_, rfl, h1⟩
  | v :: vs, _, i + 1, x, h, e => by
    cases h with
    | cons h1 h2 =>
      obtain ⟨d, a, b⟩ := dya_get (i := i) h2 (by simpa using e)
      exact ⟨d, by simpa using a, b⟩
/-- data that shares its lists with nothing of N listed: what is told is the same but for lists and tuples -/
def spListedY (K : PySem.W.Frag) (D : Nat) : Sp := fun vs H Q _ => ∃ (a b : Addr) (n : Nat) (N : Addr → Prop) (v : V) (d : PyData), vs = [.ref a, v] ∧ Spr a b (n + wt d) H ∧ Dy K H N v d ∧ (∀ x, N x → x ≠ a ∧ x ≠ b) ∧ d.depth < D ∧ wt d ≤ 8000000 ∧
  ∀ (r : V) (d' : PyData) (H' : Hp), Dy K H' (fun x => N x ∨ H x = none) r d' → tupD d' = tupD d → Spr a b n H' → Kp [a, b] H H' → Q r H'
section
variable {P : Program} {w : World} {K : PySem.W.Frag} {mg : Str → Option Value} {base : Heap} {f f1 f2 : Addr} {fd fd1 fd2 : FuncData}
end
end Hb
set_option maxHeartbeats 1000000
/-! k42: the law s cells and ways, layers, squares -/
namespace Hb
open PySem PySem.Spec PyProof.Rows L2
abbrev st_behind : Stmt := top 36
abbrev st_layers : Stmt := top 37
theorem sc_behind : FnScope ["_law_layers_here", "_law_found", "_law_ways", "_law_kind", "_law_name_here", "_law_way"] ["_law_layers_here"] (defScope st_behind) := ⟨rfl, rfl, rfl, by decide +kernel, rfl, by decide +kernel, by decide +kernel⟩
theorem sc_layers : FnScope ["_law_cells", "_law_ways", "_law_cell", "_law_way"] ["_law_cells", "_law_ways"] (defScope st_layers) := ⟨rfl, rfl, rfl, by decide +kernel, rfl, by decide +kernel, by decide +kernel⟩
def layL (cs ws : List Str) : List (Str × Str) := cs.map cL ++ ws.map wL
theorem cut_take (xs : List V) (k : Nat) : cutV xs none (some (k : Int)) = xs.take k := by
  unfold cutV
  rw [HT.sIx_none, HT.sIx_nat, List.drop_zero, Nat.sub_zero]
  rcases Nat.le_total k xs.length with h | h
  · rw [Nat.min_eq_left h]
  · rw [Nat.min_eq_right h, List.take_of_length_le (Nat.le_refl _), List.take_of_length_le h]
theorem cut_mid (xs : List V) (l k : Nat) (h : l ≤ xs.length) : cutV xs (some (l : Int)) (some ((l + k : Nat) : Int)) = (xs.drop l).take k := by
  unfold cutV
  rw [HT.sIx_nat, HT.sIx_nat, Nat.min_eq_left h]
  rcases Nat.le_total (l + k) xs.length with g | g
  · rw [Nat.min_eq_left g, Nat.add_sub_cancel_left]
  · rw [Nat.min_eq_right g, List.take_of_length_le (by rw [List.length_drop]; exact Nat.le_refl _), List.take_of_length_le (by rw [List.length_drop]; omega)]
def behF (st : List (Str × Str) × List Str) (l : Str × Str) : List (Str × Str) × List Str := if l.1 = ("way" : Str) then (st.1, st.2 ++ [l.2]) else (st.1 ++ st.2.map fun w => (l.2, w), st.2)
def behS (ls : List (Str × Str)) : List (Str × Str) × List Str := ls.foldl behF ([], [])
theorem behS_snoc (ls : List (Str × Str)) (l : Str × Str) : behS (ls ++ [l]) = behF (behS ls) l := by
  unfold behS
  rw [List.foldl_append]
  rfl
theorem behS_len : ∀ ls : List (Str × Str), (behS ls).2.length ≤ ls.length ∧ (behS ls).1.length ≤ ls.length * ls.length := fun ls => by
  suffices h : ∀ n (ms : List (Str × Str)), ms.length = n → (behS ms).2.length ≤ ms.length ∧ (behS ms).1.length ≤ ms.length * ms.length from h _ _ rfl
  intro n
  induction n with
  | zero =>
    intro ms h
    obtain rfl := List.length_eq_zero_iff.mp h
    exact ⟨Nat.le_refl _, Nat.le_refl _⟩
  | succ n ih =>
    intro ms h
    obtain ⟨ms', l, rfl⟩ : ∃ ms' l, ms = ms' ++ [l] := ⟨ms.dropLast, ms.getLast (fun z => by rw [z] at h; cases h), (List.dropLast_concat_getLast _).symm⟩
    have h' : ms'.length = n := by simpa using h
    obtain ⟨h1, h2⟩ := ih ms' h'
    rw [behS_snoc]
    unfold behF
    have e : (ms' ++ [l]).length = ms'.length + 1 := by simp
    rw [e]
    have m : (ms'.length + 1) * (ms'.length + 1) = ms'.length * ms'.length + ms'.length + ms'.length + 1 := by rw [Nat.succ_mul, Nat.mul_succ]; omega
    split
    · refine ⟨by simp; exact h1, ?_⟩
      dsimp only
      omega
    · refine ⟨Nat.le_succ_of_le h1, ?_⟩
      dsimp only
      rw [List.length_append, List.length_map]
      omega
def spGrid : Sp := fun vs H Q _ => ∃ (a b : Addr) (n : Nat), vs = [.ref a] ∧ Spr a b (n + 70) H ∧
  ∀ (t p q : Addr) (cs ws : List Str) (H' : Hp), H' t = some (.tup [.ref p, .ref q]) → H p = none → H q = none → H' p = some (.lst (cs.map V.str)) → H' q = some (.lst (ws.map V.str)) → sortedS cs = true → sortedS ws = true → cs.Nodup → ws.Nodup → (∀ c ∈ cs, okName c) → (∀ c ∈ ws, okName c) → cs.length ≤ 3 → ws.length ≤ 4 → Spr a b n H' → Kp [a, b] H H' → Q (.ref t) H'
def spLayers (K : PySem.W.Frag) : Sp := fun vs H Q _ => ∃ (p q : Addr) (cs ws : List Str), vs = [.ref p, .ref q] ∧ H p = some (.lst (cs.map V.str)) ∧ H q = some (.lst (ws.map V.str)) ∧ cs.length ≤ 1000 ∧ ws.length ≤ 1000 ∧
  ∀ (r : Addr) (us : List V) (H' : Hp), H r = none → H' r = some (.lst us) → PrsA K H' us (layL cs ws) → Kp [] H H' → Q (.ref r) H'
def spBehind (K : PySem.W.Frag) : Sp := fun vs H Q _ => ∃ (p : Addr) (us : List V) (ls : List (Str × Str)), vs = [.ref p] ∧ H p = some (.lst us) ∧ PrsA K H us ls ∧ ls.length ≤ 1000 ∧
  ∀ (r : Addr) (ys : List V) (qs : List (Str × Str)) (H' : Hp), H r = none → H' r = some (.lst ys) → PrsA K H' ys qs → qs.Perm (behS ls).1 → qs.Pairwise (fun a b => pLt b a = false) → Kp [] H H' → Q (.ref r) H'
section
variable {P : Program} {w : World} {K : PySem.W.Frag} {mg : Str → Option Value} {base : Heap} {f f1 f2 f3 C : Addr} {fd fd1 fd2 fd3 : FuncData}
theorem ok_layers (D : Df K mg "_law_layers" st_layers ["_law_cells", "_law_ways"] f fd) : FnOk P w K mg base CX0 1 f fd ["_law_cells", "_law_ways"] (spLayers K) := by
  refine D.fn.ok sc_layers (fun vs H Q E h => ?_) (fun cdv A outer s H vs Q E hr h => ?_)
  · obtain ⟨p, q, cs, ws, rfl, _⟩ := h
    rfl
  obtain ⟨p, q, cs, ws, rfl, hp, hq, lc, lw, Q1⟩ := h
  have nd := sc_layers.nd
  refine ⟨_, PSs.nox (pss_one (ps_ret (pe_op op_cat
    (pe_lc (own := [("_law_cell", 2)]) (g := gName 2) (tt := tYes) rfl nd (pi_list (pv 0)) (blkOk_by (own := [("_law_cell", 2)]) (N := ["_law_cells", "_law_ways", "_law_cell", "_law_way"]) (sc := defScope st_layers) (by decide +kernel)) (fun _ _ _ _ _ => pg_name (i := 2) nd rfl (Or.inl rfl)) (fun _ _ _ _ _ => pts_nil) (fun _ _ _ _ _ => pe_tup (pa_cons pe_str (pa_cons (pv 2) pa_nil))))
    (pe_lc (own := [("_law_way", 3)]) (g := gName 3) (tt := tYes) rfl nd (pi_list (pv 1)) (blkOk_by (own := [("_law_way", 3)]) (N := ["_law_cells", "_law_ways", "_law_cell", "_law_way"]) (sc := defScope st_layers) (by decide +kernel)) (fun _ _ _ _ _ => pg_name (i := 3) nd rfl (Or.inl rfl)) (fun _ _ _ _ _ => pts_nil) (fun _ _ _ _ _ => pe_tup (pa_cons pe_str (pa_cons (pv 3) pa_nil))))))), ?_⟩
  refine ⟨_, rfl, p, rfl, ⟨_, SqL.of hp⟩, fun D1 hD1 => ?_⟩
  refine lc_list (K := K) (a := p) (xs := cs.map V.str) (fun i H' => ∃ us, H' D1 = some (.lst us) ∧ PrsA K H' us ((cs.take i).map cL) ∧ Kp [] H H') ?_ ?_ ?_ ?_
  · exact ⟨[], upd_same, .nil, (Kp.refl _ _).new hD1 _⟩
  · rintro i H' hi ⟨us, e1, pu, k⟩
    exact SqL.of (k.keep _ _ hp List.not_mem_nil)
  · rintro i x H2 hx ⟨us, e1, pu, k⟩
    rw [List.getElem?_map] at hx
    obtain ⟨y, hy, rfl⟩ := Option.map_eq_some_iff.mp hx
    have et : cs.take (i + 1) = cs.take i ++ [y] := by rw [List.take_add_one, hy]; rfl
    have lu := pu.length
    have lt := List.length_take_le' i cs
    rw [List.length_map] at lu
    refine ⟨rfl, ?_⟩
    refine ⟨_, rfl, by show 2 ≤ sizeLine; decide, fun t ht => ?_⟩
    have kt : Kp [] H2 (upd H2 t (.tup [.str "cell", .str y])) := (Kp.refl _ _).new ht _
    have e2 := kt.keep _ _ e1 List.not_mem_nil
    have kD : Kp [D1] (upd H2 t (.tup [.str "cell", .str y])) (upd (upd H2 t (.tup [.str "cell", .str y])) D1 (.lst (us ++ [.ref t]))) := (Kp.refl _ _).put (by simp) e2 (o := _)
    refine ⟨us, e2, by rw [sizeLine_eq]; omega, us ++ [.ref t], upd_same, ?_, (k.trans kt).own hD1 _⟩
    rw [et, List.map_append]
    exact ((pu.keep kt).keep kD).append (.cons ⟨t, rfl, kD.seqT (SqT.of upd_same)⟩ .nil)
  rintro H1 ⟨us, e1, pu, k1⟩
  rw [List.length_map, List.take_of_length_le (Nat.le_refl _)] at pu
  refine ⟨_, rfl, q, rfl, ⟨_, SqL.of (k1.keep _ _ hq List.not_mem_nil)⟩, fun D2 hD2 => ?_⟩
  refine lc_list (K := K) (a := q) (xs := ws.map V.str) (fun i H' => ∃ us, H' D2 = some (.lst us) ∧ PrsA K H' us ((ws.take i).map wL) ∧ Kp [] H1 H') ?_ ?_ ?_ ?_
  · exact ⟨[], upd_same, .nil, (Kp.refl _ _).new hD2 _⟩
  · rintro i H' hi ⟨us, e1, pu, k⟩
    exact SqL.of (k.keep _ _ (k1.keep _ _ hq List.not_mem_nil) List.not_mem_nil)
  · rintro i x H2 hx ⟨us, e1, pu, k⟩
    rw [List.getElem?_map] at hx
    obtain ⟨y, hy, rfl⟩ := Option.map_eq_some_iff.mp hx
    have et : ws.take (i + 1) = ws.take i ++ [y] := by rw [List.take_add_one, hy]; rfl
    have lu := pu.length
    have lt := List.length_take_le' i ws
    rw [List.length_map] at lu
    refine ⟨rfl, ?_⟩
    refine ⟨_, rfl, by show 2 ≤ sizeLine; decide, fun t ht => ?_⟩
    have kt : Kp [] H2 (upd H2 t (.tup [.str "way", .str y])) := (Kp.refl _ _).new ht _
    have e2 := kt.keep _ _ e1 List.not_mem_nil
    have kD : Kp [D2] (upd H2 t (.tup [.str "way", .str y])) (upd (upd H2 t (.tup [.str "way", .str y])) D2 (.lst (us ++ [.ref t]))) := (Kp.refl _ _).put (by simp) e2 (o := _)
    refine ⟨us, e2, by rw [sizeLine_eq]; omega, us ++ [.ref t], upd_same, ?_, (k.trans kt).own hD2 _⟩
    rw [et, List.map_append]
    exact ((pu.keep kt).keep kD).append (.cons ⟨t, rfl, kD.seqT (SqT.of upd_same)⟩ .nil)
  rintro H2 ⟨us2, e2, pu2, k2⟩
  rw [List.length_map, List.take_of_length_le (Nat.le_refl _)] at pu2
  have l1 := pu.length
  have l2 := pu2.length
  rw [List.length_map] at l1 l2
  refine ⟨D1, D2, us, us2, rfl, rfl, k2.keep _ _ e1 List.not_mem_nil, e2, by rw [sizeLine_eq]; omega, fun r hr2 => ?_⟩
  have k3 : Kp [] H2 (upd H2 r (.lst (us ++ us2))) := (Kp.refl _ _).new hr2 _
  exact Q1 r _ _ ((k1.trans k2).free hr2 List.not_mem_nil) upd_same ((pu.keep (k2.trans k3)).append (pu2.keep k3)) ((k1.trans k2).trans k3)
theorem ok_behind (D : Df K mg "_law_behind" st_behind ["_law_layers_here"] f fd) (B : Bl mg) : FnOk P w K mg base CX0 1 f fd ["_law_layers_here"] (spBehind K) := by
  refine D.fn.ok sc_behind (fun vs H Q E h => ?_) (fun cdv A outer s H vs Q E hr h => ?_)
  · obtain ⟨p, us, ls, rfl, _⟩ := h
    rfl
  obtain ⟨p, us, ls, rfl, hp, hps, hl, Q1⟩ := h
  have nd := sc_behind.nd
  refine ⟨_, PSs.nox (pss_cons (ps_par (i := 1) (j := 2) (by rfl) nd rfl rfl (by decide) rfl rfl (pa_cons (pe_lst pa_nil) (pa_cons (pe_lst pa_nil) pa_nil)) (by rfl))
    (pss_cons (ps_for PassesOwn.never rfl (pi_list (pv 0)) (pg_tup rfl (pgs_cons (pg_name (i := 3) nd rfl (.inl rfl)) (pgs_cons (pg_name (i := 4) nd rfl (.inr rfl)) pgs_nil)))
      (pss_one (ps_if (pt_cmpR op_eq (pv 3) pe_str (nomark _)) (pss_one (ps_set (i := 2) nd rfl (.inl rfl) (pe_op op_cat (pv 2) (pe_lst (pa_cons (pv 4) pa_nil)))))
        (pss_one (ps_expr (pe_bm PySem.F.plainAttrs_list PySem.F.slot_list_extend PySem.F.type_list_extend mt_extend (pv 1) (pa_cons (pe_lc (own := [("_law_way", 5)]) (g := gName 5) (tt := tYes) rfl nd (pi_list (pv 2)) (blkOk_by (own := [("_law_way", 5)]) (N := ["_law_layers_here", "_law_found", "_law_ways", "_law_kind", "_law_name_here", "_law_way"]) (sc := defScope st_behind) (by decide +kernel)) (fun _ _ _ _ _ => pg_name (i := 5) nd rfl (Or.inl rfl)) (fun _ _ _ _ _ => pts_nil) (fun _ _ _ _ _ => pe_tup (pa_cons (pv 4) (pa_cons (pv 5) pa_nil)))) pa_nil)))))))
    (pss_one (ps_ret (pe_callB cr_sortPr (by rfl) B.sorted (by decide +kernel) (pa_cons (pv 1) pa_nil)))))), ?_⟩
  refine ⟨by decide, fun fo hfo => ?_⟩
  have k1 : Kp [] H (upd H fo (.lst [])) := (Kp.refl _ _).new hfo _
  refine ⟨by decide, fun wa hwa => ?_⟩
  have k2 : Kp [] H (upd (upd H fo (.lst [])) wa (.lst [])) := k1.new hwa _
  have nfw : fo ≠ wa := fun z => by rw [← z, upd_same] at hwa; cases hwa
  have efo : upd (upd H fo (.lst [])) wa (.lst []) fo = some (.lst []) := (upd_ne nfw).trans upd_same
  have ll := hps.length
  refine ⟨_, _, rfl, ?_⟩
  refine ⟨_, rfl, p, rfl, ⟨_, SqL.of (k2.keep _ _ hp List.not_mem_nil)⟩, for_list (K := K) (a := p) (xs := us) (fun i σ H' => ∃ (v3 v4 v5 : Option V) (wa : Addr) (ys : List V), σ = [some (.ref p), some (.ref fo), some (.ref wa), v3, v4, none] ∧ H' fo = some (.lst ys) ∧ PrsA K H' ys (behS (ls.take i)).1 ∧ H' wa = some (.lst ((behS (ls.take i)).2.map V.str)) ∧ wa ≠ fo ∧ Kp [] H H') ?_ ?_ ?_ ?_⟩
  · exact ⟨none, none, none, wa, [], rfl, efo, .nil, upd_same, nfw.symm, k2⟩
  · rintro i σ H' hi ⟨v3, v4, v5, wa, ys, rfl, e1, p1, e2, ne, k⟩
    exact SqL.of (k.keep _ _ hp List.not_mem_nil)
  · rintro i x σ H2 hx ⟨v3, v4, v5, wa, ys, rfl, e1, p1, e2, ne, k⟩
    obtain ⟨l, hl2, t, rfl, ht⟩ := (hps.keep k).at hx
    have hil := (List.getElem?_eq_some_iff.mp hl2).1
    have et : ls.take (i + 1) = ls.take i ++ [l] := by rw [List.take_add_one, hl2]; rfl
    obtain ⟨b1, b2⟩ := behS_len (ls.take i)
    have lt : (ls.take i).length ≤ 1000 := Nat.le_trans (List.length_take_le' i ls) hl
    have lm : (ls.take i).length * (ls.take i).length ≤ 1000 * 1000 := Nat.mul_le_mul lt lt
    have l1 := p1.length
    refine ⟨t, _, rfl, ht, rfl, ?_⟩
    refine ⟨_, _, rfl, _, _, rfl, rfl, ?_⟩
    refine ⟨_, rfl, rfl, _, rfl, ?_⟩
    by_cases e : l.1 = ("way" : Str)
    · refine iteT_of (decide_eq_true (by rw [e])) ?_
      have eb : behS (ls.take (i + 1)) = ((behS (ls.take i)).1, (behS (ls.take i)).2 ++ [l.2]) := by
        rw [et, behS_snoc]
        unfold behF
        rw [if_pos e]
      refine ⟨_, rfl, _, rfl, by show 1 ≤ sizeLine; decide, fun u hu1 => ?_⟩
      have k3 : Kp [] H2 (upd H2 u (.lst [.str l.2])) := (Kp.refl _ _).new hu1 _
      refine ⟨wa, u, _, _, rfl, rfl, k3.keep _ _ e2 List.not_mem_nil, upd_same, by rw [List.length_map, sizeLine_eq]; show _ + 1 ≤ _; omega, fun r hr2 => ?_⟩
      have k4 : Kp [] H2 (upd (upd H2 u (.lst [.str l.2])) r (.lst ((behS (ls.take i)).2.map V.str ++ [.str l.2]))) := k3.new hr2 _
      refine ⟨_, _, none, r, ys, rfl, k4.keep _ _ e1 List.not_mem_nil, ?_, ?_, ?_, k.trans k4⟩
      · rw [eb]
        exact p1.keep k4
      · rw [eb, upd_same, List.map_append]
        rfl
      · intro z
        have := k3.keep _ _ e1 List.not_mem_nil
        rw [← z, hr2] at this
        cases this
    · refine iteF_of (decide_eq_false (fun z => e (by injection z))) ?_
      have eb : behS (ls.take (i + 1)) = ((behS (ls.take i)).1 ++ (behS (ls.take i)).2.map (fun w => (l.2, w)), (behS (ls.take i)).2) := by
        rw [et, behS_snoc]
        unfold behF
        rw [if_neg e]
      refine ⟨_, rfl, .inl ⟨rfl, _, SqL.of e1⟩, _, rfl, wa, rfl, ⟨_, SqL.of e2⟩, fun D1 hD1 => ?_⟩
      refine lc_list (K := K) (a := wa) (xs := (behS (ls.take i)).2.map V.str) (fun j H' => ∃ zs, H' D1 = some (.lst zs) ∧ PrsA K H' zs (((behS (ls.take i)).2.take j).map fun w => (l.2, w)) ∧ Kp [] H2 H') ?_ ?_ ?_ ?_
      · exact ⟨[], upd_same, .nil, (Kp.refl _ _).new hD1 _⟩
      · rintro j H' hj ⟨zs, e3, pz, k3⟩
        exact SqL.of (k3.keep _ _ e2 List.not_mem_nil)
      · rintro j x H3 hx ⟨zs, e3, pz, k3⟩
        rw [List.getElem?_map] at hx
        obtain ⟨y, hy, rfl⟩ := Option.map_eq_some_iff.mp hx
        have et2 : (behS (ls.take i)).2.take (j + 1) = (behS (ls.take i)).2.take j ++ [y] := by rw [List.take_add_one, hy]; rfl
        have lz := pz.length
        have lz2 := List.length_take_le' j (behS (ls.take i)).2
        rw [List.length_map] at lz
        refine ⟨rfl, ?_⟩
        refine ⟨_, rfl, _, rfl, by show 2 ≤ sizeLine; decide, fun t2 ht2 => ?_⟩
        have kt : Kp [] H3 (upd H3 t2 (.tup [.str l.2, .str y])) := (Kp.refl _ _).new ht2 _
        have e4 := kt.keep _ _ e3 List.not_mem_nil
        have kD : Kp [D1] (upd H3 t2 (.tup [.str l.2, .str y])) (upd (upd H3 t2 (.tup [.str l.2, .str y])) D1 (.lst (zs ++ [.ref t2]))) := (Kp.refl _ _).put (by simp) e4 (o := _)
        refine ⟨zs, e4, by rw [sizeLine_eq]; omega, zs ++ [.ref t2], upd_same, ?_, (k3.trans kt).own hD1 _⟩
        rw [et2, List.map_append]
        exact ((pz.keep kt).keep kD).append (.cons ⟨t2, rfl, kD.seqT (SqT.of upd_same)⟩ .nil)
      rintro H3 ⟨zs, e3, pz, k3⟩
      rw [List.length_map, List.take_of_length_le (Nat.le_refl _)] at pz
      have lz := pz.length
      rw [List.length_map] at lz
      have e1' := k3.keep _ _ e1 List.not_mem_nil
      refine ⟨fo, D1, ys, zs, rfl, rfl, e1', e3, by rw [sizeLine_eq]; omega, ?_⟩
      have kf : Kp [fo] H3 (upd H3 fo (.lst (ys ++ zs))) := (Kp.refl _ _).put (by simp) e1' (o := _)
      refine ⟨_, _, none, wa, ys ++ zs, rfl, upd_same, ?_, ?_, ne, (k.trans k3).own hfo _⟩
      · rw [eb]
        exact ((p1.keep k3).keep kf).append (pz.keep kf)
      · rw [eb]
        exact kf.keep _ _ (k3.keep _ _ e2 List.not_mem_nil) (by simpa using ne)
  rintro σ H2 ⟨v3, v4, v5, wa2, ys, rfl, e1, p1, e2, ne, k⟩
  rw [ll, List.take_of_length_le (Nat.le_refl _)] at p1
  refine ⟨_, rfl, fo, ys, _, rfl, SqL.of e1, p1, fun zs qs r hz pm pw hr2 => ?_⟩
  have k3 : Kp [] H2 (upd H2 r (.lst zs)) := (Kp.refl _ _).new hr2 _
  exact Q1 r zs qs _ (k.free hr2 List.not_mem_nil) upd_same (hz.keep k3) pm pw (k.trans k3)
end
end Hb
set_option maxHeartbeats 1000000
/-! k42: the first thing that is none of the layers -/
namespace Hb
open PySem PySem.Spec PyProof.Rows L2
theorem u65 {A : Around} {k : Nat} (hr : Room k A) : A.units + 65 < cLine := by have := hr.un; omega
def pairD (l : Str × Str) : PyData := .tuple [.str l.1, .str l.2]
theorem eqv_str {s : Str} {x : PyData} : PyData.eqv (.str s) x = true ↔ x = .str s := by
  cases x with
  | str y =>
    simp only [PyData.eqv, beq_iff_eq, PyData.str.injEq]
    exact ⟨Eq.symm, Eq.symm⟩
  | _ => simp [PyData.eqv]
theorem eqv_pair {l : Str × Str} {x : PyData} : PyData.eqv (pairD l) x = true ↔ x = pairD l := by
  unfold pairD
  cases x with
  | tuple ys =>
    simp only [PyData.eqv, PyData.tuple.injEq]
    match ys with
    | [] => simp [PyData.eqvAll]
    | [_] => simp [PyData.eqvAll]
    | [y0, y1] =>
      simp only [PyData.eqvAll, Bool.and_true, Bool.and_eq_true, eqv_str, List.cons.injEq, and_true]
    | _ :: _ :: _ :: _ => simp [PyData.eqvAll]
  | _ => simp [PyData.eqv]
theorem tupD_str {d : PyData} {s : Str} (h : tupD d = .str s) : d = .str s := by
  cases d <;> simp only [tupD, reduceCtorEq] at h
  exact h
theorem tupD_pair {d : PyData} {l : Str × Str} : tupD d = pairD l ↔ sqOf d = some [.str l.1, .str l.2] := by
  constructor
  · intro h
    have key : ∀ ds : List PyData, tupDs ds = [.str l.1, .str l.2] → ds = [.str l.1, .str l.2] := fun ds h => by
      rw [tupDs_map] at h
      match ds, h with
      | [], h => simp at h
      | [_], h => simp at h
      | [x, y], h =>
        simp only [List.map_cons, List.map_nil, List.cons.injEq, and_true] at h
        rw [tupD_str h.1, tupD_str h.2]
      | _ :: _ :: _ :: _, h => simp at h
    unfold pairD at h
    cases d with
    | list ds =>
      simp only [tupD, PyData.tuple.injEq] at h
      simp only [sqOf, key ds h]
    | tuple ds =>
      simp only [tupD, PyData.tuple.injEq] at h
      simp only [sqOf, key ds h]
    | _ => simp only [tupD, reduceCtorEq] at h
  · intro h
    rw [tupD_sq h]
    simp only [List.map_cons, List.map_nil, tupD]
    rfl
mutual
theorem nice_tup : ∀ d : PyData, nice (tupD d) = nice d
  | .none => by simp only [tupD]
  | .bool _ => by simp only [tupD]
  | .int _ => by simp only [tupD]
  | .str _ => by simp only [tupD]
  | .list ds => by simp only [tupD, nice]; exact nice_tups ds
  | .tuple ds => by simp only [tupD, nice]; exact nice_tups ds
  | .dict _ => by simp only [tupD]
theorem nice_tups : ∀ ds : List PyData, niceAll (tupDs ds) = niceAll ds
  | [] => by simp only [tupDs]
  | d :: ds => by simp only [tupDs, niceAll, nice_tup d, nice_tups ds]
end
mutual
theorem dep_tup : ∀ d : PyData, (tupD d).depth = d.depth
  | .none => by simp only [tupD]
  | .bool _ => by simp only [tupD]
  | .int _ => by simp only [tupD]
  | .str _ => by simp only [tupD]
  | .list ds => by simp only [tupD, PyData.depth]; rw [dep_tups ds]
  | .tuple ds => by simp only [tupD, PyData.depth]; rw [dep_tups ds]
  | .dict _ => by simp only [tupD]
theorem dep_tups : ∀ ds : List PyData, PyData.depthAll (tupDs ds) = PyData.depthAll ds
  | [] => by simp only [tupDs]
  | d :: ds => by simp only [tupDs, PyData.depthAll, dep_tup d, dep_tups ds]
end
section
variable {K : PySem.W.Frag} {H : Hp}
mutual
theorem de_dp : ∀ {d : PyData} {v : V}, nice d = true → De K H v d → Dp K H v d
  | .none, _, _, h => by cases h; exact .non
  | .bool b, _, _, h => by cases h; exact .bl b
  | .int i, _, _, h => by cases h; exact .int i
  | .str x, _, _, h => by cases h; exact .str x
  | .list ds, _, n, h => by
    cases h with
    | lst q a => exact .lst (SqL.of q) (dea_dp (by simpa only [nice] using n) a)
  | .tuple ds, _, n, h => by
    cases h with
    | tup q a => exact .tup q (dea_dp (by simpa only [nice] using n) a)
  | .dict _, _, n, _ => by simp [nice] at n
theorem dea_dp : ∀ {ds : List PyData} {vs : List V}, niceAll ds = true → DeA K H vs ds → DpAll K H vs ds
  | [], _, _, h => by cases h; exact .nil
  | d :: ds, _, n, h => by
    simp only [niceAll, Bool.and_eq_true] at n
    cases h with
    | cons a b => exact .cons (de_dp n.1 a) (dea_dp n.2 b)
end
theorem prsA_dp : ∀ {vs : List V} {ps : List (Str × Str)}, PrsA K H vs ps → DpAll K H vs (ps.map pairD)
  | _, _, .nil => .nil
  | _, _, .cons ⟨t, e, h⟩ b => .cons (by rw [e]; exact .tup h (.cons (.str _) (.cons (.str _) .nil))) (prsA_dp b)
end
theorem okName_small {x : Str} (h : okName x) : ∀ c ∈ x.cps.toList, c < 256 := fun c hc => by
  have := h.2.2 c hc
  omega
/-- a layer of some kind and name -/
def okLay (l : Str × Str) : Prop := (l.1 = "cell" ∨ l.1 = "way") ∧ okName l.2
theorem pairD_nice {l : Str × Str} (h : okLay l) : nice (pairD l) = true := by
  have h1 : ∀ c ∈ l.1.cps.toList, c < 256 := by
    rcases h.1 with e | e <;> rw [e] <;> decide +kernel
  simp only [pairD, nice, niceAll, Bool.and_true, Bool.and_eq_true]
  exact ⟨decide_eq_true h1, decide_eq_true (okName_small h.2)⟩
theorem pairs_nice : ∀ {L : List (Str × Str)}, (∀ l ∈ L, okLay l) → niceAll (L.map pairD) = true
  | [], _ => rfl
  | l :: L, h => by
    simp only [List.map_cons, niceAll, Bool.and_eq_true]
    exact ⟨pairD_nice (h l List.mem_cons_self), pairs_nice fun x m => h x (List.mem_cons_of_mem _ m)⟩
theorem pairs_dep : ∀ (L : List (Str × Str)), PyData.depthAll (L.map pairD) ≤ 1
  | [] => by simp [PyData.depthAll]
  | l :: L => by
    have := pairs_dep L
    simp only [List.map_cons, PyData.depthAll, pairD, PyData.depth]
    omega
theorem pairs_shaped {L : List (Str × Str)} (h : ∀ l ∈ L, okLay l) : SeqAt.shaped (.list (L.map pairD)) = true := by
  refine nice_shaped (by simp only [nice]; exact pairs_nice h) ?_
  have := pairs_dep L
  simp only [PyData.depth]
  omega
/-- a thing that may stand among the layers of L -/
structure Tk (L : List (Str × Str)) (d : PyData) : Prop where
  lz : LzOk d
  nc : ∀ ds, sqOf d = some ds → nice d = true
  wt : wt d ≤ 1000
  dp : d.depth ≤ 5
  lay : ∀ l, layOf d = some l → l ∈ L
  tup : ∀ l, layOf d = some l → d = pairD l
theorem any_pair {L : List (Str × Str)} {d : PyData} (hL : ∀ l ∈ L, okLay l) (k : Tk L d) : ((L.map pairD).any fun z => PyData.eqv z (tupD d)) = (layOf d).isSome := by
  rw [Bool.eq_iff_iff, List.any_eq_true, Option.isSome_iff_exists]
  constructor
  · rintro ⟨z, hz, e⟩
    obtain ⟨l, hl, rfl⟩ := List.mem_map.mp hz
    have sq := tupD_pair.mp (eqv_pair.mp e)
    exact ⟨l, by rw [layOf_pair sq]; exact if_pos (hL l hl)⟩
  · rintro ⟨l, hl⟩
    exact ⟨pairD l, List.mem_map.mpr ⟨l, k.lay l hl, rfl⟩, eqv_pair.mpr (tupD_pair.mpr (layOf_some hl).1)⟩
theorem any_good {ds : List PyData} {ls : List (Str × Str)} {l : Str × Str} {d : PyData} (e : ds.map layOf = ls.map some) (hd : layOf d = some l) : ((ds.map tupD).any fun z => PyData.eqv z (tupD d)) = decide (l ∈ ls) := by
  have ed : ds.map tupD = ls.map pairD := by
    apply List.ext_getElem?
    intro i
    have := congrArg (fun z => z[i]?) e
    simp only [List.getElem?_map] at this ⊢
    cases h1 : ds[i]? with
    | none =>
      rw [h1] at this
      cases h2 : ls[i]? with
      | none => rfl
      | some y => rw [h2] at this; cases this
    | some x =>
      rw [h1] at this
      cases h2 : ls[i]? with
      | none => rw [h2] at this; cases this
      | some y =>
        rw [h2] at this
        have h3 : layOf x = some y := by simpa using this
        show some (tupD x) = some (pairD y)
        rw [tupD_pair.mpr (layOf_some h3).1]
  rw [ed, Bool.eq_iff_iff, List.any_eq_true, decide_eq_true_iff]
  constructor
  · rintro ⟨z, hz, e⟩
    obtain ⟨y, hy, rfl⟩ := List.mem_map.mp hz
    have sq := tupD_pair.mp (eqv_pair.mp e)
    have sq2 := (layOf_some hd).1
    rw [sq] at sq2
    simp only [Option.some.injEq, List.cons.injEq, PyData.str.injEq, and_true] at sq2
    rw [← Prod.ext sq2.1 sq2.2]
    exact hy
  · intro m
    exact ⟨pairD l, List.mem_map.mpr ⟨l, m, rfl⟩, eqv_pair.mpr (tupD_pair.mpr (layOf_some hd).1)⟩
def spFirstBad (K : PySem.W.Frag) : Sp := fun vs H Q _ => ∃ (th lh : Addr) (xs us : List V) (ds : List PyData) (L : List (Str × Str)), vs = [.ref th, .ref lh] ∧ H th = some (.lst xs) ∧ DeA K H xs ds ∧ H lh = some (.lst us) ∧ PrsA K H us L ∧ (∀ l ∈ L, okLay l) ∧ (∀ d ∈ ds, Tk L d) ∧ ds.length ≤ 10 ∧
  (∀ (i : Nat) H', BadAt ds i → Kp [] H H' → Q (.int (i : Nat)) H') ∧ ∀ (ls : List (Str × Str)) H', ds.map layOf = ls.map some → ls.Nodup → Kp [] H H' → Q (.int (-1)) H'
section
variable {P : Program} {w : World} {K : PySem.W.Frag} {mg : Str → Option Value} {base : Heap} {f f1 f2 : Addr} {fd fd1 fd2 : FuncData}
end
end Hb
set_option maxHeartbeats 4000000
/-! an error of an own class made of nothing -/
namespace Hb
open PySem PySem.Spec PyProof.Rows L2 NdefX
/-- what a made thing like this is wished: nothing was put on it -/
def tMkE (C : Addr) (sp : Sp) (dvs : List V) : L2.St → Hp → XK → Prop := fun _ H Q => ∀ u, H u = none → sp (.ref u :: dvs) (upd H u (exo u C none)) (fun v Hz => v = .non ∧ Hz u = some (exo u C none) ∧ Q (.ref C) none (del Hz u)) (fun _ _ _ => False)
/-- it is let go; nothing is left of it -/
theorem let_go {X : Cx} {pins : List (Addr × Obj)} {σ : L2.St} {Ha Hz : Hp} {Q : XK} {ho hm hz : Heap} {ga gz : Array GenState} {da dz : Drawn} {ta tz : Nat} {oa oz : OsState} {u C : Addr} (R : Raises X (.ref C)) (I : Inv X pins σ Ha ⟨ho, ga, da, ta, oa⟩)
    (hu : ho.objs.size ≤ u) (grown : ∀ y o, ho.get? y = some o → hm.get? y = some o) (M : Un (frs X.stack) [] (upd Ha u (exo u C none)) Hz hm hz) (O : HOk X.prog X.w Hz hz) (eo : oz = oa) (bare : AllBare gz)
    (eu : Hz u = some (exo u C none)) (q : Q (.ref C) none (del Hz u)) : MkP X pins σ Q (.ref u) ⟨hz, gz, dz, tz, oz⟩ := by
  obtain ⟨tt, look⟩ := exo_at O eu
  have none0 : Ha u = none := I.hok.fresh hu
  obtain ⟨R0, same, gone⟩ := restrict hz fun y => decide (y ≠ u)
  have same' : ∀ y, y ≠ u → R0.get? y = hz.get? y := fun y n => same y (decide_eq_true n)
  have gone' : R0.get? u = none := gone u (by simp)
  have old : ∀ {y : Addr} {o : Obj}, ho.get? y = some o → y ≠ u := fun {y o} e z => by
    have lt : y < ho.objs.size := Heap.lt_size e
    rw [z] at lt
    exact absurd hu (Nat.not_le_of_lt lt)
  have clear : ∀ {y : Addr}, y ≠ u → Ha y = none → upd Ha u (exo u C none) y = none := fun {y} n e => (upd_ne n).trans e
  have U : Un (frs X.stack) [] Ha (del Hz u) ho R0 := by
    constructor
    case keep => intro y o e n f m; rw [same' y (old e)]; exact M.keep y o (grown y o e) (clear (old e) n) f m
    case slot => intro y o e n f m; rw [same' y (old e)]; exact M.slot y o (grown y o e) (clear (old e) n) f m
    case free => intro y o e n m; rw [del_ne (old e)]; exact M.free y o (grown y o e) (clear (old e) n) m
    case there => intro y o e m; rw [same' y (old e)]; exact M.there y o (grown y o e) m
    case tups =>
      intro y xs e
      have n : y ≠ u := fun z => by rw [z, none0] at e; cases e
      rw [del_ne n]
      exact M.tups y xs ((upd_ne n).trans e)
    case frzs =>
      intro y o v e
      have n : y ≠ u := fun z => by rw [z, none0] at e; cases e
      rw [del_ne n]
      exact M.frzs y o v ((upd_ne n).trans e)
    case tbls =>
      intro y ps e
      have n : y ≠ u := fun z => by rw [z, none0] at e; cases e
      rw [del_ne n]
      exact M.tbls y ps ((upd_ne n).trans e)
  have O' : HOk X.prog X.w (del Hz u) R0 := by
    intro y o e
    have n : y ≠ u := fun z => by rw [z, del_same] at e; cases e
    rw [del_ne n] at e
    have no : ∀ {c : Addr}, Hz c = some (.own y) → c ≠ u := fun {c} h => at_ne eu h exo_own
    refine (O y o e).stay (fun c v h z => ?_) (fun c h => ?_) (fun c xs h => ?_)
    · have m : c ≠ u := h.elim (fun h => by rw [h]; exact n) no
      rw [same' c m]
      exact z
    · rw [del_ne (no h)]
      exact h
    · rw [del_ne (at_ne eu h exo_tup)]
      exact h
  have J : Inv X pins σ (del Hz u) ⟨R0, gz, dz, tz, oz⟩ := I.call' (ch := []) eo U O' bare (fun y z => by cases z)
  refine ⟨u, _, _, ⟨R0, gz, dz, tz, oz⟩, _, .ref C, none, rfl, J, fun y o e => ?_, gone', look, ⟨rfl, rfl⟩, rfl, rfl, del_same, rfl, bare, R, q⟩
  by_cases n : y = u
  · rw [n, gone'] at e
    cases e
  · exact (same' y n).symm.trans e
section
variable {X : Cx} {CX : CXT} {k : Nat} {f C : Addr} {fd : FuncData} {ps : List Str} {sp : Sp} {dvs : List V} {ds : List Value} {x : Str} {p pos : Pos}
theorem pmk_oexG0 (T : OexC X.K C) (iC : PySem.W.findIn X.K (.ref C) "__init__" = some (some (.ref f))) (tI : PySem.W.typeIn X.K (.ref f) = some (.type "function"))
    (F1 : FnG X.prog X.w X.K X.mg X.base CX k f fd ps sp) (hgu : X.A.guards = some []) (hr : Room (k + 1) X.A) (hb : Binds X.K fd ps ds) (hd : Vals dvs ds) (hx : Passes CX X (fun _ _ _ => False)) (hg : Gl X x) (hm : X.mg x = some (.ref C))
    (hdb : (x == ("__debug__" : Str)) = false := by decide) :
    PMk X (.Call (.Name x p) [] [] pos) (tMkE C sp dvs) := by
  intro pins s σ H Q I h
  obtain ⟨nm, qn, N, bs, bm, sn, sub, ab, col, dd, k0, k1, k2, k3, k5, hC, hbm⟩ := T.cls
  apply wpAny_Call_Name_kw
  apply ld_glob I hg hm _ hdb
  apply PySem.W.callWith_K0 I.kIn T.kC
  show wpAny _ _ (call (.ref C) []) _ _ _
  obtain ⟨hp, g, dr, tk, os⟩ := s
  have hsz := Nat.le_succ hp.objs.size
  have hq := h (hp.objs.size + 1) (I.hok.fresh hsz)
  let h2 : Heap := (hp.push (PySem.W.kdv_tup [])).push (PySem.HandSPX.excO C hp.objs.size)
  have kk : ∀ b o, hp.get? b = some o → h2.get? b = some o := fun b o z => Heap.get?_push_of_some _ (Heap.get?_push_of_some _ z)
  have hget : h2.get? (hp.objs.size + 1) = some (PySem.HandSPX.excO C hp.objs.size) := by heap_get
  have I2 := I.laid (t' := tk) (a := hp.objs.size + 1) (o := exo (hp.objs.size + 1) C none) (h' := h2) kk hsz (exo_ok hget)
  have r2 := (show Vals (V.ref (hp.objs.size + 1) :: ([] ++ dvs)) (Value.ref (hp.objs.size + 1) :: ([] ++ ds)) from .cons rfl ((show Vals [] [] from .nil).append hd))
  have hl : (Value.ref (hp.objs.size + 1) :: [] ++ ds).length = ps.length := r2.length.symm.trans (F1.many hq)
  have hus : ([] : List Value).length ≤ sizeLine := Nat.zero_le _
  have body := F1.go (E := fun _ _ _ => False) (guards_make (C := C) (us := []) (kw := []) hgu) (hr.make C [] []) (I2.env0.make C [] []) (hb _ (Value.ref (hp.objs.size + 1) :: []) I2.kIn hl) r2 hq
  apply wpAny_call
  apply PySem.HandSPX.call_own F.excBase_ValueError (fun Y => PySem.HandSPX.refsVE_contains Y bm hbm) (I.kIn _ _ hC) (PySem.W.looks_findIn I.kIn iC) (fun self => PySem.W.bind_fn I.kIn self tI) hus
  refine codeAny_mono body ?_
  intro res s' hq'
  rcases res with er | fl
  · exact hx pins σ _ _ er s' I2 hq'
  · cases fl with
    | ret u =>
      obtain ⟨v, H2, os2, bare2, un2, hok2, rv, ev, ea, q2⟩ := hq'
      subst ev
      obtain ⟨h3, g3, d3, t3, os3⟩ := s'
      exact ⟨rv, let_go (raises_own T.exC T.tyC) I hsz kk un2 hok2 os2 bare2 ea q2⟩
    | next => exact hq'.elim
    | brk => exact hq'.elim
    | cont => exact hq'.elim
end
end Hb
set_option maxHeartbeats 4000000
/-! a lambda handed to a def, its body where no repr is under way -/
namespace Hb
open PySem PySem.Spec PyProof.Rows L2 LamX
section
variable {X : Cx} {pins : List (Addr × Obj)} {σ : L2.St} {H : Hp} {s : Shared}
/-- the lambda as it stands at f: made in X's def -/
structure LamAt (X : Cx) (s : Shared) (H : Hp) (params : Arguments) (body : Expr) (scope : Scope) (f c' : Addr) (pm ctv : Value) : Prop where
  of : s.heap.get? f = some (PySem.W.kla_obj "<lambda>" (X.env.qual ++ "<lambda>") params body scope (cloFrom X.env.cells scope.names []) pm c' ctv)
  own : H f = none
  fr : f ∉ frs X.stack
  bind : bindArgs (PySem.W.kla_fn "<lambda>" (X.env.qual ++ "<lambda>") params body scope (cloFrom X.env.cells scope.names []) pm (.ref c') ctv) ⟨[], []⟩ = pure []
/-- the context of the def that got it -/
abbrev cxGot (X : Cx) (s : Shared) (H : Hp) (CXg : CXT) (Eg : XK) (Ng : List Str) (qg : Str) (sg : Scope) (g : Addr) (cdg : Value) : Cx := cxOf CXg X.prog X.w X.K X.mg X.base Ng qg sg g cdg X.A X.stack s H Eg
theorem passL {X : Cx} {W : WX} {E : XK} (tk : L2N.Takes X W) (hW : ∀ cls d z G, z.length = X.N.length → E cls d G → W cls d z G) : Passes (L2N.CX X.prog X.w) X E := by
  intro _ z _ _ e s' I c
  exact tk e s' (L2N.XE.of_call I (fun cls d G h => hW cls d z G I.len h) c)
/-- the context of the lambda's body: what leaves it has no context of its own -/
abbrev lamN (X : Cx) (A : Around) (outer : List Env) (s : Shared) (H : Hp) (E : XK) (scope : Scope) (f c' : Addr) : Cx := (lamCx X A outer s H E scope f c').tr []
  (fun e s' => wpAny (model X.prog X.w) (A.deeper (lamEnv X scope s.heap.objs.size f c')) (leaving (lamEnv X scope s.heap.objs.size f c') e) (fun _ s2 => L2N.CX X.prog X.w outer H s E e s2) (fun e2 s2 => L2N.CX X.prog X.w outer H s E e2 s2) s')
theorem pe_thunk {CXg : CXT} {Eg : XK} {Ng : List Str} {qg : Str} {sg : Scope} {g f c' : Addr} {cdg pm ctv : Value} {params : Arguments} {body : Expr} {scope : Scope} {k i : Nat} {a : Str} {pn : List (Addr × Obj)} {xe : Value → Shared → Prop} {W : WX} {E : XK} {tb : TE} {p1 p2 : Pos}
    (I : Inv X pins σ H s) (L : LamS X.env.scope scope) (Z : LamAt X s H params body scope f c' pm ctv) (hg : X.A.guards = some [])
    (tk : L2N.Takes ((cxGot X s H CXg Eg Ng qg sg g cdg).tr pn xe) W) (hW : ∀ cls d σ' H', σ'.length = Ng.length → E cls d H' → W cls d σ' H') (hr : Room (k + 1) (X.A.deeper (envOfC qg sg s.heap.objs.size g cdg)))
    (hbody : ∀ (A : Around) (outer : List Env) (s : Shared) (H : Hp), A.guards = some [] → Room k (A.deeper (lamEnv X scope s.heap.objs.size f c')) → PE (lamN X A outer s H E scope f c') body tb)
    (hN : Ng[i]? = some a) (hv : Vis sg a) (hd : (a == ("__debug__" : Str)) = false := by decide) (hcd : (a == ("__classdict__" : Str)) = false := by decide) :
    PE ((cxGot X s H CXg Eg Ng qg sg g cdg).tr pn xe) (.Call (.Name a p1) [] [] p2) (fun σZ HZ Q => σZ[i]? = some (some (.ref f)) ∧ HZ c' = some (CodeO c' (X.env.qual ++ "<lambda>")) ∧ tb σ HZ Q) := by
  -- the library's rule, its body put to A's of this one kind
  constructor
  intro pz sz σZ HZ Q IZ hh
  obtain ⟨h1, h2, h3⟩ := hh
  apply wpAny_Call_Name_kw
  have var := (pe_var (X := (cxGot X s H CXg Eg Ng qg sg g cdg).tr pn xe) (pos := p1) (i := i) hN hv hd hcd).run pz sz σZ HZ (fun v H1 => v = .ref f ∧ H1 = HZ) IZ ⟨.ref f, h1, rfl, rfl⟩
  refine thn var ?_
  rintro u sy ⟨vy, Hy, Iy, ry, rfl, rfl⟩
  obtain rfl : u = Value.ref f := ry
  have there := Iy.base.keep f _ Z.of Z.own Z.fr (fun y => absurd (show f ∈ ([] : List Addr) from y) List.not_mem_nil)
  have un : Un (frs X.stack) [] H Hy s.heap sy.heap := Iy.base
  obtain ⟨⟨oc, ws, tt, g1, g2, g3⟩, -, -⟩ := Iy.hok c' _ h2
  apply PySem.W.callWith_F0 ⟨_, _, _, _, there⟩
  have run : codeAny (model X.prog X.w) (X.A.deeper (envOfC qg sg s.heap.objs.size g cdg)) (.call (.ref f) ⟨[], []⟩) (CR (L2N.CX X.prog X.w) (envOfC qg sg s.heap.objs.size g cdg :: X.stack) X.prog X.w Hy sy Q E) sy := by
    apply PySem.W.kla_callFunE hr.depth there rfl L.co L.gen rfl ⟨c', oc, ws, tt, rfl, g1, g2, g3⟩
    rw [Z.bind]
    apply wpAny_pure
    apply wpAny_newFunctionEnv (fun y hy => (L.own y hy).2) (fun y hy => absurd hy List.not_mem_nil) _ L.kind
    intro hN' hns hsb
    refine ⟨Iy.nolimit.fresh _ hsb, ?_⟩
    have keep : ∀ b o, sy.heap.get? b = some o → hN'.get? b = some o := fun b o e => hsb.extBut b o (Nat.ne_of_lt (Heap.lt_size e)) (Heap.get?_push_of_some _ e)
    have st := lam_start2 (E := E) (scope := scope) (f := f) (c' := c') (tk := sy.toks + ([] : List (Str × Value)).length) I L Iy.env0 hr.hd un hns keep
    have now := (hbody (X.A.deeper (envOfC qg sg s.heap.objs.size g cdg)) (envOfC qg sg s.heap.objs.size g cdg :: X.stack) sy Hy hg (hr.deeper _)).run [] _ σ Hy Q (st.toTry _) h3
    apply PySem.W.kla_codeExpr
    refine wpAny_mono now ?_ (fun _ _ y => y)
    rintro vv s3 ⟨w', H3, I3, r3, q3⟩
    exact ⟨w', H3, I3.os, I3.bare, I3.base, I3.hok, r3, q3⟩
  have go : Passes (L2N.CX X.prog X.w) ((cxGot X s H CXg Eg Ng qg sg g cdg).tr pn xe) E := passL tk hW
  apply wpAny_call
  refine codeAny_mono run ?_
  intro res s4 hq
  rcases res with er | fl
  · exact go pz σZ Hy sy er s4 Iy hq
  · cases fl with
    | ret u => exact Iy.after hq
    | next => exact hq.elim
    | brk => exact hq.elim
    | cont => exact hq.elim
end
/-- the def that calls what it got (a calls it, at any state of its own slots): TT is what it makes of the body's reading -/
def GivesN (X : Cx) (k : Nat) (Ng : List Str) (x : Str) (sg : Scope) (g : Addr) (cdg : Value) (bg : List Stmt) (a : Str) (q : Str) (TT : (XK → Hp → VK → Prop) → Hp → VK → Prop) : Prop :=
  ∀ (f c' : Addr) (s : Shared) (H : Hp) (Q : VK) (tl : XK → Hp → VK → Prop), Room (k + 1) (X.A.deeper (envOfC x sg s.heap.objs.size g cdg)) →
    (∀ (W : WX) (pn : List (Addr × Obj)) (xe : Value → Shared → Prop) (E : XK) (p1 p2 : Pos), L2N.Takes ((cxGot X s H C8.CX0 C8.E0 Ng x sg g cdg).tr pn xe) W → (∀ cls d z G, z.length = Ng.length → E cls d G → W cls d z G) →
      PE ((cxGot X s H C8.CX0 C8.E0 Ng x sg g cdg).tr pn xe) (.Call (.Name a p1) [] [] p2) (fun z G Q' => z[0]? = some (some (.ref f)) ∧ G c' = some (CodeO c' q) ∧ tl E G Q')) →
    H c' = some (CodeO c' q) → TT tl H Q → ∃ t, PSs (cxGot X s H C8.CX0 C8.E0 Ng x sg g cdg).nox bg t ∧ t { nx := fun _ G => Q .non G, rt := Q } (L2.start Ng [.ref f]) H
section
variable {X : Cx}
/-- x(lambda: body), x a def of one parameter -/
theorem pe_lamG {T : List (Addr × Str)} {TT : (XK → Hp → VK → Prop) → Hp → VK → Prop} {x a : Str} {g c P : Addr} {k : Nat} {pg : Arguments} {bg : List Stmt} {sg : Scope} {dV kV doc pm cdv ct oc : Value} {an od : Option Addr} {osl : Array (Option Value)} {Ng : List Str}
    {params : Arguments} {body : Expr} {scope : Scope} {t : XK → TE} {p lpos pos : Pos} (hgu : X.A.guards = some []) (hgl : Gl X x) (hm : X.mg x = some (.ref g)) (hk : PySem.W.keepIn X.K (.ref g) = true)
    (lk : X.K.lookup g = some ⟨oc, od, .func (PySem.W.fnOf x x pg bg sg dV kV doc pm an cdv ct), osl⟩) (hcg : PySem.W.codeIn X.K cdv x = true) (hb : L2.Binds X.K (PySem.W.fnOf x x pg bg sg dV kV doc pm an cdv ct) [a] [])
    (S : FnScope Ng [a] sg) (h0 : Ng[0]? = some a) (hva : Vis sg a) (hG : GivesN X k Ng x sg g cdv bg a (X.env.qual ++ "<lambda>") TT)
    (TB : TabB X.base X.mg c P) (hcode : X.env.code = .ref c) (hmT : (P, X.env.qual ++ "<lambda>") ∈ T) (hu : ∀ p ∈ T, p.1 = P → p.2 = X.env.qual ++ "<lambda>") (hr : Room (k + 2) X.A) (L : LamS X.env.scope scope) (hdef : defaultsOf params X.env = ([], []))
    (hbind : ∀ (q : Str) (cl : List (Str × Addr)) (pm cv ctv : Value), bindArgs (PySem.W.kla_fn "<lambda>" q params body scope cl pm cv ctv) ⟨[], []⟩ = pure [])
    (hbody : ∀ (A : Around) (outer : List Env) (s : Shared) (H : Hp) (E : XK) (f c' : Addr), A.guards = some [] → Room k (A.deeper (lamEnv X scope s.heap.objs.size f c')) → PE (lamN X A outer s H E scope f c') body (t E))
    (hdb : (x == ("__debug__" : Str)) = false := by decide) (hd : (a == ("__debug__" : Str)) = false := by decide) (hcd : (a == ("__classdict__" : Str)) = false := by decide) : PE X (.Call (.Name x p) [.Lambda params body scope lpos] [] pos) (tLam T TT t) := by
  constructor
  intro pins s σ H Q I hh
  obtain ⟨hT, hh⟩ := hh
  apply wpAny_Call_Name_kw
  apply ld_glob I hgl hm _ hdb
  apply PySem.W.callWith_K (h₀ := X.base) I.ok.mod.kin hk _ (by rfl) (by rfl)
  show wpAny _ _ (spliced ((false, eval (.Lambda params body scope lpos) X.env) :: backTo pos (starEach [] X.env))) _ _ s
  apply Calls.spliced_cons
  apply lam_make2 I TB hcode hmT hu hT hdef (L.has I.ok)
  intro f c' pm' ctv H1 s' I1 eN T1 of own fr co
  have Z : LamAt X s' H1 params body scope f c' pm' ctv := ⟨of, own, fr, hbind _ _ _ _ _⟩
  apply Calls.spliced_nil
  refine ⟨I1.kIn, ?_⟩
  apply wpAny_call
  have run : codeAny (model X.prog X.w) X.A (.call (.ref g) ⟨[.ref f], []⟩) (CR C8.CX0 X.stack X.prog X.w H1 s' Q C8.E0) s' := by
    apply run_ofS (N := Ng) (ps := [a]) (us := [.ref f]) (vs := [.ref f]) lk hcg S hr I1.env0 (hb s' [.ref f] I1.kIn rfl) (.cons rfl .nil) rfl
    intro hr'
    have act := hG f c' s' H1 Q (fun E H' Q' => t E σ H' Q') hr' (fun W pn xe E p1 p2 tk hW => pe_thunk (i := 0) I1 L Z hgu tk hW hr' (fun A outer s H gA hr2 => hbody A outer s H E f c' gA hr2) h0 hva hd hcd) co (hh H1 eN T1)
    obtain ⟨tt, ht, hq⟩ := act
    exact ⟨tt, ht.nox, hq⟩
  refine codeAny_mono run ?_
  intro res s2 hq
  rcases res with er | fl
  · exact (show False from hq).elim
  · cases fl with
    | ret u => exact I1.after hq
    | next => exact hq.elim
    | brk => exact hq.elim
    | cont => exact hq.elim
end
end Hb
set_option maxHeartbeats 4000000
/-! a try whose clauses all have a name -/
namespace Hb
open PySem PySem.Spec PyProof.Rows L2
/-- a clause: its class, the slot of its name, what its suite asks -/
structure Cl where
  c : Value
  i : Nat
  t : Addr → Value → Option Addr → TS
/-- behind a suite its name is gone -/
def dropE (i : Nat) (D : Ends) : Ends where
  nx := fun z => D.nx (z.set i none)
  rt := D.rt
  bk := fun z => D.bk (z.set i none)
  ct := fun z => D.ct (z.set i none)
def wCls (K : PySem.W.Frag) (out : WX) (D : Ends) : List Cl → WX
  | [] => out
  | k :: ks => fun cls d z G => ∃ b, PySem.W.exmOne K cls k.c = some b ∧ (b = true → ∀ e, G e = none → k.t e cls d (dropE k.i D) (z.set k.i (some (.ref e))) G) ∧ (b = false → wCls K out D ks cls d z G)
inductive ClsOk (X : Cx) : List ExceptHandler → List Cl → Prop
  | nil : ClsOk X [] []
  | cons {x n : Str} {k : Cl} {st : Stmt} {sts : List Stmt} {p q : Pos} {r : List ExceptHandler} {ks : List Cl} (nm : Names X x k.c) (at_ : X.N[k.i]? = some n) (lo : X.env.kindOf n = some .local)
      (go : ∀ (e : Addr) (oe : Obj) (cls : Value) (d : Option Addr) (ps : List (Addr × Obj)), L2N.Zn cls d oe → (∃ fs, oe.data = .fields fs) → PSs (X.suite e ((e, oe) :: ps)) (st :: sts) (k.t e cls d)) (rest : ClsOk X r ks) :
      ClsOk X (.ExceptHandler (some (.Name x p)) (some n) (st :: sts) q :: r) (k :: ks)
section
variable {X : Cx} {body : List Stmt} {k₀ : ExceptHandler} {r : List ExceptHandler} {ks : List Cl} {p : Pos} {tb : WX → TS} {out : WX}
/-- one clause after the other, at an exception that has landed -/
theorem cls_run (hs : X.stack = X.env :: X.outer) (hf : X.env.frame = some X.env.locals) (nd : X.N.Nodup) (tk : L2N.Takes X out) {D : Ends} {pins : List (Addr × Obj)} {B : Heap} {e : Addr} {sI s : Shared} {z : L2.St} {G : Hp} {cls : Value} {d : Option Addr} {h : Heap}
    (J : Inv X pins z G sI) (nb : ∀ b o, sI.heap.get? b = some o → b ∉ frs X.stack → B.get? b = some o) (up : sI.heap.UpToSlots h) (os : s.os = sI.os) (bare : AllBare s.gens) (na : G e = none)
    (fly : HandSPX.FlyingZ B (X.env :: X.outer) e (L2N.Zn cls d) h) {r : List ExceptHandler} {ks : List Cl} (ok : ClsOk X r ks) (w : wCls X.K out D ks cls d z G) :
    wpAny (model X.prog X.w) X.A (handleBy (.ref e) X.env r) (SP X pins D) X.xe { s with heap := h } := by
  have J3 : Inv X pins z G { s with heap := h } := J.landed nb fly.1 up os bare
  obtain ⟨oe, fs, there, kind, dat⟩ := fly.there
  have nofr : ∀ {h' : Heap} {o : Obj} {us : Array Value}, h'.FunFrames B (X.env :: X.outer) → h'.get? e = some o → o.data = .fields us → e ∉ frs (X.env :: X.outer) := by
    intro h' o us ff g1 g2 m
    obtain ⟨_, o', g3, no⟩ := ff.mem m
    rw [g1] at g3
    cases g3
    exact no _ g2
  have nf := nofr fly.2.2.1 there dat
  have nLoc : e ≠ X.env.locals := by
    intro y
    exact nf (List.mem_filterMap.mpr ⟨X.env, List.mem_cons_self, by rw [hf, y]⟩)
  have nOut : e ∉ X.fs := by
    intro m
    obtain ⟨v, m1, m2⟩ := List.mem_filterMap.mp m
    exact nf (List.mem_filterMap.mpr ⟨v, List.mem_cons_of_mem _ m1, m2⟩)
  have S3 := J3.suite there dat na nLoc nOut
  induction ok with
  | nil =>
    apply wpAny_handleBy_nil
    have fly' := fly
    obtain ⟨-, -, -, oe', us, T, oT, ts, g1, -, g3, g4, -⟩ := fly'
    unfold PySem.passOn
    apply wpAny_bind
    apply wpAny_field g1 g3 g4
    rw [if_neg (show ¬ ((Value.ref T == Value.none) = true) from by simp)]
    have last : wpAny (model X.prog X.w) X.A (setFlight (.ref e) X.env.frame) (fun _ s4 => wpAny (model X.prog X.w) X.A (throw (.ref e) : Sem Flow) (SP X pins D) X.xe s4) X.xe { s with heap := h } := by
      rw [hf]
      apply HandSPX.setFlight_upZ fly
      intro h4 held up4
      apply wpAny_throw
      apply tk
      exact ⟨e, B, sI, pins, z, G, cls, d, rfl, J, nb, up.trans up4, .inr (.inr (by rw [hs]; exact held)), na, os, bare, w⟩
    first
      | exact wpAny_bind (wpAny_pure (wpAny_bind last))
      | exact wpAny_bind last
  | @cons x n k st sts p q r ks nm at_ lo go rest ih =>
    obtain ⟨b, g1, yes, no⟩ := w
    apply wpAny_handleBy_cons _ (by intro y; cases y)
    apply codeAny_handlers_test
    have ty : PySem.W.Looks (model X.prog X.w) h (typeOf (.ref e)) cls := by
      intro A Q E s' k' q'
      exact wpAny_typeOf_ref (k' _ _ there) (by rw [kind.1]; exact q')
    have ask := PySem.W.exm_one (M := model X.prog X.w) (J3.kIn) ty g1
    have test : ∀ {Q : Value → Shared → Prop} {E : Value → Shared → Prop}, Q k.c { s with heap := h } → wpAny (model X.prog X.w) (X.A.mark (some (.ref e))) (eval (.Name x p) X.env) Q E { s with heap := h } := by
      intro Q E y
      obtain ⟨hg, hdb, own | ⟨own, bv, nn⟩⟩ := nm
      · exact ld_glob (X := X.suite e ((e, oe) :: (X.pn ++ pins))) S3 hg own y hdb
      · exact ld_blt (X := X.suite e ((e, oe) :: (X.pn ++ pins))) S3 hg own bv y nn hdb
    apply test
    apply ask.here
    cases b with
    | false =>
      show wpAny _ X.A (handleBy (.ref e) X.env r) _ _ _
      exact ih (no rfl)
    | true =>
      apply codeAny_handlers_suite_as
      apply HandSPX.lands_againZ fly
      intro h4 fly4 up4
      have J4 : Inv X pins z G { s with heap := h4 } := J.landed nb fly4.1 (up.trans up4) os bare
      obtain ⟨oe4, us4, there4, kind4, dat4⟩ := fly4.there
      have S4 := J4.suite there4 dat4 na nLoc nOut
      apply store_ok (X := X.suite e ((e, oe4) :: (X.pn ++ pins))) (v := .ref e) S4 nd at_ (.inl lo) rfl _ (.inr lo)
      intro s5 S5
      have run := (go e oe4 cls d (X.pn ++ pins) kind4 ⟨_, dat4⟩).run [] s5 _ G _ S5 (yes rfl e na)
      have gone : ∀ {z6 : L2.St} {G6 : Hp} {s6 : Shared} {Q : Shared → Prop}, Inv (X.suite e ((e, oe4) :: (X.pn ++ pins))) [] z6 G6 s6 → (∀ s7, Inv X pins (z6.set k.i none) G6 s7 → Q s7) →
          wpAny (model X.prog X.w) X.A (do bindName X.env n .none; unbindBehindTheSuite X.env n q) (fun _ s7 => Q s7) X.xe s6 := by
        intro z6 G6 s6 Q S6 y
        exact gone_ok (S6.unsuite J.ok) nd at_ lo y
      apply wpAny_mono run _ (fun _ _ y => False.elim y)
      intro f s6 y
      cases f with
      | ret u =>
        obtain ⟨v, z6, G6, S6, rv, y⟩ := y
        apply gone S6
        intro s7 J7
        exact ⟨_, _, _, J7, rv, y⟩
      | next =>
        obtain ⟨z6, G6, S6, y⟩ := y
        apply gone S6
        intro s7 J7
        exact ⟨_, _, J7, y⟩
      | brk =>
        obtain ⟨z6, G6, S6, y⟩ := y
        apply gone S6
        intro s7 J7
        exact ⟨_, _, J7, y⟩
      | cont =>
        obtain ⟨z6, G6, S6, y⟩ := y
        apply gone S6
        intro s7 J7
        exact ⟨_, _, J7, y⟩
theorem ps_try_names (hs : X.stack = X.env :: X.outer) (hf : X.env.frame = some X.env.locals) (nd : X.N.Nodup) (tk : L2N.Takes X out)
    (hb : ∀ (W : WX) (ps : List (Addr × Obj)) (xe : Value → Shared → Prop), L2N.Takes (X.tr ps xe) W → PassesOwn (model X.prog X.w) X.A X.env xe → PSs (X.tr ps xe) body (tb W))
    (ok : ClsOk X (k₀ :: r) ks) : PS X (.Try body (k₀ :: r) [] [] p) (fun D z G => tb (wCls X.K out D ks) D z G) := by
  constructor
  intro pins s z G D I hh
  have fr : X.A.frames = some (X.env :: X.outer) := by rw [I.ok.frames, hs]
  apply wpAny_Try_except
  have inner := (hb (wCls X.K out D ks) (X.pn ++ pins) (fun v s₁ => wpAny (model X.prog X.w) X.A (noteFrame v X.env) (fun _ s₂ => wpAny (model X.prog X.w) X.A (setFlight v none) (fun _ s₃ =>
    wpAny (model X.prog X.w) X.A (handleBy v X.env (k₀ :: r)) (SP X pins D) X.xe s₃) X.xe s₂) X.xe s₁) ?_ PassesOwn.looking).run [] s z G D (I.toTry _) hh
  · apply wpAny_mono inner _ (fun _ _ y => y)
    intro f s1 y
    cases f with
    | ret u =>
      obtain ⟨v, z1, G1, J, rv, y⟩ := y
      exact ⟨v, z1, G1, J.ofTry I.ok, rv, y⟩
    | next =>
      obtain ⟨z1, G1, J, y⟩ := y
      exact wpAny_execs_nil ⟨z1, G1, J.ofTry I.ok, y⟩
    | brk =>
      obtain ⟨z1, G1, J, y⟩ := y
      exact ⟨z1, G1, J.ofTry I.ok, y⟩
    | cont =>
      obtain ⟨z1, G1, J, y⟩ := y
      exact ⟨z1, G1, J.ofTry I.ok, y⟩
  · intro u s1 xx
    obtain ⟨e, B, sI, pins', z1, G1, cls, d, rfl, J', nb, up, sky, na, os, bare, w⟩ := xx
    have J : Inv X pins z1 G1 sI := J'.ofTry I.ok
    have sky1 : Sky B (X.env :: X.outer) e (L2N.Zn cls d) X.env.locals s1.heap := hs ▸ sky
    show wpAny (model X.prog X.w) X.A (noteFrame (.ref e) X.env) _ _ _
    apply L2N.Sky.land L2N.Zn.steady fr hf sky1
    intro h3 fly up3
    exact cls_run hs hf nd tk J nb (up.trans up3) os bare na fly ok w
end
end Hb
set_option maxHeartbeats 4000000
/-! an own error made of nothing, without a context; a try with clauses of both kinds -/
namespace Hb
open PySem PySem.Spec PyProof.Rows L2 NdefX
/-- it is let go; nothing is left of it -/
theorem let_goN {X : Cx} {pins : List (Addr × Obj)} {σ : L2.St} {Ha Hz : Hp} {Q : XK} {ho hm hz : Heap} {ga gz : Array GenState} {da dz : Drawn} {ta tz : Nat} {oa oz : OsState} {u C : Addr} (R : Raises X (.ref C)) (I : Inv X pins σ Ha ⟨ho, ga, da, ta, oa⟩)
    (hu : ho.objs.size ≤ u) (grown : ∀ y o, ho.get? y = some o → hm.get? y = some o) (M : Un (frs X.stack) [] (upd Ha u (exo u C none)) Hz hm hz) (O : HOk X.prog X.w Hz hz) (eo : oz = oa) (bare : AllBare gz)
    (eu : Hz u = some (exo u C none)) (q : Q (.ref C) none (del Hz u)) : L2N.MkP X pins σ Q (.ref u) ⟨hz, gz, dz, tz, oz⟩ := by
  obtain ⟨tt, look⟩ := exo_at O eu
  have none0 : Ha u = none := I.hok.fresh hu
  obtain ⟨R0, same, gone⟩ := restrict hz fun y => decide (y ≠ u)
  have same' : ∀ y, y ≠ u → R0.get? y = hz.get? y := fun y n => same y (decide_eq_true n)
  have gone' : R0.get? u = none := gone u (by simp)
  have old : ∀ {y : Addr} {o : Obj}, ho.get? y = some o → y ≠ u := fun {y o} e z => by
    have lt : y < ho.objs.size := Heap.lt_size e
    rw [z] at lt
    exact absurd hu (Nat.not_le_of_lt lt)
  have clear : ∀ {y : Addr}, y ≠ u → Ha y = none → upd Ha u (exo u C none) y = none := fun {y} n e => (upd_ne n).trans e
  have U : Un (frs X.stack) [] Ha (del Hz u) ho R0 := by
    constructor
    case keep => intro y o e n f m; rw [same' y (old e)]; exact M.keep y o (grown y o e) (clear (old e) n) f m
    case slot => intro y o e n f m; rw [same' y (old e)]; exact M.slot y o (grown y o e) (clear (old e) n) f m
    case free => intro y o e n m; rw [del_ne (old e)]; exact M.free y o (grown y o e) (clear (old e) n) m
    case there => intro y o e m; rw [same' y (old e)]; exact M.there y o (grown y o e) m
    case tups =>
      intro y xs e
      have n : y ≠ u := fun z => by rw [z, none0] at e; cases e
      rw [del_ne n]
      exact M.tups y xs ((upd_ne n).trans e)
    case frzs =>
      intro y o v e
      have n : y ≠ u := fun z => by rw [z, none0] at e; cases e
      rw [del_ne n]
      exact M.frzs y o v ((upd_ne n).trans e)
    case tbls =>
      intro y ps e
      have n : y ≠ u := fun z => by rw [z, none0] at e; cases e
      rw [del_ne n]
      exact M.tbls y ps ((upd_ne n).trans e)
  have O' : HOk X.prog X.w (del Hz u) R0 := by
    intro y o e
    have n : y ≠ u := fun z => by rw [z, del_same] at e; cases e
    rw [del_ne n] at e
    have no : ∀ {c : Addr}, Hz c = some (.own y) → c ≠ u := fun {c} h => at_ne eu h exo_own
    refine (O y o e).stay (fun c v h z => ?_) (fun c h => ?_) (fun c xs h => ?_)
    · have m : c ≠ u := h.elim (fun h => by rw [h]; exact n) no
      rw [same' c m]
      exact z
    · rw [del_ne (no h)]
      exact h
    · rw [del_ne (at_ne eu h exo_tup)]
      exact h
  have J : Inv X pins σ (del Hz u) ⟨R0, gz, dz, tz, oz⟩ := I.call' (ch := []) eo U O' bare (fun y z => by cases z)
  refine ⟨u, _, _, ⟨R0, gz, dz, tz, oz⟩, _, .ref C, none, rfl, J, fun y o e => ?_, gone', look, ⟨rfl, rfl, fun us2 y => by cases y; rfl⟩, rfl, rfl, del_same, rfl, bare, R, q⟩
  by_cases n : y = u
  · rw [n, gone'] at e
    cases e
  · exact (same' y n).symm.trans e
section
variable {X : Cx} {CX : CXT} {k : Nat} {f C : Addr} {fd : FuncData} {ps : List Str} {sp : Sp} {dvs : List V} {ds : List Value} {x : Str} {p pos : Pos}
theorem pmk_oexN0 (T : OexC X.K C) (iC : PySem.W.findIn X.K (.ref C) "__init__" = some (some (.ref f))) (tI : PySem.W.typeIn X.K (.ref f) = some (.type "function"))
    (F1 : FnG X.prog X.w X.K X.mg X.base CX k f fd ps sp) (hgu : X.A.guards = some []) (hr : Room (k + 1) X.A) (hb : Binds X.K fd ps ds) (hd : Vals dvs ds) (hx : Passes CX X (fun _ _ _ => False)) (hg : Gl X x) (hm : X.mg x = some (.ref C))
    (hdb : (x == ("__debug__" : Str)) = false := by decide) :
    L2N.PMk X (.Call (.Name x p) [] [] pos) (tMkE C sp dvs) := by
  intro pins s σ H Q I h
  obtain ⟨nm, qn, N, bs, bm, sn, sub, ab, col, dd, k0, k1, k2, k3, k5, hC, hbm⟩ := T.cls
  apply wpAny_Call_Name_kw
  apply ld_glob I hg hm _ hdb
  apply PySem.W.callWith_K0 I.kIn T.kC
  show wpAny _ _ (call (.ref C) []) _ _ _
  obtain ⟨hp, g, dr, tk, os⟩ := s
  have hsz := Nat.le_succ hp.objs.size
  have hq := h (hp.objs.size + 1) (I.hok.fresh hsz)
  let h2 : Heap := (hp.push (PySem.W.kdv_tup [])).push (PySem.HandSPX.excO C hp.objs.size)
  have kk : ∀ b o, hp.get? b = some o → h2.get? b = some o := fun b o z => Heap.get?_push_of_some _ (Heap.get?_push_of_some _ z)
  have hget : h2.get? (hp.objs.size + 1) = some (PySem.HandSPX.excO C hp.objs.size) := by heap_get
  have I2 := I.laid (t' := tk) (a := hp.objs.size + 1) (o := exo (hp.objs.size + 1) C none) (h' := h2) kk hsz (exo_ok hget)
  have r2 := (show Vals (V.ref (hp.objs.size + 1) :: ([] ++ dvs)) (Value.ref (hp.objs.size + 1) :: ([] ++ ds)) from .cons rfl ((show Vals [] [] from .nil).append hd))
  have hl : (Value.ref (hp.objs.size + 1) :: [] ++ ds).length = ps.length := r2.length.symm.trans (F1.many hq)
  have hus : ([] : List Value).length ≤ sizeLine := Nat.zero_le _
  have body := F1.go (E := fun _ _ _ => False) (guards_make (C := C) (us := []) (kw := []) hgu) (hr.make C [] []) (I2.env0.make C [] []) (hb _ (Value.ref (hp.objs.size + 1) :: []) I2.kIn hl) r2 hq
  apply wpAny_call
  apply PySem.HandSPX.call_own F.excBase_ValueError (fun Y => PySem.HandSPX.refsVE_contains Y bm hbm) (I.kIn _ _ hC) (PySem.W.looks_findIn I.kIn iC) (fun self => PySem.W.bind_fn I.kIn self tI) hus
  refine codeAny_mono body ?_
  intro res s' hq'
  rcases res with er | fl
  · exact hx pins σ _ _ er s' I2 hq'
  · cases fl with
    | ret u =>
      obtain ⟨v, H2, os2, bare2, un2, hok2, rv, ev, ea, q2⟩ := hq'
      subst ev
      obtain ⟨h3, g3, d3, t3, os3⟩ := s'
      exact ⟨rv, let_goN (raises_own T.exC T.tyC) I hsz kk un2 hok2 os2 bare2 ea q2⟩
    | next => exact hq'.elim
    | brk => exact hq'.elim
    | cont => exact hq'.elim
end
/-- a clause: its class, the slot of its name, what its suite asks -/
structure Cm where
  c : Value
  i : Option Nat
  t : Addr → Value → Option Addr → TS
def wClm (K : PySem.W.Frag) (out : WX) (D : Ends) : List Cm → WX
  | [] => out
  | k :: ks => fun cls d z G => ∃ b, PySem.W.exmOne K cls k.c = some b ∧ (b = true → ∀ e, G e = none → match k.i with | some i => k.t e cls d (dropE i D) (z.set i (some (.ref e))) G | none => k.t e cls d D z G) ∧ (b = false → wClm K out D ks cls d z G)
inductive ClmOk (X : Cx) : List ExceptHandler → List Cm → Prop
  | nil : ClmOk X [] []
  | cons {x n : Str} {k : Cm} {i : Nat} {st : Stmt} {sts : List Stmt} {p q : Pos} {r : List ExceptHandler} {ks : List Cm} (nm : Names X x k.c) (ki : k.i = some i) (at_ : X.N[i]? = some n) (lo : X.env.kindOf n = some .local)
      (go : ∀ (e : Addr) (oe : Obj) (cls : Value) (d : Option Addr) (ps : List (Addr × Obj)), L2N.Zn cls d oe → (∃ fs, oe.data = .fields fs) → PSs (X.suite e ((e, oe) :: ps)) (st :: sts) (k.t e cls d)) (rest : ClmOk X r ks) :
      ClmOk X (.ExceptHandler (some (.Name x p)) (some n) (st :: sts) q :: r) (k :: ks)
  | bare {x : Str} {k : Cm} {st : Stmt} {sts : List Stmt} {p q : Pos} {r : List ExceptHandler} {ks : List Cm} (nm : Names X x k.c) (ki : k.i = none)
      (go : ∀ (e : Addr) (oe : Obj) (cls : Value) (d : Option Addr) (ps : List (Addr × Obj)), L2N.Zn cls d oe → (∃ fs, oe.data = .fields fs) → PSs (X.suite e ((e, oe) :: ps)) (st :: sts) (k.t e cls d)) (rest : ClmOk X r ks) :
      ClmOk X (.ExceptHandler (some (.Name x p)) none (st :: sts) q :: r) (k :: ks)
section
variable {X : Cx} {body : List Stmt} {k₀ : ExceptHandler} {r : List ExceptHandler} {ks : List Cm} {p : Pos} {tb : WX → TS} {out : WX}
/-- one clause after the other, at an exception that has landed -/
theorem clm_run (hs : X.stack = X.env :: X.outer) (hf : X.env.frame = some X.env.locals) (nd : X.N.Nodup) (tk : L2N.Takes X out) {D : Ends} {pins : List (Addr × Obj)} {B : Heap} {e : Addr} {sI s : Shared} {z : L2.St} {G : Hp} {cls : Value} {d : Option Addr} {h : Heap}
    (J : Inv X pins z G sI) (nb : ∀ b o, sI.heap.get? b = some o → b ∉ frs X.stack → B.get? b = some o) (up : sI.heap.UpToSlots h) (os : s.os = sI.os) (bare : AllBare s.gens) (na : G e = none)
    (fly : HandSPX.FlyingZ B (X.env :: X.outer) e (L2N.Zn cls d) h) {r : List ExceptHandler} {ks : List Cm} (ok : ClmOk X r ks) (w : wClm X.K out D ks cls d z G) :
    wpAny (model X.prog X.w) X.A (handleBy (.ref e) X.env r) (SP X pins D) X.xe { s with heap := h } := by
  have J3 : Inv X pins z G { s with heap := h } := J.landed nb fly.1 up os bare
  obtain ⟨oe, fs, there, kind, dat⟩ := fly.there
  have nofr : ∀ {h' : Heap} {o : Obj} {us : Array Value}, h'.FunFrames B (X.env :: X.outer) → h'.get? e = some o → o.data = .fields us → e ∉ frs (X.env :: X.outer) := by
    intro h' o us ff g1 g2 m
    obtain ⟨_, o', g3, no⟩ := ff.mem m
    rw [g1] at g3
    cases g3
    exact no _ g2
  have nf := nofr fly.2.2.1 there dat
  have nLoc : e ≠ X.env.locals := by
    intro y
    exact nf (List.mem_filterMap.mpr ⟨X.env, List.mem_cons_self, by rw [hf, y]⟩)
  have nOut : e ∉ X.fs := by
    intro m
    obtain ⟨v, m1, m2⟩ := List.mem_filterMap.mp m
    exact nf (List.mem_filterMap.mpr ⟨v, List.mem_cons_of_mem _ m1, m2⟩)
  have S3 := J3.suite there dat na nLoc nOut
  induction ok with
  | nil =>
    apply wpAny_handleBy_nil
    have fly' := fly
    obtain ⟨-, -, -, oe', us, T, oT, ts, g1, -, g3, g4, -⟩ := fly'
    unfold PySem.passOn
    apply wpAny_bind
    apply wpAny_field g1 g3 g4
    rw [if_neg (show ¬ ((Value.ref T == Value.none) = true) from by simp)]
    have last : wpAny (model X.prog X.w) X.A (setFlight (.ref e) X.env.frame) (fun _ s4 => wpAny (model X.prog X.w) X.A (throw (.ref e) : Sem Flow) (SP X pins D) X.xe s4) X.xe { s with heap := h } := by
      rw [hf]
      apply HandSPX.setFlight_upZ fly
      intro h4 held up4
      apply wpAny_throw
      apply tk
      exact ⟨e, B, sI, pins, z, G, cls, d, rfl, J, nb, up.trans up4, .inr (.inr (by rw [hs]; exact held)), na, os, bare, w⟩
    first
      | exact wpAny_bind (wpAny_pure (wpAny_bind last))
      | exact wpAny_bind last
  | @cons x n k i st sts p q r ks nm ki at_ lo go rest ih =>
    obtain ⟨b, g1, yes, no⟩ := w
    apply wpAny_handleBy_cons _ (by intro y; cases y)
    apply codeAny_handlers_test
    have ty : PySem.W.Looks (model X.prog X.w) h (typeOf (.ref e)) cls := by
      intro A Q E s' k' q'
      exact wpAny_typeOf_ref (k' _ _ there) (by rw [kind.1]; exact q')
    have ask := PySem.W.exm_one (M := model X.prog X.w) (J3.kIn) ty g1
    have test : ∀ {Q : Value → Shared → Prop} {E : Value → Shared → Prop}, Q k.c { s with heap := h } → wpAny (model X.prog X.w) (X.A.mark (some (.ref e))) (eval (.Name x p) X.env) Q E { s with heap := h } := by
      intro Q E y
      obtain ⟨hg, hdb, own | ⟨own, bv, nn⟩⟩ := nm
      · exact ld_glob (X := X.suite e ((e, oe) :: (X.pn ++ pins))) S3 hg own y hdb
      · exact ld_blt (X := X.suite e ((e, oe) :: (X.pn ++ pins))) S3 hg own bv y nn hdb
    apply test
    apply ask.here
    cases b with
    | false =>
      show wpAny _ X.A (handleBy (.ref e) X.env r) _ _ _
      exact ih (no rfl)
    | true =>
      apply codeAny_handlers_suite_as
      apply HandSPX.lands_againZ fly
      intro h4 fly4 up4
      have J4 : Inv X pins z G { s with heap := h4 } := J.landed nb fly4.1 (up.trans up4) os bare
      obtain ⟨oe4, us4, there4, kind4, dat4⟩ := fly4.there
      have S4 := J4.suite there4 dat4 na nLoc nOut
      apply store_ok (X := X.suite e ((e, oe4) :: (X.pn ++ pins))) (v := .ref e) S4 nd at_ (.inl lo) rfl _ (.inr lo)
      intro s5 S5
      have yes' := yes rfl e na
      rw [ki] at yes'
      have run := (go e oe4 cls d (X.pn ++ pins) kind4 ⟨_, dat4⟩).run [] s5 _ G _ S5 yes'
      have gone : ∀ {z6 : L2.St} {G6 : Hp} {s6 : Shared} {Q : Shared → Prop}, Inv (X.suite e ((e, oe4) :: (X.pn ++ pins))) [] z6 G6 s6 → (∀ s7, Inv X pins (z6.set i none) G6 s7 → Q s7) →
          wpAny (model X.prog X.w) X.A (do bindName X.env n .none; unbindBehindTheSuite X.env n q) (fun _ s7 => Q s7) X.xe s6 := by
        intro z6 G6 s6 Q S6 y
        exact gone_ok (S6.unsuite J.ok) nd at_ lo y
      apply wpAny_mono run _ (fun _ _ y => False.elim y)
      intro f s6 y
      cases f with
      | ret u =>
        obtain ⟨v, z6, G6, S6, rv, y⟩ := y
        apply gone S6
        intro s7 J7
        exact ⟨_, _, _, J7, rv, y⟩
      | next =>
        obtain ⟨z6, G6, S6, y⟩ := y
        apply gone S6
        intro s7 J7
        exact ⟨_, _, J7, y⟩
      | brk =>
        obtain ⟨z6, G6, S6, y⟩ := y
        apply gone S6
        intro s7 J7
        exact ⟨_, _, J7, y⟩
      | cont =>
        obtain ⟨z6, G6, S6, y⟩ := y
        apply gone S6
        intro s7 J7
        exact ⟨_, _, J7, y⟩
  | @bare x k st sts p q r ks nm ki go rest ih =>
    obtain ⟨b, g1, yes, no⟩ := w
    apply wpAny_handleBy_cons _ (by intro y; cases y)
    apply codeAny_handlers_test
    have ty : PySem.W.Looks (model X.prog X.w) h (typeOf (.ref e)) cls := by
      intro A Q E s' k' q'
      exact wpAny_typeOf_ref (k' _ _ there) (by rw [kind.1]; exact q')
    have ask := PySem.W.exm_one (M := model X.prog X.w) (J3.kIn) ty g1
    have test : ∀ {Q : Value → Shared → Prop} {E : Value → Shared → Prop}, Q k.c { s with heap := h } → wpAny (model X.prog X.w) (X.A.mark (some (.ref e))) (eval (.Name x p) X.env) Q E { s with heap := h } := by
      intro Q E y
      obtain ⟨hg, hdb, own | ⟨own, bv, nn⟩⟩ := nm
      · exact ld_glob (X := X.suite e ((e, oe) :: (X.pn ++ pins))) S3 hg own y hdb
      · exact ld_blt (X := X.suite e ((e, oe) :: (X.pn ++ pins))) S3 hg own bv y nn hdb
    apply test
    apply ask.here
    cases b with
    | false =>
      show wpAny _ X.A (handleBy (.ref e) X.env r) _ _ _
      exact ih (no rfl)
    | true =>
      apply codeAny_handlers_suite
      apply HandSPX.lands_againZ fly
      intro h4 fly4 up4
      have J4 : Inv X pins z G { s with heap := h4 } := J.landed nb fly4.1 (up.trans up4) os bare
      obtain ⟨oe4, us4, there4, kind4, dat4⟩ := fly4.there
      have S4 := J4.suite there4 dat4 na nLoc nOut
      have yes' := yes rfl e na
      rw [ki] at yes'
      apply wpAny_mono ((go e oe4 cls d (X.pn ++ pins) kind4 ⟨_, dat4⟩).run [] _ _ G _ S4 yes') _ (fun _ _ y => False.elim y)
      intro f s6 y
      cases f with
      | ret u =>
        obtain ⟨v, z6, G6, S6, rv, y⟩ := y
        exact ⟨_, _, _, S6.unsuite J.ok, rv, y⟩
      | next =>
        obtain ⟨z6, G6, S6, y⟩ := y
        exact ⟨_, _, S6.unsuite J.ok, y⟩
      | brk =>
        obtain ⟨z6, G6, S6, y⟩ := y
        exact ⟨_, _, S6.unsuite J.ok, y⟩
      | cont =>
        obtain ⟨z6, G6, S6, y⟩ := y
        exact ⟨_, _, S6.unsuite J.ok, y⟩
theorem ps_try_mixed (hs : X.stack = X.env :: X.outer) (hf : X.env.frame = some X.env.locals) (nd : X.N.Nodup) (tk : L2N.Takes X out)
    (hb : ∀ (W : WX) (ps : List (Addr × Obj)) (xe : Value → Shared → Prop), L2N.Takes (X.tr ps xe) W → PassesOwn (model X.prog X.w) X.A X.env xe → PSs (X.tr ps xe) body (tb W))
    (ok : ClmOk X (k₀ :: r) ks) : PS X (.Try body (k₀ :: r) [] [] p) (fun D z G => tb (wClm X.K out D ks) D z G) := by
  constructor
  intro pins s z G D I hh
  have fr : X.A.frames = some (X.env :: X.outer) := by rw [I.ok.frames, hs]
  apply wpAny_Try_except
  have inner := (hb (wClm X.K out D ks) (X.pn ++ pins) (fun v s₁ => wpAny (model X.prog X.w) X.A (noteFrame v X.env) (fun _ s₂ => wpAny (model X.prog X.w) X.A (setFlight v none) (fun _ s₃ =>
    wpAny (model X.prog X.w) X.A (handleBy v X.env (k₀ :: r)) (SP X pins D) X.xe s₃) X.xe s₂) X.xe s₁) ?_ PassesOwn.looking).run [] s z G D (I.toTry _) hh
  · apply wpAny_mono inner _ (fun _ _ y => y)
    intro f s1 y
    cases f with
    | ret u =>
      obtain ⟨v, z1, G1, J, rv, y⟩ := y
      exact ⟨v, z1, G1, J.ofTry I.ok, rv, y⟩
    | next =>
      obtain ⟨z1, G1, J, y⟩ := y
      exact wpAny_execs_nil ⟨z1, G1, J.ofTry I.ok, y⟩
    | brk =>
      obtain ⟨z1, G1, J, y⟩ := y
      exact ⟨z1, G1, J.ofTry I.ok, y⟩
    | cont =>
      obtain ⟨z1, G1, J, y⟩ := y
      exact ⟨z1, G1, J.ofTry I.ok, y⟩
  · intro u s1 xx
    obtain ⟨e, B, sI, pins', z1, G1, cls, d, rfl, J', nb, up, sky, na, os, bare, w⟩ := xx
    have J : Inv X pins z1 G1 sI := J'.ofTry I.ok
    have sky1 : Sky B (X.env :: X.outer) e (L2N.Zn cls d) X.env.locals s1.heap := hs ▸ sky
    show wpAny (model X.prog X.w) X.A (noteFrame (.ref e) X.env) _ _ _
    apply L2N.Sky.land L2N.Zn.steady fr hf sky1
    intro h3 fly up3
    exact clm_run hs hf nd tk J nb (up.trans up3) os bare na fly ok w
end
end Hb
set_option maxHeartbeats 1000000
/-! k42: a pile asked -/
namespace Hb
open PySem PySem.Spec PyProof.Rows L2 NdefX
theorem takesN0 {X : Cx} : L2N.Takes X (fun _ _ _ _ => False) := by
  rintro _ _ ⟨_, _, _, _, _, _, _, _, _, _, _, _, _, _, _, _, y⟩
  exact y.elim
theorem passesTN {X : Cx} {W : WX} {E : XK} (tk : L2N.Takes X W) (hW : ∀ cls d σ H, σ.length = X.N.length → E cls d H → W cls d σ H) : Passes (L2N.CX X.prog X.w) X E :=
  fun _ σ _ _ e s' I c => tk e s' (L2N.XE.of_call I (fun cls d H' h => hW cls d σ H' I.len h) c)
/-- what is looked at of the error -/
structure AskP (K : PySem.W.Frag) (mg : Str → Option Value) (BP : Addr) : Prop where
  gl : mg "BadPile" = some (.ref BP)
  xf : XfC K BP
  no : PySem.W.findIn K (.ref BP) "index" = some none
  exm : PySem.W.exmOne K (.ref BP) (.ref BP) = some true
def spAskedP (K : PySem.W.Frag) : Sp := fun vs H Q _ => ∃ (v : V) (d : PyData) (ds : List PyData), vs = [v] ∧ De K H v d ∧ sqOf d = some ds ∧ (∀ x ∈ ds, LzOk x) ∧ wt d ≤ 8000000 ∧ ds.length ≤ 10 ∧
  (∀ i, BadAt ds i → ∀ (t : Addr) (H' : Hp), H' t = some (.tup [.str "BadPile", .int (i : Nat)]) → Kp [] H H' → Q (.ref t) H') ∧
  ∀ ls, ds.map layOf = ls.map some → ls.Nodup → ∀ (t l p q r : Addr) (cs ws : List Str) (xs : List V) (H' : Hp), H' t = some (.tup [.str "told", .ref l]) → H' l = some (.lst [.ref p, .ref q, .ref r]) → H' p = some (.lst (cs.map V.str)) → H' q = some (.lst (ws.map V.str)) → H' r = some (.lst xs) →
    PrsA K H' xs ((gridP cs ws).filter fun x => decide (x ∈ behP ls)) → cs.Perm (cellsOf ls) → sortedS cs = true → ws.Perm (waysOf ls) → sortedS ws = true → Kp [] H H' → Q (.ref t) H'
section
variable {P : Program} {w : World} {K : PySem.W.Frag} {mg : Str → Option Value} {base : Heap} {f f1 f2 f3 f4 C BP : Addr} {fd fd1 fd2 fd3 fd4 : FuncData}
end
end Hb
set_option maxHeartbeats 1000000
/-! k42: the squares behind, counted one way and the other -/
namespace Hb
open PySem PySem.Spec PyProof.Rows L2
theorem pk_inj {p q : Str × Str} (h : pk p = pk q) : p = q := by rw [← keyP_pk p, ← keyP_pk q, h]
theorem po_unique : ∀ {xs ys : List (Str × Str)}, xs.Pairwise (fun a b => pLt b a = false) → ys.Pairwise (fun a b => pLt b a = false) → xs.Perm ys → xs = ys
  | [], ys, _, _, p => (List.nil_perm.mp p).symm
  | x :: xs, [], _, _, p => absurd p.symm (by simp)
  | x :: xs, y :: ys, a, b, p => by
    obtain ⟨a1, a2⟩ := List.pairwise_cons.mp a
    obtain ⟨b1, b2⟩ := List.pairwise_cons.mp b
    have e : x = y := by
      rcases List.mem_cons.mp (p.mem_iff.mp List.mem_cons_self) with q | q
      · exact q
      · rcases List.mem_cons.mp (p.mem_iff.mpr (List.mem_cons_self (a := y) (l := ys))) with r | r
        · exact r.symm
        · exact pk_inj (PrO.total _ _ (b1 x q) (a1 y r))
    subst e
    rw [po_unique a2 b2 p.cons_inv]
theorem pLt_eq (p q : Str × Str) : pLt p q = (decide (p.1.cps.toList < q.1.cps.toList) || (!decide (q.1.cps.toList < p.1.cps.toList) && (decide (p.2.cps.toList < q.2.cps.toList) || (!decide (q.2.cps.toList < p.2.cps.toList) && false)))) := rfl
theorem grid_sorted {cs ws : List Str} (hc : cs.Pairwise fun a b => ¬ b.cps.toList < a.cps.toList) (nc : cs.Nodup) (hw : ws.Pairwise fun a b => ¬ b.cps.toList < a.cps.toList) : (gridP cs ws).Pairwise (fun a b => pLt b a = false) := by
  unfold gridP
  refine List.pairwise_flatMap.mpr ⟨fun c _ => ?_, ?_⟩
  · refine List.pairwise_map.mpr (hw.imp fun {a b} h => ?_)
    rw [pLt_eq]
    simp only [decide_eq_false h, decide_eq_false (List.lt_irrefl c.cps.toList)]
    simp
  · refine (hc.and nc).imp fun {a b} h x hx y hy => ?_
    obtain ⟨u, _, rfl⟩ := List.mem_map.mp hx
    obtain ⟨v, _, rfl⟩ := List.mem_map.mp hy
    rw [pLt_eq]
    have h1 := h.1
    have h2 : a.cps.toList < b.cps.toList := by
      rcases Classical.em (a.cps.toList < b.cps.toList) with z | z
      · exact z
      · exact absurd (str_ext (List.le_antisymm (List.not_lt.mp h1) (List.not_lt.mp z))) h.2
    simp only [decide_eq_false h1, decide_eq_true h2]
    rfl
theorem grid_nodup {cs ws : List Str} (nc : cs.Nodup) (nw : ws.Nodup) : (gridP cs ws).Nodup := by
  unfold gridP
  refine List.pairwise_flatMap.mpr ⟨fun c _ => ?_, ?_⟩
  · exact List.pairwise_map.mpr (nw.imp fun {a b} h z => h (by injection z))
  · refine nc.imp fun {a b} h x hx y hy z => ?_
    obtain ⟨u, _, rfl⟩ := List.mem_map.mp hx
    obtain ⟨v, _, rfl⟩ := List.mem_map.mp hy
    exact h (by injection z)
theorem cell_way (c w : Str) : cL c ≠ wL w := fun z => by
  have := congrArg Prod.fst z
  exact absurd (show ("cell" : Str) = "way" from this) (by decide +kernel)
theorem waysOf_snoc (ls : List (Str × Str)) (l : Str × Str) : waysOf (ls ++ [l]) = waysOf ls ++ (if l.1 = ("way" : Str) then [l.2] else []) := by
  unfold waysOf
  rw [List.filter_append, List.map_append, List.filter_cons]
  by_cases e : l.1 = ("way" : Str)
  · rw [if_pos (decide_eq_true e), if_pos e]
    rfl
  · rw [if_neg (fun z => e (of_decide_eq_true z)), if_neg e]
    rfl
/-- what the law counts is what the program counts -/
theorem behS_all : ∀ (n : Nat) (ls : List (Str × Str)), ls.length = n → ls.Nodup → (∀ l ∈ ls, okLay l) → (behS ls).2 = waysOf ls ∧ (behS ls).1.Nodup ∧ ∀ x, x ∈ (behS ls).1 ↔ cL x.1 ∈ ls ∧ wL x.2 ∈ ls ∧ ls.idxOf (wL x.2) < ls.idxOf (cL x.1) := by
  intro n
  induction n with
  | zero =>
    intro ls h _ _
    obtain rfl := List.length_eq_zero_iff.mp h
    exact ⟨rfl, List.nodup_nil, fun x => ⟨fun z => absurd z List.not_mem_nil, fun z => absurd z.1 List.not_mem_nil⟩⟩
  | succ n ih =>
    intro ms h nd ok
    obtain ⟨ls, l, rfl⟩ : ∃ ms' l, ms = ms' ++ [l] := ⟨ms.dropLast, ms.getLast (fun z => by rw [z] at h; cases h), (List.dropLast_concat_getLast _).symm⟩
    have h' : ls.length = n := by simpa using h
    have nd2 : ls.Nodup := (List.nodup_append.mp nd).1
    have nl : l ∉ ls := fun m => (List.nodup_append.mp nd).2.2 l m l (by simp) rfl
    obtain ⟨e2, n1, mem⟩ := ih ls h' nd2 fun x m => ok x (List.mem_append_left _ m)
    have okl := ok l (by simp)
    have ixIn : ∀ y ∈ ls, (ls ++ [l]).idxOf y = ls.idxOf y := fun y m => by rw [List.idxOf_append, if_pos m]
    have ixL : (ls ++ [l]).idxOf l = ls.length := by
      rw [List.idxOf_append, if_neg nl]
      simp
    have lt : ∀ y ∈ ls, ls.idxOf y < ls.length := fun y m => List.idxOf_lt_length_of_mem m
    rw [behS_snoc]
    unfold behF
    by_cases e : l.1 = ("way" : Str)
    · rw [if_pos e]
      refine ⟨by rw [waysOf_snoc, if_pos e, e2], n1, fun x => ?_⟩
      have el : l = wL l.2 := Prod.ext e rfl
      rw [mem]
      constructor
      · rintro ⟨a, b, c⟩
        exact ⟨List.mem_append_left _ a, List.mem_append_left _ b, by rw [ixIn _ a, ixIn _ b]; exact c⟩
      · rintro ⟨a, b, c⟩
        have a' : cL x.1 ∈ ls := by
          rcases List.mem_append.mp a with m | m
          · exact m
          · exact absurd ((List.mem_singleton.mp m).trans el) (cell_way _ _)
        rcases List.mem_append.mp b with m | m
        · exact ⟨a', m, by rw [ixIn _ a', ixIn _ m] at c; exact c⟩
        · rw [List.mem_singleton.mp m, ixL, ixIn _ a'] at c
          exact absurd c (by have := lt _ a'; omega)
    · rw [if_neg e]
      have el : l = cL l.2 := Prod.ext (okl.1.resolve_right e) rfl
      refine ⟨by rw [waysOf_snoc, if_neg e, List.append_nil]; exact e2, ?_, fun x => ?_⟩
      · refine List.nodup_append.mpr ⟨n1, ?_, fun a ha b hb z => ?_⟩
        · rw [e2]
          exact List.pairwise_map.mpr ((waysOf_nd nd2).imp fun {a b} h z => h (by injection z))
        · obtain ⟨v, _, rfl⟩ := List.mem_map.mp hb
          rw [z] at ha
          exact nl (by rw [el]; exact ((mem _).mp ha).1)
      · rw [List.mem_append, mem]
        constructor
        · rintro (⟨a, b, c⟩ | m)
          · exact ⟨List.mem_append_left _ a, List.mem_append_left _ b, by rw [ixIn _ a, ixIn _ b]; exact c⟩
          · obtain ⟨v, hv, rfl⟩ := List.mem_map.mp m
            rw [e2] at hv
            have mv : wL v ∈ ls := mem_waysOf.mp hv
            refine ⟨List.mem_append_right _ (by rw [← el]; simp), List.mem_append_left _ mv, ?_⟩
            show (ls ++ [l]).idxOf (wL v) < (ls ++ [l]).idxOf (cL l.2)
            rw [← el, ixL, ixIn _ mv]
            exact lt _ mv
        · rintro ⟨a, b, c⟩
          have b' : wL x.2 ∈ ls := by
            rcases List.mem_append.mp b with m | m
            · exact m
            · exact absurd ((List.mem_singleton.mp m).trans el).symm (cell_way _ _)
          rcases List.mem_append.mp a with m | m
          · exact .inl ⟨m, b', by rw [ixIn _ m, ixIn _ b'] at c; exact c⟩
          · refine .inr (List.mem_map.mpr ⟨x.2, by rw [e2]; exact mem_waysOf.mpr b', ?_⟩)
            have := List.mem_singleton.mp m
            rw [el] at this
            have := congrArg Prod.snd this
            exact Prod.ext this.symm rfl
theorem mem_behP {ls : List (Str × Str)} {x : Str × Str} : x ∈ behP ls ↔ cL x.1 ∈ ls ∧ wL x.2 ∈ ls ∧ ls.idxOf (wL x.2) < ls.idxOf (cL x.1) := by
  unfold behP ahead
  rw [List.mem_filter, mem_gridP, mem_cellsOf, mem_waysOf, decide_eq_true_iff, and_assoc]
theorem squares_eq {ls : List (Str × Str)} {cs ws : List Str} {qs : List (Str × Str)} (nd : ls.Nodup) (ok : ∀ l ∈ ls, okLay l) (p1 : cs.Perm (cellsOf ls)) (s1 : sortedS cs = true) (p2 : ws.Perm (waysOf ls)) (s2 : sortedS ws = true)
    (pq : qs.Perm (behS ls).1) (sq : qs.Pairwise fun a b => pLt b a = false) : qs = (gridP cs ws).filter fun x => decide (x ∈ behP ls) := by
  obtain ⟨_, n1, mem⟩ := behS_all _ ls rfl nd ok
  have nc : cs.Nodup := p1.nodup_iff.mpr (cellsOf_nd nd)
  have nw : ws.Nodup := p2.nodup_iff.mpr (waysOf_nd nd)
  refine po_unique sq ((grid_sorted (sorted_pair s1) nc (sorted_pair s2)).filter _) (pq.trans ?_)
  refine (List.perm_ext_iff_of_nodup n1 ((grid_nodup nc nw).filter _)).mpr fun x => ?_
  rw [mem, List.mem_filter, mem_gridP, decide_eq_true_iff, mem_behP, p1.mem_iff, p2.mem_iff, mem_cellsOf, mem_waysOf]
  exact ⟨fun h => ⟨⟨h.1, h.2.1⟩, h⟩, fun h => h.2⟩
/-- layers that are those of some cells and ways, in another order -/
theorem cellsOf_lay (cs ws : List Str) : cellsOf (layL cs ws) = cs ∧ waysOf (layL cs ws) = ws := by
  have a : ∀ xs : List Str, (xs.map cL).filter (fun l : Str × Str => decide (l.1 = ("cell" : Str))) = xs.map cL := fun xs => List.filter_eq_self.mpr fun l m => by
    obtain ⟨c, _, rfl⟩ := List.mem_map.mp m
    exact decide_eq_true rfl
  have b : ∀ xs : List Str, (xs.map wL).filter (fun l : Str × Str => decide (l.1 = ("cell" : Str))) = [] := fun xs => List.filter_eq_nil_iff.mpr fun l m z => by
    obtain ⟨c, _, rfl⟩ := List.mem_map.mp m
    exact absurd (of_decide_eq_true z) (show ¬ (("way" : Str) = "cell") by decide +kernel)
  have c : ∀ xs : List Str, (xs.map cL).filter (fun l : Str × Str => decide (l.1 = ("way" : Str))) = [] := fun xs => List.filter_eq_nil_iff.mpr fun l m z => by
    obtain ⟨c, _, rfl⟩ := List.mem_map.mp m
    exact absurd (of_decide_eq_true z) (show ¬ (("cell" : Str) = "way") by decide +kernel)
  have d : ∀ xs : List Str, (xs.map wL).filter (fun l : Str × Str => decide (l.1 = ("way" : Str))) = xs.map wL := fun xs => List.filter_eq_self.mpr fun l m => by
    obtain ⟨c, _, rfl⟩ := List.mem_map.mp m
    exact decide_eq_true rfl
  have i1 : ∀ xs : List Str, (xs.map cL).map (·.2) = xs := fun xs => by rw [List.map_map]; exact List.map_id _
  have i2 : ∀ xs : List Str, (xs.map wL).map (·.2) = xs := fun xs => by rw [List.map_map]; exact List.map_id _
  unfold cellsOf waysOf layL
  rw [List.filter_append, List.filter_append, a, b, c, d, List.append_nil, List.nil_append, i1, i2]
  exact ⟨rfl, rfl⟩
theorem lay_nodup {cs ws : List Str} (nc : cs.Nodup) (nw : ws.Nodup) : (layL cs ws).Nodup := by
  unfold layL
  refine List.nodup_append.mpr ⟨List.pairwise_map.mpr (nc.imp fun {a b} h z => h (by injection z)), List.pairwise_map.mpr (nw.imp fun {a b} h z => h (by injection z)), fun a ha b hb z => ?_⟩
  obtain ⟨c, _, rfl⟩ := List.mem_map.mp ha
  obtain ⟨d, _, rfl⟩ := List.mem_map.mp hb
  exact cell_way _ _ z
theorem prsA_perm {K : PySem.W.Frag} {H : Hp} {us vs : List V} (p : us.Perm vs) : ∀ {L : List (Str × Str)}, PrsA K H vs L → ∃ L', PrsA K H us L' ∧ L'.Perm L := by
  induction p with
  | nil => exact fun {L} h => ⟨L, h, List.Perm.refl _⟩
  | cons x _ ih =>
    intro L h
    cases h with
    | cons a b =>
      obtain ⟨L', h1, h2⟩ := ih b
      exact ⟨_ :: L', .cons a h1, h2.cons _⟩
  | swap x y l =>
    intro L h
    cases h with
    | cons a b =>
      cases b with
      | cons b c => exact ⟨_, .cons b (.cons a c), List.Perm.swap _ _ _⟩
  | trans _ _ i1 i2 =>
    intro L h
    obtain ⟨L1, h1, p1⟩ := i2 h
    obtain ⟨L2, h2, p2⟩ := i1 h1
    exact ⟨L2, h2, p2.trans p1⟩
end Hb
set_option maxHeartbeats 4000000
/-! an attribute as one of several targets; del xs[i:]; d.update(e) -/
namespace Hb
open PySem PySem.Spec PyProof.Rows L2
section
variable {X : Cx} {o : Expr} {ta : TE} {f : Str} {pos : Pos}
/-- o.f as a target -/
def gFld (K : PySem.W.Frag) (ta : TE) (f : Str) : TG := fun v σ H N => ta σ H fun x H1 => ∃ a C dx fs, x = .ref a ∧ H1 a = some (.ins C dx fs) ∧ Cls K C ∧ NoAttr K C f ∧ fs.length < 1000 ∧ N σ (upd H1 a (.ins C dx (putF f v fs)))
theorem pg_fld (ho : PE X o ta)
    (ha : ∀ v, assign (.Attribute o f pos) X.env v = (do
      let ov ← holding [v] (eval o X.env)
      standAt pos.atName
      holding [v, ov] (setAttr ov f v)
      release [v, ov] []) := by intro _; rfl) : PG X (.Attribute o f pos) (gFld X.K ta f) := by
  constructor
  intro pins s σ H v u Q I r h
  rw [ha]
  apply wpAny_bind
  apply wpAny_holding
  refine thn (ho.run pins s σ H _ I h) ?_
  rintro ov s1 ⟨x, H1, I1, r1, a, C, dx, fs, rfl, ea, c, n, l, q1⟩
  obtain rfl : ov = Value.ref a := r1
  apply wpAny_bind
  apply wpAny_standAt
  apply wpAny_bind
  apply wpAny_holding
  refine setattr_ok I1 ea c n l r fun s2 I2 => ?_
  exact wpAny_release ⟨σ, _, I2, q1⟩
end
/-! ### del xs[i:] -/
theorem keep_head (p : Nat → Bool) (a : Nat) : ∀ (xs : List Value) (b : Nat), (∀ k, k < b + xs.length → p k = decide (a ≤ k)) → ((xs.zipIdx b).filterMap fun e => if p e.2 = true then none else some e.1) = xs.take (a - b)
  | [], b, _ => by simp
  | x :: xs, b, h => by
    have ih := keep_head p a xs (b + 1) fun k hk => h k (by simp only [List.length_cons]; omega)
    have hb := h b (by simp only [List.length_cons]; omega)
    rw [List.zipIdx_cons, List.filterMap_cons]
    by_cases c : a ≤ b
    · have e1 : a - b = 0 := by omega
      have e2 : a - (b + 1) = 0 := by omega
      rw [hb, decide_eq_true c]
      simp only [if_true]
      rw [ih, e1, e2, List.take_zero, List.take_zero]
    · have e1 : a - b = (a - (b + 1)) + 1 := by omega
      rw [hb, decide_eq_false c]
      simp only [Bool.false_eq_true, if_false]
      rw [ih, e1, List.take_succ_cons]
section
variable {prog : Program} {w : World} {A : Around} {E : Value → Shared → Prop} {s : Shared}
theorem bounds_tail {a n : Nat} : sliceBounds (some (a : Int)) none none n = (((min a n : Nat) : Int), (n : Int), 1) := by
  simp only [sliceBounds, Option.getD_none]
  have h1 : ¬ ((a : Int) < 0) := by omega
  simp only [h1, if_false, show (1 : Int) > 0 by decide, if_true]
  congr 1
  omega
theorem delItem_tail {l sl : Addr} {its : List Value} {n : Nat} {vl vu : Value} {a : Nat} {Q : Unit → Shared → Prop}
    (e : s.heap.get? l = some { cls := .type "list", data := .seq its.toArray n }) (hs : s.heap.IsSliceOf sl vl vu .none) (pl : IsPart vl (some (a : Int))) (pu : IsPart vu none) (hz : its.length ≤ sizeLine)
    (h : ∀ g : Array Value → Array Value, g its.toArray = (its.take a).toArray → Q () { s with heap := s.heap.update l (Obj.mapSeq g) }) : wpAny (model prog w) A (delItem (.ref l) (.ref sl)) Q E s := by
  have hl : s.heap.IsList l its.toArray := PySem.IsL.isList e
  obtain ⟨os, hos, hcs, hds⟩ := id hs
  have hTs : s.TypeIs (.ref sl) "slice" := ⟨os, hos, hcs⟩
  have hstep : ¬ ((rawPart none == rawInt 0) = true) := Bool.false_ne_true
  unfold delItem
  apply wpAny_holding
  apply wpAny_bind
  apply wpAny_sequenceKey hl.typeIs (by decide)
  apply wpAny_bind
  refine wpAny_callSpecial?_slot (name := Str.ofString "__delitem__") hl.typeIs F.slot_list_delitem ?_
  refine wpAny_call_entry F.slot_list_delitem hl.typeIs F.entry_list_delitem ?_ (F.args_list_delitem_2 _ _)
  show wpAny _ _ (Builtin.List.listSubscript? (.ref sl) >>= _) _ _ s
  apply wpAny_bind
  unfold Builtin.List.listSubscript?
  apply wpAny_bind
  refine wpAny_specialOf hTs slice_no_index ?_
  simp only [Option.isNone_none, if_true]
  apply wpAny_pure
  show wpAny _ _ (typeOf (.ref sl) >>= _) _ _ s
  apply wpAny_bind
  refine wpAny_typeOf hTs ?_
  rw [if_neg (by decide)]
  rw [listSliceParts_eq]
  apply wpAny_bind
  apply wpAny_bind
  refine wpAny_field hos hds (x := .none) rfl (wpAny_bind (wpAny_listPart .none ?_))
  rw [if_neg hstep]
  apply wpAny_bind
  refine wpAny_field hos hds (x := vl) rfl (wpAny_bind (wpAny_listPart pl ?_))
  apply wpAny_bind
  refine wpAny_field hos hds (x := vu) rfl (wpAny_bind (wpAny_listPart pu (wpAny_pure ?_)))
  dsimp only
  unfold Builtin.List.listItems
  apply wpAny_bind
  apply wpAny_bind
  refine wpAny_seqItems e rfl (wpAny_pure ?_)
  apply wpAny_bind
  refine wpAny_of_eq ((sliceIndices_raw (some (a : Int)) none none its.toArray.size (by simp)).trans (congrArg (pure : Int × Int × Int → Sem (Int × Int × Int)) bounds_tail)) ?_
  apply wpAny_bind
  apply wpAny_rule
  have sel : ∀ p : Nat → Bool, (∀ k, k < its.length → p k = decide (a ≤ k)) → (((its.toArray.toList.zipIdx).filterMap fun e => if p e.2 = true then none else some e.1).toArray : Array Value) = (its.take a).toArray := fun p hp => by
    have := keep_head p a its 0 (by intro k hk; exact hp k (by omega))
    rw [Nat.sub_zero] at this
    exact congrArg List.toArray this
  have num : ∀ k, k < its.length → (if (1 : Int) > 0 then (decide (((min a its.toArray.size : Nat) : Int) ≤ (k : Int)) && decide ((k : Int) < ((its.toArray.size : Nat) : Int)) && (((k : Int) - ((min a its.toArray.size : Nat) : Int)) % 1 == 0)) else (decide (((its.toArray.size : Nat) : Int) < (k : Int)) && decide ((k : Int) ≤ ((min a its.toArray.size : Nat) : Int)) && ((((min a its.toArray.size : Nat) : Int) - (k : Int)) % (-1) == 0))) = decide (a ≤ k) := fun k hk => by
    rw [if_pos (by decide), List.size_toArray, decide_eq_true (show (k : Int) < (its.length : Int) by omega), Int.emod_one, show ((0 : Int) == 0) = true from rfl, Bool.and_true, Bool.and_true]
    exact decide_eq_decide.mpr (by omega)
  have sz : (its.take a).length ≤ sizeLine + 1 := by rw [List.length_take]; omega
  apply wpAny_bind
  show wpAny _ _ (updateSeq l _) _ _ s
  refine wpAny_updateSeq (hz := by rw [List.size_toArray]; exact hz) (_hz' := ?sz) e rfl ?go
  case go =>
    apply wpAny_bind
    apply wpAny_letGo
    refine wpAny_bind (wpAny_pure (wpAny_pure ⟨.none, rfl, wpAny_pure (h _ ?_)⟩))
    refine sel _ ?_
    exact num
  case sz =>
    refine Nat.le_trans (Nat.le_of_eq (congrArg Array.size (a₂ := (its.take a).toArray) ?z)) ?y
    case z =>
      refine sel _ ?_
      exact num
    case y =>
      rw [List.size_toArray]
      exact sz
end
section
variable {X : Cx} {o : Expr} {to : TE}
def tDelTail (to : TE) (tl th : L2.St → Hp → (Option Int → Hp → Prop) → Prop) : TS := fun D σ H => to σ H fun x H1 => tl σ H1 fun lo H2 => th σ H2 fun hi H3 => ∃ (l : Addr) (xs : List V) (i : Nat), x = .ref l ∧ lo = some (i : Int) ∧ hi = none ∧ H3 l = some (.lst xs) ∧ D.nx σ (upd H3 l (.lst (xs.take i)))
theorem ps_delTail {lo hi : Option Expr} {tl th : L2.St → Hp → (Option Int → Hp → Prop) → Prop} {p2 tpos pos : Pos} (ho : PE X o to) (hl : PO X lo tl) (hu : PO X hi th) : PS X (.Delete [.Subscript o (.Slice lo hi none p2) tpos] pos) (tDelTail to tl th) := by
  constructor
  intro pins s σ H D I h
  apply wpAny_Delete
  apply wpAny_deleteEach_cons
  apply wpAny_delete_Subscript
  refine thn (ho.run pins s σ H _ I h) ?_
  rintro u s1 ⟨x, H1, I1, rx, q1⟩
  apply wpAny_Slice
  refine thn (hl.run pins s1 σ H1 _ I1 q1) ?_
  rintro vl s2 ⟨lo', H2, I2, pl, q2⟩
  refine thn (hu.run pins s2 σ H2 _ I2 q2) ?_
  rintro vu s3 ⟨hi', H3, I3, pu, l, xs, i, rfl, rfl, rfl, hH, q3⟩
  obtain rfl : u = Value.ref l := rx
  rw [evalPart_none]
  apply wpAny_pure
  have I4 : Inv X pins σ H3 { s3 with heap := s3.heap.push { cls := .type "slice", data := .fields #[vl, vu, .none] } } := I3.kept (t' := s3.toks) fun b ob q => Heap.get?_push_of_some _ q
  obtain ⟨z, its, n, r, hlen, e⟩ := I4.lstM hH
  refine delItem_tail (a := i) e (Heap.IsSliceOf.new ..) pl pu (by omega) fun g hg => ?_
  apply wpAny_deleteEach_nil
  refine ⟨σ, _, I4.lset (its' := its.take i) (t' := s3.toks) hH e hg (r.take _) ?_, q3⟩
  rw [List.length_take]
  omega
end
/-! ### d.update(e) -/
section
variable {X : Cx}
def rUpdate : V → List V → Hp → VK → Prop := fun x vs H Q => ∃ (a b : Addr) (kvs more : List (Key × V)), x = .ref a ∧ vs = [.ref b] ∧ a ≠ b ∧ H a = some (.dK kvs) ∧ Rd H b (.dK more) ∧ kvs.length + more.length ≤ sizeLine ∧ (mergeK kvs more).length ≤ sizeLine ∧ Q .non (upd H a (.dK (mergeK kvs more)))
theorem mt_update : MtR X "dict.update" rUpdate := by
  intro pins s σ H x vs v us Q I rx rv h
  obtain ⟨a, b, kvs, more, rfl, rfl, ne, ea, eb, hz, hz2, q⟩ := h
  obtain rfl : v = Value.ref a := rx
  rw [Vals.ref1 rv]
  obtain ⟨z, hd, ks, rel, dd⟩ := dk_of I.hok ea
  obtain ⟨z2, hd2, ms, rel2, dd2⟩ := dk_rd I.hok eb
  refine call_meetsIn PySem.F.slot_dict_update dd.typeIs PySem.F.entry_dict_update (PySem.F.args_dict_update_2 _ _) (meets_dict_update (mixKind X.prog X.w) a b ne hd2) ⟨ks, ms, dd, dd2, by rw [← rel.length, ← rel2.length]; exact hz, fun h' dd' _ hs => ?_⟩
  have he : ∃ o, h'.get? a = some o := let ⟨o, _, _, ho, _⟩ := dd'; ⟨o, ho⟩
  exact ⟨.non, _, d_write (t' := s.toks) I (by rw [ea]; exact True.intro) hs he (dk_new hz2 hd (KV.merge rel2 rel) dd'), rfl, q⟩
end
end Hb
set_option maxHeartbeats 4000000
/-! a tuple times an int, any of them -/
namespace Hb
open PySem PySem.Spec PyProof.Rows L2
theorem tuple_mul1 (l : Addr) (items : Array Value) (n : Nat) (dd : Option Addr) (sl : Array (Option Value)) (x : Int) (u : Tok) (c0 : (decide (x < -(2 ^ 63)) || decide (x ≥ 2 ^ 63)) = false) (c1 : (items.isEmpty || x == 1) = true) :
    Meets (Builtin.«tuple.__mul__» ⟨[.ref l, .int x u], []⟩) (fun _ R s => s.heap.get? l = some { cls := .type "tuple", dict := dd, data := .seq items n, slots := sl } ∧ R (.ok (.ret (Value.ref l))) s) :=
  .of_wp fun prog w A R s h => by
    obtain ⟨hp, g, d, tk, os⟩ := s
    obtain ⟨hl, h⟩ := h
    have f1 := AutoSeq1.idx_int
    wp_walk using wpAny_loadPart' hl
    repeat (first
      | (refine wpAny_ite_false (decide_eq_false (by rw [c0]; exact Bool.false_ne_true)) ?_; wp_walk using wpAny_loadPart' hl)
      | (refine wpAny_ite_true (decide_eq_true (by rw [c1])) ?_; wp_walk using wpAny_loadPart' hl)
      | (refine wpAny_ite_true (decide_eq_true (by decide)) ?_; wp_walk using wpAny_loadPart' hl))
    exact ⟨_, rfl, h⟩
theorem tuple_mul0 (l : Addr) (items : Array Value) (n : Nat) (dd : Option Addr) (sl : Array (Option Value)) (x : Int) (u : Tok) (c0 : (decide (x < -(2 ^ 63)) || decide (x ≥ 2 ^ 63)) = false) (c1 : (items.isEmpty || x == 1) = false) (c2 : (decide (x ≤ 0) || items.isEmpty) = true) :
    Meets (Builtin.«tuple.__mul__» ⟨[.ref l, .int x u], []⟩) (fun _ R s => s.heap.get? l = some { cls := .type "tuple", dict := dd, data := .seq items n, slots := sl } ∧
      R (.ok (.ret (Value.ref s.heap.objs.size))) { s with heap := s.heap.push { cls := Value.type "tuple", data := Data.seq #[] }, toks := s.toks }) :=
  .of_wp fun prog w A R s h => by
    obtain ⟨hp, g, d, tk, os⟩ := s
    obtain ⟨hl, h⟩ := h
    have f1 := AutoSeq1.idx_int
    wp_walk using wpAny_loadPart' hl
    repeat (first
      | (refine wpAny_ite_false (decide_eq_false (by rw [c0]; exact Bool.false_ne_true)) ?_; wp_walk using wpAny_loadPart' hl)
      | (refine wpAny_ite_false (decide_eq_false (by rw [c1]; exact Bool.false_ne_true)) ?_; wp_walk using wpAny_loadPart' hl)
      | (refine wpAny_ite_true (decide_eq_true (by rw [c2])) ?_; wp_walk using wpAny_loadPart' hl))
    exact ⟨_, rfl, h⟩
def rRepA (K : PySem.W.Frag) : R2 := fun x y H Q => ∃ l k xs, x = .ref l ∧ y = .int k ∧ SqT K H l xs ∧ 0 ≤ k ∧ k ≤ 1000 ∧ (2 ≤ k → xs.length * k.toNat ≤ 4000000) ∧ ∀ (p : Addr) (H' : Hp), Kp [] H H' → SqT K H' p (List.replicate k.toNat xs).flatten → Q (.ref p) H'
section
variable {X : Cx}
theorem op_repA : OpR X (binaryOp .Mult) (rRepA X.K) := by
  intro pins s σ H x y v u Q I rx ry h
  obtain ⟨l, k, xs, rfl, rfl, hT, h1, h2, hz, q⟩ := h
  cases rx
  obtain ⟨t, rfl⟩ := ry
  obtain ⟨its, r, ⟨⟨cls, dd, data, sl⟩, ho, hc, n, hd⟩, hs⟩ := I.tuple hT
  simp only at hc hd
  subst hc hd
  have hle : its.length = xs.length := r.length.symm
  have hi : its.toArray.isEmpty = decide (xs = []) := by
    cases its with
    | nil =>
      rw [List.eq_nil_of_length_eq_zero (show xs.length = 0 from hle.symm)]
      rfl
    | cons a b =>
      have : xs ≠ [] := fun e => by rw [e] at hle; cases hle
      rw [decide_eq_false this]
      rfl
  have c0 : (decide (k < -(2 ^ 63)) || decide (k ≥ 2 ^ 63)) = false := by
    rw [decide_eq_false (by omega), decide_eq_false (by omega)] <;> rfl
  by_cases big : xs ≠ [] ∧ 2 ≤ k
  · obtain ⟨hne, h2k⟩ := big
    have hz2 := hz h2k
    have hn : its ≠ [] := fun e => hne (by
      rw [e] at hle
      exact List.eq_nil_of_length_eq_zero hle.symm)
    have hi2 : its.toArray.isEmpty = false := by rw [hi]; exact decide_eq_false hne
    have hsz0 : its.toArray.size = xs.length := by rw [List.size_toArray, hle]
    have hm : ((its.toArray.size : Nat) : Int) * k ≤ 4000000 := by
      rw [hsz0]
      have e : k = (k.toNat : Int) := (Int.toNat_of_nonneg h1).symm
      rw [e, ← Int.natCast_mul]
      omega
    have fl : k.toNat * xs.length ≤ 4000000 := by rw [Nat.mul_comm]; exact hz2
    have flen : (List.replicate k.toNat its).flatten.length ≤ sizeLine := by
      rw [PyProof.Rows.lm_len_rep_flat, hle, sizeLine_eq]
      omega
    have e1 : (its.toArray.isEmpty || k == 1) = false := by
      rw [hi2, Bool.false_or]
      exact beq_eq_false_iff_ne.mpr (by omega)
    have e2 : (decide (k ≤ 0) || its.toArray.isEmpty) = false := by
      rw [hi2, Bool.or_false]
      exact decide_eq_false (by omega)
    have e4 : Builtin.Tuple.tupleTooMany (((its.toArray.size : Nat) : Int) * k) = false := by
      unfold Builtin.Tuple.tupleTooMany
      rw [sizeLine_eq]
      exact decide_eq_false (by omega)
    refine wpAny_binaryOp_repeat_ref (T := "tuple") (U := "int") (by decide) ⟨_, ho, rfl⟩ (fun s' => typeIs_int s' k t) noFill_tuple_mul F.fills_int_mul F.slot_int_rmul repeat_tuple F.slot_int_index.lookup
      (call_meets F.slot_int_rmul (typeIs_int s k t) F.entry_int_rmul (F.args_int_rmul_2 _ _) (int_rmul_tuple k t l its.toArray n dd sl)
        ⟨ho, rfl, ⟨_, ho, rfl⟩, call_meets F.slot_tuple_mul ⟨_, ho, rfl⟩ F.entry_tuple_mul (F.args_tuple_mul_2 _ _) (tuple_mulW l its.toArray n dd sl k t c0 e1 e2 (by omega) e4 (by rw [size_rep, List.size_toArray]; exact flen)) ⟨ho, ?_⟩⟩)
    rw [size_rep]
    refine ⟨.ref s.heap.objs.size, _, I.laid (t' := s.toks) (o := .tup (List.replicate k.toNat xs).flatten) (fun b ob q => Heap.get?_push_of_some _ q) (Nat.le_refl _) ?_, rfl, q _ _ ((Kp.refl _ _).new (I.hok.fresh (Nat.le_refl _)) _) (SqT.of upd_same)⟩
    exact ⟨by rw [PyProof.Rows.lm_len_rep_flat, sizeLine_eq]; omega, _, r.rep k.toNat, IsTup.new _ _⟩
  by_cases c1 : xs = [] ∨ k = 1
  · have e1 : (its.toArray.isEmpty || k == 1) = true := by
      rw [hi]
      rcases c1 with z | z
      · rw [decide_eq_true z]; rfl
      · rw [z, Bool.or_eq_true]; exact .inr rfl
    refine wpAny_binaryOp_repeat_ref (T := "tuple") (U := "int") (by decide) ⟨_, ho, rfl⟩ (fun s' => typeIs_int s' k t) noFill_tuple_mul F.fills_int_mul F.slot_int_rmul repeat_tuple F.slot_int_index.lookup
      (call_meets F.slot_int_rmul (typeIs_int s k t) F.entry_int_rmul (F.args_int_rmul_2 _ _) (int_rmul_tuple k t l its.toArray n dd sl)
        ⟨ho, rfl, ⟨_, ho, rfl⟩, call_meets F.slot_tuple_mul ⟨_, ho, rfl⟩ F.entry_tuple_mul (F.args_tuple_mul_2 _ _) (tuple_mul1 l its.toArray n dd sl k t c0 e1) ⟨ho, ?_⟩⟩)
    refine ⟨.ref l, H, I, rfl, q l H (Kp.refl _ _) ?_⟩
    rcases c1 with z | z
    · subst z
      have : (List.replicate k.toNat ([] : List V)).flatten = [] := by induction k.toNat with
        | zero => rfl
        | succ m ih => rw [List.replicate_succ, List.flatten_cons, ih]; rfl
      rw [this]
      exact hT
    · subst z
      have : (List.replicate (1 : Int).toNat xs).flatten = xs := by
        show (List.replicate 1 xs).flatten = xs
        rw [List.replicate_succ, List.flatten_cons]
        exact List.append_nil _
      rw [this]
      exact hT
  · have hx : xs ≠ [] := fun z => c1 (.inl z)
    have k0 : k = 0 := by
      have : ¬ 2 ≤ k := fun z => big ⟨hx, z⟩
      have : k ≠ 1 := fun z => c1 (.inr z)
      omega
    subst k0
    have e1 : (its.toArray.isEmpty || (0 : Int) == 1) = false := by rw [hi, decide_eq_false hx]; rfl
    have e2 : (decide ((0 : Int) ≤ 0) || its.toArray.isEmpty) = true := by rw [decide_eq_true (Int.le_refl 0)]; rfl
    refine wpAny_binaryOp_repeat_ref (T := "tuple") (U := "int") (by decide) ⟨_, ho, rfl⟩ (fun s' => typeIs_int s' 0 t) noFill_tuple_mul F.fills_int_mul F.slot_int_rmul repeat_tuple F.slot_int_index.lookup
      (call_meets F.slot_int_rmul (typeIs_int s 0 t) F.entry_int_rmul (F.args_int_rmul_2 _ _) (int_rmul_tuple 0 t l its.toArray n dd sl)
        ⟨ho, rfl, ⟨_, ho, rfl⟩, call_meets F.slot_tuple_mul ⟨_, ho, rfl⟩ F.entry_tuple_mul (F.args_tuple_mul_2 _ _) (tuple_mul0 l its.toArray n dd sl 0 t c0 e1 e2) ⟨ho, ?_⟩⟩)
    have e : (List.replicate (0 : Int).toNat xs).flatten = [] := rfl
    refine ⟨.ref s.heap.objs.size, _, I.laid (t' := s.toks) (o := .tup []) (fun b ob q => Heap.get?_push_of_some _ q) (Nat.le_refl _) ?_, rfl, q _ _ ((Kp.refl _ _).new (I.hok.fresh (Nat.le_refl _)) _) (SqT.of upd_same)⟩
    exact ⟨by rw [sizeLine_eq]; decide, [], .nil, IsTup.new _ _⟩
end
end Hb
set_option maxHeartbeats 4000000
/-! a list == [], a list != [] -/
namespace Hb
open PySem PySem.Spec PyProof.Rows L2
theorem list_ne_lengths (l b : Addr) (items items2 : Array Value) (n n2 : Nat) (dd dd2 : Option Addr) (sl sl2 : Array (Option Value)) (hc0 : (items.size != items2.size) = true) :
    Meets (Builtin.«list.__ne__» ⟨[.ref l, .ref b], []⟩)
      (fun _ R s => s.heap.get? l = some { cls := .type "list", dict := dd, data := .seq items n, slots := sl } ∧ s.heap.get? b = some { cls := .type "list", dict := dd2, data := .seq items2 n2, slots := sl2 } ∧
        R (.ok (.ret (.bool true))) s) :=
  .of_wp fun prog w A R s h => by
    obtain ⟨hp, g, d, tk, os⟩ := s; obtain ⟨hl, hb, h⟩ := h
    have f3 := AutoSeq1.sub_list_list
    wp_walk using wpAny_loadPart' hl, wpAny_loadPart' hb
    exact ⟨_, rfl, h⟩
def rEqE (f : Bool → Bool) : R2 := fun x y H Q => ∃ (a b : Addr) (xs : List V), x = .ref a ∧ y = .ref b ∧ H a = some (.lst xs) ∧ H b = some (.lst []) ∧ Q (.bl (f xs.isEmpty)) H
section
variable {X : Cx}
theorem op_eqE (hu : X.A.units + 64 < cLine) : OpR X (compareOp .Eq) (rEqE fun b => b) := by
  intro pins s σ H x y v u Q I rx ry h
  obtain ⟨a, b, xs, rfl, rfl, ha, hb, q⟩ := h
  cases xs with
  | nil =>
    exact op_eqD hu pins s σ H _ _ v u Q I rx ry ⟨.list [], .list [], .lst (SqL.of ha) .nil, .lst (SqL.of hb) .nil, by decide +kernel, by decide +kernel, q⟩
  | cons x xs =>
    cases rx
    cases ry
    obtain ⟨z, its, n, r, hl, e⟩ := I.lstM ha
    obtain ⟨z2, its2, n2, r2, hl2, e2⟩ := I.lstM hb
    have hsz : (its.toArray.size != its2.toArray.size) = true := by
      rw [List.size_toArray, List.size_toArray, ← hl, ← hl2]
      rfl
    exact richCompare_meets_room (op := .Eq) ⟨_, e, rfl⟩ ⟨_, e2, rfl⟩ F.slot_list_eq F.entry_list_eq (F.args_list_eq_2 _ _) (PySem.SeqAt.list_eq_lengthsAt a b its.toArray its2.toArray n n2 none none #[] #[] hsz) ⟨e, e2, (fun z => nomatch z), .bl false, H, I, rfl, q⟩ (by omega)
theorem op_neE (hu : X.A.units + 64 < cLine) : OpR X (compareOp .NotEq) (rEqE fun b => !b) := by
  intro pins s σ H x y v u Q I rx ry h
  obtain ⟨a, b, xs, rfl, rfl, ha, hb, q⟩ := h
  cases xs with
  | nil =>
    exact op_neD hu pins s σ H _ _ v u Q I rx ry ⟨.list [], .list [], .lst (SqL.of ha) .nil, .lst (SqL.of hb) .nil, by decide +kernel, by decide +kernel, q⟩
  | cons x xs =>
    cases rx
    cases ry
    obtain ⟨z, its, n, r, hl, e⟩ := I.lstM ha
    obtain ⟨z2, its2, n2, r2, hl2, e2⟩ := I.lstM hb
    have hsz : (its.toArray.size != its2.toArray.size) = true := by
      rw [List.size_toArray, List.size_toArray, ← hl, ← hl2]
      rfl
    exact richCompare_meets_room (op := .NotEq) ⟨_, e, rfl⟩ ⟨_, e2, rfl⟩ F.slot_list_ne F.entry_list_ne (F.args_list_ne_2 _ _) (list_ne_lengths a b its.toArray its2.toArray n n2 none none #[] #[] hsz) ⟨e, e2, (fun z => nomatch z), .bl true, H, I, rfl, q⟩ (by omega)
end
end Hb
set_option maxHeartbeats 4000000
/-! == of dicts with tuple keys -/
namespace Hb
open PySem PySem.W PySem.Calls PyProof.Rows PyProof.V PySem.Spec
section
variable {prog : Program} {w : World} {K : Type} [DecidableEq K] {knd : HeapKind prog w K} {A : Around} {E : Value → Shared → Prop} {s : Shared}
/-- the pairs of the one, looked up in the other: r, whether all are alike -/
inductive HitsH (prog : Program) (w : World) (A : Around) (s : Shared) (kb : List (K × Addr × Value)) : List (K × Addr × Value) → Bool → Prop
  | nil : HitsH prog w A s kb [] true
  | miss {k : K} {p : Addr × Value} {r : List (K × Addr × Value)} : atKey kb k = none → HitsH prog w A s kb ((k, p) :: r) false
  | hit {k : K} {p y : Addr × Value} {r : List (K × Addr × Value)} {e b : Bool} : atKey kb k = some y → SeqAt.EqP prog w A s p.2 y.2 e → HitsH prog w A s kb r b → HitsH prog w A s kb ((k, p) :: r) (e && b)
theorem HitsH.inv {kb : List (K × Addr × Value)} {k : K} {p : Addr × Value} {r : List (K × Addr × Value)} {b : Bool} (h : HitsH prog w A s kb ((k, p) :: r) b) :
    (atKey kb k = none ∧ b = false) ∨ ∃ y e b', atKey kb k = some y ∧ SeqAt.EqP prog w A s p.2 y.2 e ∧ HitsH prog w A s kb r b' ∧ b = (e && b') := by
  cases h with
  | miss hn => exact .inl ⟨hn, rfl⟩
  | hit hy he hr => exact .inr ⟨_, _, _, hy, he, hr, rfl⟩
theorem samePairsH {nm : String} {a b : Addr} {ka kb : List (K × Addr × Value)} {r : Bool} {Q : Bool → Shared → Prop} (hu : knd.room A) (ha : (a == sysModules) = false) (hb : (b == sysModules) = false)
    (da : s.heap.DictOfH knd a ka) (db : s.heap.DictOfH knd b kb) (hits : ka.length = kb.length → HitsH prog w A s kb ka r) (h : Q (ka.length == kb.length && r) s) :
    wpAny (model prog w) A (Builtin.Dict.samePairs nm a b) Q E s := by
  obtain ⟨oa, es, ep, hoa, _, hda, hea, hia, hna⟩ := da
  obtain ⟨ob, es', ep', hob, _, hdb, heb, hib, hnb⟩ := db
  have hla : ka.length = es.size := (size_of_entries hea).symm
  have hlb : kb.length = es'.size := (size_of_entries heb).symm
  rw [hla, hlb] at h
  unfold Builtin.Dict.samePairs Builtin.Dict.showsAll
  rw [if_neg (show ¬ (a == sysModules) = true by rw [ha]; exact Bool.false_ne_true), if_neg (show ¬ (b == sysModules) = true by rw [hb]; exact Bool.false_ne_true)]
  refine wpAny_bind (wpAny_pure (wpAny_bind (wpAny_pure ?_)))
  refine wpAny_bind (wpAny_dictEntries hoa hda ?_)
  dsimp only
  refine wpAny_bind (wpAny_dictEntries hob hdb ?_)
  by_cases hsz : es.size = es'.size
  case neg =>
    rw [if_pos (by simpa using hsz)]
    have hbf : (es.size == es'.size) = false := by simpa using hsz
    rw [hbf, Bool.false_and] at h
    exact wpAny_bind (wpAny_rule (wpAny_pure h))
  case pos =>
    have h' : Q r s := by simpa [hsz] using h
    have hits' := hits (by rw [hla, hlb]; exact hsz)
    rw [if_neg (by rw [hsz]; simp)]
    refine wpAny_bind (wpAny_dictEpoch hoa hda ?_)
    refine wpAny_bind ?_
    rw [Std.Legacy.Range.forIn_eq_forIn_range']
    simp only [Std.Legacy.Range.size, Nat.sub_zero, Nat.add_sub_cancel, Nat.div_one]
    refine wpAny_forIn_list _
      (fun rest q s' => s' = s ∧ q = (none, ()) ∧ ∃ i, rest = List.range' i (es.size - i) ∧ i ≤ es.size ∧ HitsH prog w A s kb (ka.drop i) r)
      _ ?_ ?_ _ _ ⟨rfl, rfl, 0, by simp, Nat.zero_le _, hits'⟩
    · rintro x rest q s' ⟨rfl, rfl, i, hr, hi, hpre⟩
      have hlt : i < es.size := by
        rcases Nat.lt_or_ge i es.size with h | h
        · exact h
        · rw [Nat.sub_eq_zero_of_le h] at hr; simp at hr
      obtain ⟨rfl, hrest⟩ : x = i ∧ rest = List.range' (i + 1) (es.size - (i + 1)) := by
        have e : es.size - i = (es.size - (i + 1)) + 1 := by omega
        rw [e, List.range'_succ] at hr
        injection hr with h1 h2
        exact ⟨h1, h2⟩
      refine wpAny_bind (wpAny_dictEntries hoa hda ?_)
      have hlt' : x < ka.length := by rw [hla]; exact hlt
      obtain ⟨k, c, v, hkv⟩ : ∃ k c v, ka[x] = (k, c, v) := ⟨_, _, _, rfl⟩
      have hdrop : ka.drop x = (k, c, v) :: ka.drop (x + 1) := by rw [← hkv]; exact List.drop_eq_getElem_cons hlt'
      have hent : es[x]? = some (entryOfKey knd (k, c, v)) := by
        rw [entry_at hea x, List.getElem?_eq_getElem hlt', hkv]
        rfl
      rw [hent]
      have hkey : knd.is s'.heap k c := by
        have := hia _ (List.getElem_mem hlt')
        rw [hkv] at this
        exact this
      rw [hdrop] at hpre
      show wpAny _ _ (holding [.ref c, v] _ >>= _) _ _ _
      refine wpAny_bind (wpAny_holding (wpAny_bind (wpAny_dictFind_heap hu hkey hob hdb heb hib hnb ?_ ?_)))
      · intro hno
        have hn : atKey kb k = none := atKey_none_of_get hno
        rcases hpre.inv with ⟨_, er⟩ | ⟨y, _, _, hy, _⟩
        · rw [er] at h'
          refine wpAny_pure ?_
          show wpAny _ _ (if (!false) = true then _ else _) _ _ _
          rw [if_pos (by decide)]
          exact wpAny_pure (wpAny_pure h')
        · rw [hn] at hy; exact nomatch hy
      · intro j p hj
        have hv' : atKey kb k = some p := atKey_of_get hnb hj
        refine wpAny_bind (wpAny_dictEntries hob hdb ?_)
        rw [entry_at heb j, hj]
        rcases hpre.inv with ⟨hn, _⟩ | ⟨y, e, b', hy, he, hrr, er⟩
        · rw [hv'] at hn; exact nomatch hn
        · have ey : p = y := Option.some.inj (hv'.symm.trans hy)
          rw [← ey] at he
          refine wpAny_holding (he _ _ ?_)
          cases e with
          | false =>
            rw [er, Bool.false_and] at h'
            show wpAny _ _ (if (!false) = true then _ else _) _ _ _
            rw [if_pos (by decide)]
            exact wpAny_pure (wpAny_pure h')
          | true =>
            rw [Bool.true_and] at er
            rw [← er] at hrr
            show wpAny _ _ (if (!true) = true then _ else _) _ _ _
            rw [if_neg (by decide)]
            refine wpAny_bind (wpAny_dictEpoch hoa hda ?_)
            rw [if_neg (by simp)]
            exact wpAny_pure ⟨rfl, rfl, x + 1, hrest, hlt, hrr⟩
    · rintro q s' ⟨rfl, rfl, i, hr, hi, hpre⟩
      have hin : i = es.size := by
        rcases Nat.lt_or_ge i es.size with h | h
        · have e : es.size - i = (es.size - (i + 1)) + 1 := by omega
          rw [e, List.range'_succ] at hr; exact nomatch hr
        · exact Nat.le_antisymm hi h
      refine wpAny_pure ?_
      rw [hin, ← hla, List.drop_length] at hpre
      cases hpre
      exact h'
theorem rc_dictsH {a b : Addr} {ka kb : List (K × Addr × Value)} {r : Bool} (hu2 : knd.room A.in1) (ha : (a == sysModules) = false) (hb : (b == sysModules) = false)
    (da : s.heap.DictOfH knd a ka) (db : s.heap.DictOfH knd b kb) (hu : A.units < cLine) (hits : ka.length = kb.length → HitsH prog w A.in1 s kb ka r) (E Q : Value → Shared → Prop) (h : Q (.bool (ka.length == kb.length && r)) s) : wpAny (model prog w) A (richCompare .Eq (.ref a) (.ref b)) Q E s := by
  refine wpAny_richCompare_same_room (op := .Eq) da.typeIs db.typeIs PySem.F.slot_dict_eq (wpAny_call_entry PySem.F.slot_dict_eq da.typeIs PySem.F.entry_dict_eq ?_ (PySem.F.args_dict_eq_2 _ _)) hu
  show wpAny _ _ (Builtin.Dict.dictSlotArgs "__eq__" ⟨[.ref a, .ref b], []⟩ >>= _) _ _ s
  refine wpAny_bind ?_
  unfold Builtin.Dict.dictSlotArgs
  refine wpAny_bind (wpAny_notOrdered_dict da.typeIs ?_)
  show wpAny _ _ (pure (Value.ref a, Value.ref b)) _ _ s
  refine wpAny_pure ?_
  refine wpAny_bind (wpAny_isInstance (T := "dict") db.typeIs PySem.F.sub_dict_dict ?_)
  simp only [Bool.not_true, Bool.false_eq_true, if_false]
  refine wpAny_bind (wpAny_pure (wpAny_bind (wpAny_pure ?_)))
  refine wpAny_bind (samePairsH hu2 ha hb da db hits ?_)
  refine wpAny_pure ⟨_, rfl, ?_, ?_⟩
  · exact fun x => nomatch x
  · simpa using h
end
end Hb
set_option maxHeartbeats 4000000
/-! x == y of dicts with tuple keys that hold truths -/
namespace Hb
open PySem PySem.Spec PyProof.Rows L2
/-- whether the dicts have the same pairs -/
def eqT (ka kb : List (List Key × V)) : Bool := ka.length == kb.length && ka.all fun p => decide (valV kb p.1 = some p.2)
def rEqT : V → V → Hp → VK → Prop := fun x y H Q => ∃ (a b : Addr) (ka kb : List (List Key × V)), x = .ref a ∧ y = .ref b ∧ H a = some (.dT ka) ∧ H b = some (.dT kb) ∧ (∀ p ∈ ka, ∃ c, p.2 = .bl c) ∧ (∀ p ∈ kb, ∃ c, p.2 = .bl c) ∧ Q (.bl (eqT ka kb)) H
theorem valV_mem {κ : Type} [DecidableEq κ] {kvs : List (κ × V)} {k : κ} {v : V} (h : valV kvs k = some v) : ∃ p ∈ kvs, p.2 = v := by
  unfold valV at h
  obtain ⟨p, hp, e⟩ := Option.map_eq_some_iff.mp h
  exact ⟨p, List.mem_of_find?_eq_some hp, e⟩
theorem hitsT {P : Program} {w : World} {A : Around} {s : Shared} {H : Hp} {kb : List (List Key × V)} {xb : List (List Key × Addr × Value)} (rb : KT H kb xb) (fb : ∀ p ∈ kb, ∃ c, p.2 = .bl c) : ∀ {l : List (List Key × V)} {m : List (List Key × Addr × Value)}, KT H l m → (∀ p ∈ l, ∃ c, p.2 = .bl c) →
    HitsH P w A s xb m (l.all fun p => decide (valV kb p.1 = some p.2)) := by
  intro l m r
  induction r with
  | nil => exact fun _ => .nil
  | @cons p x l m hq _ ih =>
    intro fl
    have ih := ih fun q hq => fl q (List.mem_cons_of_mem _ hq)
    obtain ⟨c, hc⟩ := fl p List.mem_cons_self
    obtain ⟨k, d⟩ := x
    obtain ⟨e1, _, e3⟩ := hq
    have e1' : p.1 = k := e1
    rw [List.all_cons]
    have rel := rb.val k
    cases hv : valV kb k with
    | none =>
      rw [hv] at rel
      have : atKey xb k = none := by
        cases ha : atKey xb k with
        | none => rfl
        | some y => rw [ha] at rel; exact nomatch rel
      have ef : (decide (valV kb p.1 = some p.2) && l.all fun p => decide (valV kb p.1 = some p.2)) = false := by
        rw [e1', hv]
        rfl
      rw [ef]
      exact .miss this
    | some v' =>
      rw [hv] at rel
      obtain ⟨y, hy, ry⟩ : ∃ y, atKey xb k = some y ∧ RelV v' y.2 := by
        cases ha : atKey xb k with
        | none => rw [ha] at rel; exact nomatch rel
        | some y =>
          rw [ha] at rel
          exact ⟨y, rfl, rel⟩
      obtain ⟨q, hq, eq⟩ := valV_mem hv
      obtain ⟨c', hc'⟩ := fb q hq
      rw [eq] at hc'
      subst hc'
      have ed : d.2 = .bool c := by
        have e3' : RelV p.2 d.2 := e3
        rw [hc] at e3'
        exact e3'
      have ey : y.2 = .bool c' := ry
      have et : decide (valV kb p.1 = some p.2) = (c == c') := by
        rw [e1', hv, hc]
        cases c <;> cases c' <;> rfl
      rw [et]
      refine .hit hy ?_ ih
      rw [ed, ey]
      exact (SeqAt.EqAt.bool_bool c c').eqP
theorem op_eqT {X : Cx} (hu : X.A.units + 64 < cLine) : OpR X (compareOp .Eq) rEqT := by
  intro pins s σ H x y v u Q I rx ry h
  obtain ⟨a, b, ka, kb, rfl, rfl, ha, hb, fa, fb, q⟩ := h
  obtain rfl : v = Value.ref a := rx
  obtain rfl : u = Value.ref b := ry
  obtain ⟨_, ya, xa, ra, da⟩ := dt_of I.hok ha
  obtain ⟨_, yb, xb, rb, db⟩ := dt_of I.hok hb
  have la : ka.length = xa.length := ra.length
  have lb : kb.length = xb.length := rb.length
  show wpAny _ _ (richCompare .Eq (.ref a) (.ref b)) _ _ s
  refine rc_dictsH (knd := tupleKind (mixKind X.prog X.w)) (by show X.A.units + 1 < cLine; omega) ya yb da db (by omega) (fun _ => hitsT rb fb ra fa) _ _ ?_
  refine ⟨.bl (eqT ka kb), H, I, ?_, q⟩
  unfold eqT
  rw [la, lb]
  rfl
end Hb
set_option maxHeartbeats 4000000
/-! xs.remove(y): data -/
namespace Hb
open PySem PySem.Spec PyProof.Rows L2
/-- the j-th is the first that is like y -/
def rRemD (K : PySem.W.Frag) : V → List V → Hp → VK → Prop := fun x xs H Q => ∃ (a : Addr) (y : V) (d : PyData) (us : List V) (ds : List PyData) (j : Nat) (z : PyData), x = .ref a ∧ xs = [y] ∧ H a = some (.lst us) ∧ DpAll K H us ds ∧ Dp K H y d ∧ SeqAt.shaped (.list ds) = true ∧ SeqAt.shaped d = true ∧ ds[j]? = some z ∧ PyData.eqv z d = true ∧
  (∀ (m : Nat) (z' : PyData), m < j → ds[m]? = some z' → PyData.eqv z' d = false) ∧ Q .non (upd H a (.lst (us.eraseIdx j)))
theorem mt_removeD {X : Cx} (hu : X.A.units + 65 < cLine) : MtR X "list.remove" (rRemD X.K) := by
  intro pins s σ H x xs v us0 Q I rx rxs h
  obtain ⟨a, y, d, us, ds, j, z, rfl, rfl, hH, ha, hy, sl, sd, hz, hzj, hno, q⟩ := h
  cases rx
  cases rxs with
  | cons ry rt =>
    rename_i uy ut
    cases rt
    obtain ⟨bs, r1⟩ := Dp.reads I d y uy hy ry
    have hxs : PyData.canLayAll0 ds = true := SeqAt.canLay_of_shaped sl
    have hroom : X.A.units + 1 + min (PyData.depthAll ds) d.depth < cLine := room_in_shaped sd hu
    obtain ⟨hlen, its, n, rv, hvl, ho⟩ := I.lstM hH
    obtain ⟨as, h4⟩ := Dp.readsAll I ds _ its ha rv
    have hn : its.length = ds.length := SeqAt.ReadsAll.length ds its as h4
    have hmap : its.map (SeqAt.readOf s.heap) = ds := SeqAt.readsAll_map ds its as hxs h4
    obtain ⟨hjd, _⟩ := List.getElem?_eq_some_iff.mp hz
    have hjl : j < its.length := by omega
    have hj : j < its.toArray.size := by simpa using hjl
    have at_ : ∀ (m : Nat) (hm : m < its.toArray.size) (z' : PyData), ds[m]? = some z' → SeqAt.readOf s.heap its.toArray[m] = z' := by
      intro m hm z' hz'
      have hml : m < its.length := by simpa using hm
      rw [← hmap, List.getElem?_map, List.getElem?_eq_getElem hml] at hz'
      have e1 : SeqAt.readOf s.heap its[m] = z' := Option.some.inj (show some (SeqAt.readOf s.heap its[m]) = some z' from hz')
      simpa using e1
    refine call_meets PySem.F.slot_list_remove ⟨_, ho, rfl⟩ PySem.F.entry_list_remove (PySem.F.args_list_remove_2 _ _)
      (SeqAt.list_removeAt a its.toArray n none #[] uy (fun u => PyData.eqv (SeqAt.readOf s.heap u) d) j hj ?_ ?_ (by rw [List.size_toArray]; omega)) ⟨ho, SeqAt.items_eqAt (vs := its.toArray) (show ReadsAll s.heap its.toArray.toList ds as from h4) r1 hxs (SeqAt.canLay_of_shaped sd) hroom, ?_⟩
    · show PyData.eqv (SeqAt.readOf s.heap its.toArray[j]) d = true
      rw [at_ j hj z hz]
      exact hzj
    · intro m hm hmj
      have hmd : m < ds.length := by omega
      have hz' : ds[m]? = some ds[m] := List.getElem?_eq_getElem hmd
      show PyData.eqv (SeqAt.readOf s.heap its.toArray[m]) d = false
      rw [at_ m hm _ hz']
      exact hno m _ hmj hz'
    · refine ⟨.non, _, I.lset (its' := its.eraseIdx j) (t' := s.toks) hH ho ?_ (rv.eraseIdx j) ?_, rfl, q⟩
      · show its.toArray.eraseIdxIfInBounds j = (its.eraseIdx j).toArray
        rw [List.eraseIdxIfInBounds_toArray]
      · have z2 := List.length_eraseIdx_le us j
        omega
end Hb
set_option maxHeartbeats 1000000
/-! k44: a table asked; what stands ahead; piles and crossings -/
namespace Hb
open PySem PySem.Spec PyProof.Rows L2
abbrev st_Table_getitem : Stmt := inClass (top 14) 6
abbrev st_is_ahead : Stmt := top 23
abbrev st_crossing : Stmt := top 24
abbrev st_ways_of_one : Stmt := top 25
abbrev st_are_like : Stmt := top 16
abbrev st_Table_eq : Stmt := inClass (top 14) 11
abbrev st_piled : Stmt := top 22
theorem sc_Table_getitem : FnScope ["self", "at"] ["self", "at"] (defScope st_Table_getitem) := ⟨rfl, rfl, rfl, by decide +kernel, rfl, by decide +kernel, by decide +kernel⟩
theorem sc_is_ahead : FnScope ["table", "one", "other"] ["table", "one", "other"] (defScope st_is_ahead) := ⟨rfl, rfl, rfl, by decide +kernel, rfl, by decide +kernel, by decide +kernel⟩
theorem sc_ways_of_one : FnScope ["table", "cell", "other", "way"] ["table", "cell", "other"] (defScope st_ways_of_one) := ⟨rfl, rfl, rfl, by decide +kernel, rfl, by decide +kernel, by decide +kernel⟩
theorem sc_crossing : FnScope ["table", "cell", "other", "ways", "overs"] ["table"] (defScope st_crossing) := ⟨rfl, rfl, rfl, by decide +kernel, rfl, by decide +kernel, by decide +kernel⟩
theorem sc_piled : FnScope ["table", "left", "pile", "free", "cell", "way", "layer", "other"] ["table"] (defScope st_piled) := ⟨rfl, rfl, rfl, by decide +kernel, rfl, by decide +kernel, by decide +kernel⟩
theorem sc_are_like : FnScope ["one", "other"] ["one", "other"] (defScope st_are_like) := ⟨rfl, rfl, rfl, by decide +kernel, rfl, by decide +kernel, by decide +kernel⟩
theorem sc_Table_eq : FnScope ["self", "other"] ["self", "other"] (defScope st_Table_eq) := ⟨rfl, rfl, rfl, by decide +kernel, rfl, by decide +kernel, by decide +kernel⟩
def spTAt (K : PySem.W.Frag) (C : Addr) : Sp := fun vs H Q _ => ∃ (a t : Addr) (cs ws : List Str) (g : Str × Str → Bool) (x : Str × Str), vs = [.ref a, .ref t] ∧ TabAt C H a cs ws g ∧ SqT K H t [.str x.1, .str x.2] ∧ x.1 ∈ cs ∧ x.2 ∈ ws ∧ okName x.1 ∧ okName x.2 ∧ ∀ H', Kp [] H H' → Q (.bl (g x)) H'
/-- whether the one layer stands ahead of the other in all piles -/
def aheadT (g : Str × Str → Bool) (l m : Str × Str) : Bool := if l.1 = m.1 then false else if l.1 = ("way" : Str) then g (m.2, l.2) else !g (l.2, m.2)
/-- the layers of a table -/
def inLay (cs ws : List Str) (l : Str × Str) : Prop := (l.1 = ("cell" : Str) ∧ l.2 ∈ cs) ∨ (l.1 = ("way" : Str) ∧ l.2 ∈ ws)
def spAheadT (K : PySem.W.Frag) (C : Addr) : Sp := fun vs H Q _ => ∃ (a t u : Addr) (cs ws : List Str) (g : Str × Str → Bool) (l m : Str × Str), vs = [.ref a, .ref t, .ref u] ∧ TabAt C H a cs ws g ∧ SqT K H t [.str l.1, .str l.2] ∧ SqT K H u [.str m.1, .str m.2] ∧ inLay cs ws l ∧ inLay cs ws m ∧ (∀ c ∈ cs, okName c) ∧ (∀ c ∈ ws, okName c) ∧ ∀ H', Kp [] H H' → Q (.bl (aheadT g l m)) H'
/-- the ways in which the one cell is put back, but not the other -/
def ofOne (g : Str × Str → Bool) (ws : List Str) (c o : Str) : List Str := ws.filter fun w => g (c, w) && !g (o, w)
def spOfOne (C : Addr) : Sp := fun vs H Q _ => ∃ (a : Addr) (cs ws : List Str) (g : Str × Str → Bool) (c o : Str), vs = [.ref a, .str c, .str o] ∧ TabAt C H a cs ws g ∧ c ∈ cs ∧ o ∈ cs ∧ (∀ c ∈ cs, okName c) ∧ (∀ c ∈ ws, okName c) ∧ ws.length ≤ 1000 ∧ ∀ (r : Addr) (H' : Hp), H r = none → H' r = some (.lst ((ofOne g ws c o).map V.str)) → Kp [] H H' → Q (.ref r) H'
theorem TabAt.ins {C : Addr} {H : Hp} {a : Addr} {cs ws : List Str} {g : Str × Str → Bool} (h : TabAt C H a cs ws g) : ∃ dx fs, H a = some (.ins C dx fs) ∧ fs.lookup ("cells" : Str) = none ∧ fs.lookup ("ways" : Str) = none ∧ fs.lookup ("squares" : Str) = none := by
  obtain ⟨dx, _, _, _, h, _⟩ := h
  exact ⟨dx, _, h, rfl, rfl, rfl⟩
section
variable {P : Program} {w : World} {K : PySem.W.Frag} {mg : Str → Option Value} {base : Heap} {f f1 f2 f3 C : Addr} {fd fd1 fd2 fd3 : FuncData}
theorem ok_Table_getitem (D : Dm K C "__getitem__" "Table.__getitem__" st_Table_getitem ["self", "at"] f fd) (c : Tc K mg C) (G_is_square : FnOk P w K mg base CX0 2 f1 fd1 ["board", "thing"] (spIsSq K)) (D_is_square : Df K mg "is_square" st_is_square ["board", "thing"] f1 fd1) : FnOk P w K mg base CX0 3 f fd ["self", "at"] (spTAt K C) := by
  refine D.fn.ok sc_Table_getitem (fun vs H Q E h => ?_) (fun cdv A outer s H vs Q E hr h => ?_)
  · obtain ⟨a, t, cs, ws, g, x, rfl, _⟩ := h
    rfl
  obtain ⟨a, t, cs, ws, g, x, rfl, tab, ht, m1, m2, o1, o2, q⟩ := h
  have hu := hu_of hr
  refine ⟨_, PSs.nox (pss_cons (ps_if (pt_not (pt_val (pe_call G_is_square (hr.mono (by decide)) (by rfl) D_is_square.gl D_is_square.fn.kp D_is_square.bd .nil pass0 (pa_cons (pe_fld (pv 0) rfl) (pa_cons (pv 1) pa_nil))))) pss_never pss_nil)
    (pss_one (ps_ret (pe_dget hu (pe_fld (pv 0) rfl) (pe_tup (pa_cons (pe_ix ix_tup (pv 1) pe_int (fun _ _ => rfl)) (pa_cons (pe_ix ix_tup (pv 1) pe_int (fun _ _ => rfl)) pa_nil))) (fun _ _ => rfl))))), ?_⟩
  obtain ⟨dx, p, r, d, ha, hp, hr1, hd⟩ := id tab
  have mg : x ∈ gridP cs ws := mem_gridP.mpr ⟨m1, m2⟩
  refine ⟨_, rfl, a, C, dx, _, .ref d, rfl, ha, c.cls, c.no _ (by simp), rfl, _, rfl, d, t, x, _, rfl, hd, ht, o1, o2, fun H1 k1 => ?_⟩
  refine ⟨_, rfl, ?_⟩
  rw [kvP_val, if_pos mg]
  refine iteF_of rfl ?_
  have ht1 := k1.seqT ht
  refine ⟨_, rfl, a, C, dx, _, .ref d, rfl, k1.keep _ _ ha List.not_mem_nil, c.cls, c.no _ (by simp), rfl, ?_⟩
  refine ⟨_, rfl, t, _, 0, .str x.1, rfl, rfl, ht1, rfl, _, rfl, t, _, 1, .str x.2, rfl, rfl, ht1, rfl, by show 2 ≤ sizeLine; decide, fun u hu1 => ?_⟩
  have ku : Kp [] H1 (upd H1 u (.tup [.str x.1, .str x.2])) := (Kp.refl _ _).new hu1 _
  refine ⟨d, .bl (g x), rfl, ?_, q _ (k1.trans ku)⟩
  have := DGet.t (k := sqK x) (ku.keep _ _ (k1.keep _ _ hd List.not_mem_nil) List.not_mem_nil) (upd_same (o := .tup [.str x.1, .str x.2]))
  rw [kvP_val, if_pos mg] at this
  exact this
theorem ok_is_ahead {f1 : Addr} {fd1 : FuncData} (D : Df K mg "is_ahead" st_is_ahead ["table", "one", "other"] f fd) (G_get : FnOk P w K mg base CX0 3 f1 fd1 ["self", "at"] (spTAt K C)) (D_get : Dm K C "__getitem__" "Table.__getitem__" st_Table_getitem ["self", "at"] f1 fd1) (fnG : PySem.W.fnIn K f1 = true) : FnG P w K mg base CX0 5 f fd ["table", "one", "other"] (spAheadT K C) := by
  refine okG D.fn sc_is_ahead (fun vs H Q E h => ?_) (fun cdv A outer s H vs Q E hg hr h => ?_)
  · obtain ⟨a, t, u, cs, ws, g, l, m, rfl, _⟩ := h
    rfl
  obtain ⟨a, t, u, cs, ws, g, l, m, rfl, tab, ht, hu1, hl, hm, oc, ow, q⟩ := h
  refine ⟨_, PSs.nox (pss_cons (ps_if (pt_cmpR op_eq (pe_ix ix_tup (pv 1) pe_int (fun _ _ => rfl)) (pe_ix ix_tup (pv 2) pe_int (fun _ _ => rfl)) (nomark _)) (pss_one (ps_ret pe_bl)) pss_nil)
    (pss_cons (ps_if (pt_cmpR op_eq (pe_ix ix_tup (pv 1) pe_int (fun _ _ => rfl)) pe_str (nomark _)) (pss_one (ps_ret (pe_ixOwn D_get.me.at_ fnG D_get.me.fn (FnG.of G_get) hg hr D_get.bd pass0 (pv 0) (pe_tup (pa_cons (pe_ix ix_tup (pv 2) pe_int (fun _ _ => rfl)) (pa_cons (pe_ix ix_tup (pv 1) pe_int (fun _ _ => rfl)) pa_nil)))))) pss_nil)
    (pss_one (ps_ret (pe_not (pe_ixOwn D_get.me.at_ fnG D_get.me.fn (FnG.of G_get) hg hr D_get.bd pass0 (pv 0) (pe_tup (pa_cons (pe_ix ix_tup (pv 1) pe_int (fun _ _ => rfl)) (pa_cons (pe_ix ix_tup (pv 2) pe_int (fun _ _ => rfl)) pa_nil))))))))), ?_⟩
  refine ⟨_, rfl, t, _, 0, .str l.1, rfl, rfl, ht, rfl, _, rfl, u, _, 0, .str m.1, rfl, rfl, hu1, rfl, rfl, _, rfl, ?_⟩
  by_cases e : l.1 = m.1
  · refine iteT_of (decide_eq_true (by rw [e])) ?_
    have := q H (Kp.refl _ _)
    unfold aheadT at this
    rw [if_pos e] at this
    exact this
  refine iteF_of (decide_eq_false (fun z => e (by injection z))) ?_
  refine ⟨_, rfl, t, _, 0, .str l.1, rfl, rfl, ht, rfl, rfl, _, rfl, ?_⟩
  obtain ⟨dx, fs, ha, _⟩ := tab.ins
  by_cases e2 : l.1 = ("way" : Str)
  · refine iteT_of (decide_eq_true (by rw [e2])) ?_
    have hl2 : l.2 ∈ ws := by
      rcases hl with ⟨h1, _⟩ | ⟨_, h2⟩
      · rw [e2] at h1
        exact absurd h1 (by decide +kernel)
      · exact h2
    have hm2 : m.2 ∈ cs := by
      rcases hm with ⟨_, h2⟩ | ⟨h1, _⟩
      · exact h2
      · exact absurd (e2.trans h1.symm) e
    refine ⟨_, rfl, _, rfl, u, _, 1, .str m.2, rfl, rfl, hu1, rfl, _, rfl, t, _, 1, .str l.2, rfl, rfl, ht, rfl, by show 2 ≤ sizeLine; decide, fun y hy => ?_⟩
    have ky : Kp [] H (upd H y (.tup [.str m.2, .str l.2])) := (Kp.refl _ _).new hy _
    refine ⟨a, dx, fs, rfl, ky.keep _ _ ha List.not_mem_nil, a, y, cs, ws, g, (m.2, l.2), rfl, tab.keep ky, SqT.of upd_same, hm2, hl2, oc _ hm2, ow _ hl2, fun H' k => ?_⟩
    have := q H' (ky.trans k)
    unfold aheadT at this
    rw [if_neg e, if_pos e2] at this
    exact this
  · refine iteF_of (decide_eq_false (fun z => e2 (by injection z))) ?_
    have hl2 : l.2 ∈ cs := by
      rcases hl with ⟨_, h2⟩ | ⟨h1, _⟩
      · exact h2
      · exact absurd h1 e2
    have hl1 : l.1 = ("cell" : Str) := by
      rcases hl with ⟨h1, _⟩ | ⟨h1, _⟩
      · exact h1
      · exact absurd h1 e2
    have hm2 : m.2 ∈ ws := by
      rcases hm with ⟨h1, _⟩ | ⟨_, h2⟩
      · exact absurd (hl1.trans h1.symm) e
      · exact h2
    refine ⟨_, rfl, _, rfl, t, _, 1, .str l.2, rfl, rfl, ht, rfl, _, rfl, u, _, 1, .str m.2, rfl, rfl, hu1, rfl, by show 2 ≤ sizeLine; decide, fun y hy => ?_⟩
    have ky : Kp [] H (upd H y (.tup [.str l.2, .str m.2])) := (Kp.refl _ _).new hy _
    refine ⟨a, dx, fs, rfl, ky.keep _ _ ha List.not_mem_nil, a, y, cs, ws, g, (l.2, m.2), rfl, tab.keep ky, SqT.of upd_same, hl2, hm2, oc _ hl2, ow _ hm2, fun H' k => ?_⟩
    have := q H' (ky.trans k)
    unfold aheadT at this
    rw [if_neg e, if_neg e2] at this
    exact ⟨_, rfl, this⟩
end
end Hb
set_option maxHeartbeats 1000000
/-! k44: piled -/
namespace Hb
open PySem PySem.Spec PyProof.Rows L2
def freeOf (g : Str × Str → Bool) (left : List (Str × Str)) : List (Str × Str) := left.filter fun l => !(left.any fun o => aheadT g o l)
/-- the pile by always taking the first layer that none of those left stands ahead of -/
def pileG (g : Str × Str → Bool) : Nat → List (Str × Str) → List (Str × Str) → Option (List (Str × Str))
  | 0, _, acc => some acc
  | n + 1, left, acc => match left with
    | [] => some acc
    | _ :: _ => match freeOf g left with
      | [] => none
      | l :: _ => pileG g n (left.erase l) (acc ++ [l])
def spPiled (K : PySem.W.Frag) (C : Addr) : Sp := fun vs H Q _ => ∃ (a : Addr) (cs ws : List Str) (g : Str × Str → Bool), vs = [.ref a] ∧ TabAt C H a cs ws g ∧ (∀ c ∈ cs, okName c) ∧ (∀ c ∈ ws, okName c) ∧ cs.length ≤ 1000 ∧ ws.length ≤ 1000 ∧
  (pileG g (layL cs ws).length (layL cs ws) [] = none → ∀ H', Kp [] H H' → Q .non H') ∧
  ∀ L, pileG g (layL cs ws).length (layL cs ws) [] = some L → ∀ (r : Addr) (us : List V) (H' : Hp), H r = none → H' r = some (.lst us) → PrsA K H' us L → Kp [] H H' → Q (.ref r) H'
theorem at0P (x : V) (xs : List V) : atI (x :: xs) 0 = some x := atI_nat (xs := x :: xs) (j := 0) (v := x) rfl
theorem PrsA.eraseIdx {K : PySem.W.Frag} {H : Hp} : ∀ {vs : List V} {ps : List (Str × Str)} (i : Nat), PrsA K H vs ps → PrsA K H (vs.eraseIdx i) (ps.eraseIdx i)
  | _, _, _, .nil => .nil
  | _, _, 0, .cons _ b => b
  | _, _, i + 1, .cons a b => .cons a (PrsA.eraseIdx i b)
section
variable {P : Program} {w : World} {K : PySem.W.Frag} {mg : Str → Option Value} {base : Heap} {f f1 f2 f3 C : Addr} {fd fd1 fd2 fd3 : FuncData}
theorem ok_piled (D : Df K mg "piled" st_piled ["table"] f fd) (c : Tc K mg C) (B : Bl mg) (hany : mg "any" = none) (G_cells : FnOk P w K mg base CX0 1 f2 fd2 ["self"] (spTList C false)) (D_cells : Dm K C "cells" "Table.cells" st_Table_cells ["self"] f2 fd2) (G_ways : FnOk P w K mg base CX0 1 f3 fd3 ["self"] (spTList C true)) (D_ways : Dm K C "ways" "Table.ways" st_Table_ways ["self"] f3 fd3)
    (G_is_ahead : FnG P w K mg base CX0 5 f1 fd1 ["table", "one", "other"] (spAheadT K C)) (D_is_ahead : Df K mg "is_ahead" st_is_ahead ["table", "one", "other"] f1 fd1) : FnG P w K mg base CX0 6 f fd ["table"] (spPiled K C) := by
  refine okG D.fn sc_piled (fun vs H Q E h => ?_) (fun cdv A outer s H vs Q E hg hr h => ?_)
  · obtain ⟨a, cs, ws, g, rfl, _⟩ := h
    rfl
  obtain ⟨a, cs, ws, g, rfl, tab, oc, ow, lc, lw, q1, q2⟩ := h
  have nd := sc_piled.nd
  refine ⟨_, PSs.nox (pss_cons (ps_set (i := 1) nd rfl (.inr rfl) (pe_op op_cat
      (pe_lc (own := [("cell", 4)]) (g := gName 4) (tt := tYes) rfl nd (pi_list (pe_meth0 (pv 0) c.cls D_cells.me G_cells (hr.mono (by decide)) D_cells.bd .nil pass0)) (blkOk_by (own := [("cell", 4)]) (N := ["table", "left", "pile", "free", "cell", "way", "layer", "other"]) (sc := defScope st_piled) (by decide +kernel)) (fun _ _ _ _ _ => pg_name (i := 4) nd rfl (Or.inl rfl)) (fun _ _ _ _ _ => pts_nil) (fun _ _ _ _ _ => pe_tup (pa_cons pe_str (pa_cons (pv 4) pa_nil))))
      (pe_lc (own := [("way", 5)]) (g := gName 5) (tt := tYes) rfl nd (pi_list (pe_meth0 (pv 0) c.cls D_ways.me G_ways (hr.mono (by decide)) D_ways.bd .nil pass0)) (blkOk_by (own := [("way", 5)]) (N := ["table", "left", "pile", "free", "cell", "way", "layer", "other"]) (sc := defScope st_piled) (by decide +kernel)) (fun _ _ _ _ _ => pg_name (i := 5) nd rfl (Or.inl rfl)) (fun _ _ _ _ _ => pts_nil) (fun _ _ _ _ _ => pe_tup (pa_cons pe_str (pa_cons (pv 5) pa_nil))))))
    (pss_cons (ps_set (i := 2) nd rfl (.inl rfl) (pe_lst pa_nil))
    (pss_cons (ps_while PassesOwn.never (pt_truth (pv 1) (by intro _; rfl))
      (pss_cons (ps_setLc (i := 3) (own := [("layer", 6)]) (g := gName 6) rfl nd rfl rfl (by rfl) (pi_list (pv 1)) (blkOk_by (own := [("layer", 6)]) (N := ["table", "left", "pile", "free", "cell", "way", "layer", "other"]) (sc := defScope st_piled) (by decide +kernel)) (fun _ _ _ _ _ => pg_name (i := 6) nd rfl (Or.inr rfl))
        (fun _ _ _ _ _ => by (apply PTs.to); (focus (exact pts_one (pt_not (pt_val (pe_callB (cr_any rfl) (by rfl) hany (by decide +kernel) (pa_cons (pe_lc (own := [("other", 7)]) (g := gName 7) (tt := tYes) rfl nd (pi_list (pv 1)) (blkOk_by (own := [("other", 7)]) (N := ["table", "left", "pile", "free", "cell", "way", "layer", "other"]) (by kernel_rfl)) (fun _ _ _ _ _ => pg_name (i := 7) nd rfl (Or.inl rfl)) (fun _ _ _ _ _ => pts_nil)
          (fun _ _ _ _ _ => pe_callG G_is_ahead hg hr (by rfl) D_is_ahead.gl D_is_ahead.fn.kp D_is_ahead.bd .nil pass0 (pa_cons (pv 0) (pa_cons (pv 7) (pa_cons (pv 6) pa_nil))))) pa_nil)))))); (focus ((try dsimp only [Cx.blk, Cx.nox, cxOf]); (try exact rfl)))) (fun _ _ _ _ _ => pv 6))
      (pss_cons (ps_if (pt_not (pt_truth (pv 3) (by intro _; rfl))) (pss_one (ps_ret pe_non)) pss_nil)
      (pss_cons (ps_expr (pe_bm PySem.F.plainAttrs_list PySem.F.slot_list_append PySem.F.type_list_append mt_append (pv 2) (pa_cons (pe_ix ix_list (pv 3) pe_int (fun _ _ => rfl)) pa_nil)))
      (pss_one (ps_expr (pe_bm PySem.F.plainAttrs_list PySem.F.slot_list_remove PySem.F.type_list_remove (mt_removeD (u65 hr)) (pv 1) (pa_cons (pe_ix ix_list (pv 3) pe_int (fun _ _ => rfl)) pa_nil))))))))
    (pss_one (ps_ret (pv 2)))))), ?_⟩
  obtain ⟨dx1, fs1, ha1, lk1, _, _⟩ := tab.ins
  have tab1 := tab
  refine ⟨_, rfl, a, dx1, fs1, rfl, ha1, lk1, a, cs, ws, g, rfl, tab1, fun r1 H1 hr1 er1 k1 => ?_⟩
  refine ⟨r1, rfl, ⟨_, SqL.of er1⟩, fun D1 hD1 => ?_⟩
  refine lc_list (K := K) (a := r1) (xs := cs.map V.str) (fun i H' => ∃ us, H' D1 = some (.lst us) ∧ PrsA K H' us ((cs.take i).map cL) ∧ Kp [] H1 H') ?_ ?_ ?_ ?_
  · exact ⟨[], upd_same, .nil, (Kp.refl _ _).new hD1 _⟩
  · rintro i H' hi ⟨us, e1, pu, k⟩
    exact SqL.of (k.keep _ _ er1 List.not_mem_nil)
  · rintro i x H' hx ⟨us, e1, pu, k⟩
    rw [List.getElem?_map] at hx
    obtain ⟨y, hy, rfl⟩ := Option.map_eq_some_iff.mp hx
    have et : cs.take (i + 1) = cs.take i ++ [y] := by rw [List.take_add_one, hy]; rfl
    have lu := pu.length
    have lt := List.length_take_le' i cs
    rw [List.length_map] at lu
    refine ⟨rfl, ?_⟩
    refine ⟨_, rfl, by show 2 ≤ sizeLine; decide, fun t ht => ?_⟩
    have kt : Kp [] H' (upd H' t (.tup [.str "cell", .str y])) := (Kp.refl _ _).new ht _
    have e2 := kt.keep _ _ e1 List.not_mem_nil
    have kD : Kp [D1] (upd H' t (.tup [.str "cell", .str y])) (upd (upd H' t (.tup [.str "cell", .str y])) D1 (.lst (us ++ [.ref t]))) := (Kp.refl _ _).put (by simp) e2 (o := _)
    refine ⟨us, e2, by rw [sizeLine_eq]; omega, us ++ [.ref t], upd_same, ?_, (k.trans kt).own hD1 _⟩
    rw [et, List.map_append]
    exact ((pu.keep kt).keep kD).append (.cons ⟨t, rfl, kD.seqT (SqT.of upd_same)⟩ .nil)
  rintro H2 ⟨us1, eD1, pD1, k2⟩
  rw [List.length_map, List.take_of_length_le (Nat.le_refl _)] at pD1
  have k02 := k1.trans k2
  have tab2 := tab.keep k02
  obtain ⟨dx2, fs2, ha2, _, lk2, _⟩ := tab2.ins
  refine ⟨_, rfl, a, dx2, fs2, rfl, ha2, lk2, a, cs, ws, g, rfl, tab2, fun r2 H3 hr2 er2 k3 => ?_⟩
  refine ⟨r2, rfl, ⟨_, SqL.of er2⟩, fun D2 hD2 => ?_⟩
  refine lc_list (K := K) (a := r2) (xs := ws.map V.str) (fun i H' => ∃ us, H' D2 = some (.lst us) ∧ PrsA K H' us ((ws.take i).map wL) ∧ Kp [] H3 H') ?_ ?_ ?_ ?_
  · exact ⟨[], upd_same, .nil, (Kp.refl _ _).new hD2 _⟩
  · rintro i H' hi ⟨us, e1, pu, k⟩
    exact SqL.of (k.keep _ _ er2 List.not_mem_nil)
  · rintro i x H' hx ⟨us, e1, pu, k⟩
    rw [List.getElem?_map] at hx
    obtain ⟨y, hy, rfl⟩ := Option.map_eq_some_iff.mp hx
    have et : ws.take (i + 1) = ws.take i ++ [y] := by rw [List.take_add_one, hy]; rfl
    have lu := pu.length
    have lt := List.length_take_le' i ws
    rw [List.length_map] at lu
    refine ⟨rfl, ?_⟩
    refine ⟨_, rfl, by show 2 ≤ sizeLine; decide, fun t ht => ?_⟩
    have kt : Kp [] H' (upd H' t (.tup [.str "way", .str y])) := (Kp.refl _ _).new ht _
    have e2 := kt.keep _ _ e1 List.not_mem_nil
    have kD : Kp [D2] (upd H' t (.tup [.str "way", .str y])) (upd (upd H' t (.tup [.str "way", .str y])) D2 (.lst (us ++ [.ref t]))) := (Kp.refl _ _).put (by simp) e2 (o := _)
    refine ⟨us, e2, by rw [sizeLine_eq]; omega, us ++ [.ref t], upd_same, ?_, (k.trans kt).own hD2 _⟩
    rw [et, List.map_append]
    exact ((pu.keep kt).keep kD).append (.cons ⟨t, rfl, kD.seqT (SqT.of upd_same)⟩ .nil)
  rintro H4 ⟨us2, eD2, pD2, k4⟩
  rw [List.length_map, List.take_of_length_le (Nat.le_refl _)] at pD2
  have k04 := (k02.trans k3).trans k4
  have l1 := pD1.length
  have l2 := pD2.length
  rw [List.length_map] at l1 l2
  refine ⟨D1, D2, us1, us2, rfl, rfl, k4.keep _ _ (k3.keep _ _ eD1 List.not_mem_nil) List.not_mem_nil, eD2, by rw [sizeLine_eq]; omega, fun lf hlf => ?_⟩
  have k5 : Kp [] H4 (upd H4 lf (.lst (us1 ++ us2))) := (Kp.refl _ _).new hlf _
  have p5 : PrsA K (upd H4 lf (.lst (us1 ++ us2))) (us1 ++ us2) (layL cs ws) := (((pD1.keep k3).keep k4).keep k5).append (pD2.keep k5)
  have elf5 : upd H4 lf (.lst (us1 ++ us2)) lf = some (.lst (us1 ++ us2)) := upd_same
  have k05 := k04.trans k5
  have hlfH := k04.free hlf List.not_mem_nil
  generalize upd H4 lf (.lst (us1 ++ us2)) = H5 at p5 elf5 k05
  refine ⟨by show 0 ≤ sizeLine; decide, fun pl hpl => ?_⟩
  have k6 : Kp [] H5 (upd H5 pl (.lst [])) := (Kp.refl _ _).new hpl _
  have nlp : lf ≠ pl := ne_of_none elf5 hpl
  have hplH := k05.free hpl List.not_mem_nil
  have lL : (layL cs ws).length ≤ 2000 := by simp only [layL, List.length_append, List.length_map]; omega
  have inL : ∀ l ∈ layL cs ws, inLay cs ws l := fun l m => by
    unfold layL at m
    rcases List.mem_append.mp m with m | m
    · obtain ⟨x, hx, rfl⟩ := List.mem_map.mp m
      exact .inl ⟨rfl, hx⟩
    · obtain ⟨x, hx, rfl⟩ := List.mem_map.mp m
      exact .inr ⟨rfl, hx⟩
  have okL : ∀ l, inLay cs ws l → okLay l := fun l m => by
    rcases m with ⟨h1, h2⟩ | ⟨h1, h2⟩
    · exact ⟨.inl h1, oc _ h2⟩
    · exact ⟨.inr h1, ow _ h2⟩
  generalize hR : pileG g (layL cs ws).length (layL cs ws) [] = R at q1 q2
  refine ⟨fun m σ H' => ∃ (v3 : Option V) (us ps : List V) (left acc : List (Str × Str)), σ = [some (.ref a), some (.ref lf), some (.ref pl), v3, none, none, none, none] ∧ m = left.length ∧ H' lf = some (.lst us) ∧ PrsA K H' us left ∧ H' pl = some (.lst ps) ∧ PrsA K H' ps acc ∧ Kp [] H H' ∧
    (∀ l ∈ left, inLay cs ws l) ∧ left.length + acc.length ≤ 2000 ∧ pileG g left.length left acc = R, ⟨_, none, us1 ++ us2, [], layL cs ws, [], rfl, rfl, k6.keep _ _ elf5 List.not_mem_nil, p5.keep k6, upd_same, .nil, k05.trans k6, inL, by simpa using lL, hR⟩, ?_⟩
  rintro m σ H6 ⟨v3, us, ps, left, acc, rfl, rfl, elf, pu, epl, pp, k06, inl, lens, hg⟩
  refine ⟨_, rfl, !us.isEmpty, .inl ⟨us, SqL.of elf, rfl⟩, ?_⟩
  have lus := pu.length
  have lps := pp.length
  cases hl0 : left with
  | nil =>
    subst hl0
    cases pu
    refine iteF_of rfl ?_
    exact ⟨_, rfl, q2 acc hg.symm pl ps H6 hplH epl pp k06⟩
  | cons l0 rest =>
    have hne : us.isEmpty = false := by
      cases us with
      | nil => rw [hl0] at lus; cases lus
      | cons _ _ => rfl
    refine iteT_of (by rw [hne]; rfl) ?_
    rw [← hl0]
    refine ⟨fun σ' H' => ∃ m', m' < left.length ∧ ∃ (v3 : Option V) (us ps : List V) (left' acc : List (Str × Str)), σ' = [some (.ref a), some (.ref lf), some (.ref pl), v3, none, none, none, none] ∧ m' = left'.length ∧ H' lf = some (.lst us) ∧ PrsA K H' us left' ∧ H' pl = some (.lst ps) ∧ PrsA K H' ps acc ∧ Kp [] H H' ∧
      (∀ l ∈ left', inLay cs ws l) ∧ left'.length + acc.length ≤ 2000 ∧ pileG g left'.length left' acc = R, fun σ' H' h => h, ?_⟩
    refine ⟨_, rfl, lf, rfl, ⟨_, SqL.of elf⟩, fun D3 hD3 => ?_⟩
    refine lc_list (K := K) (a := lf) (xs := us) (fun i H' => ∃ fs, H' D3 = some (.lst fs) ∧ PrsA K H' fs ((left.take i).filter fun l => !(left.any fun o => aheadT g o l)) ∧ Kp [] H6 H') ?_ ?_ ?_ ?_
    · exact ⟨[], upd_same, .nil, (Kp.refl _ _).new hD3 _⟩
    · rintro i H' hi ⟨fs, e1, pf, k⟩
      exact SqL.of (k.keep _ _ elf List.not_mem_nil)
    · rintro i x H7 hx ⟨fs, e1, pf, k7⟩
      obtain ⟨l, hl, t, rfl, ht⟩ := (pu.keep k7).at hx
      have ml := List.mem_of_getElem? hl
      refine ⟨rfl, ?_⟩
      refine ⟨_, rfl, lf, rfl, ⟨_, SqL.of (k7.keep _ _ elf List.not_mem_nil)⟩, fun D4 hD4 => ?_⟩
      refine lc_list (K := K) (a := lf) (xs := us) (fun j H' => H' D4 = some (.lst (((left.take j).map fun o => aheadT g o l).map V.bl)) ∧ Kp [] H7 H') ?_ ?_ ?_ ?_
      · exact ⟨upd_same, (Kp.refl _ _).new hD4 _⟩
      · rintro j H' hj ⟨e2, k8⟩
        exact SqL.of (k8.keep _ _ (k7.keep _ _ elf List.not_mem_nil) List.not_mem_nil)
      · rintro j x H8 hx ⟨e2, k8⟩
        obtain ⟨o, ho, u, rfl, hu1⟩ := ((pu.keep k7).keep k8).at hx
        have mo := List.mem_of_getElem? ho
        refine ⟨rfl, ?_⟩
        refine ⟨_, rfl, _, rfl, _, rfl, a, u, t, cs, ws, g, o, l, rfl, tab.keep ((k06.trans k7).trans k8), hu1, k8.seqT ht, inl o mo, inl l ml, oc, ow, fun H9 k9 => ?_⟩
        have e9 := k9.keep _ _ e2 List.not_mem_nil
        have lt := List.length_take_le' j left
        refine ⟨_, e9, by rw [List.length_map, List.length_map, sizeLine_eq]; omega, ?_, (k8.trans k9).own hD4 _⟩
        rw [upd_same, List.take_add_one, ho, List.map_append, List.map_append]
        rfl
      rintro H8 ⟨e2, k8⟩
      rw [lus, List.take_of_length_le (Nat.le_refl _)] at e2
      refine ⟨D4, _, rfl, SqL.of e2, _, rfl, ?_⟩
      rw [List.any_map]
      have e8 := k8.keep _ _ e1 List.not_mem_nil
      have et : left.take (i + 1) = left.take i ++ [l] := by rw [List.take_add_one, hl]; rfl
      have lf3 := pf.length
      have lf4 := List.length_filter_le (fun l => !(left.any fun o => aheadT g o l)) (left.take i)
      have lf5 := List.length_take_le' i left
      have ea : (left.any (id ∘ fun o => aheadT g o l)) = left.any fun o => aheadT g o l := rfl
      rw [ea]
      cases hb : left.any fun o => aheadT g o l with
      | true =>
        refine iteF_of rfl ?_
        refine ⟨fs, e8, ?_, k7.trans k8⟩
        rw [et, List.filter_append, List.filter_cons, hb]
        simpa using pf.keep k8
      | false =>
        refine iteT_of rfl ?_
        have kD : Kp [D3] H8 (upd H8 D3 (.lst (fs ++ [.ref t]))) := (Kp.refl _ _).put (by simp) e8 (o := _)
        refine ⟨_, rfl, fs, e8, by rw [sizeLine_eq]; omega, fs ++ [.ref t], upd_same, ?_, (k7.trans k8).own hD3 _⟩
        rw [et, List.filter_append, List.filter_cons, hb]
        exact ((pf.keep k8).keep kD).append (.cons ⟨t, rfl, kD.seqT (k8.seqT ht)⟩ .nil)
    rintro H7 ⟨fs, eD3, pf, k7⟩
    rw [lus, List.take_of_length_le (Nat.le_refl _)] at pf
    have pf' : PrsA K H7 fs (freeOf g left) := pf
    have elf7 := k7.keep _ _ elf List.not_mem_nil
    have epl7 := k7.keep _ _ epl List.not_mem_nil
    have k07 := k06.trans k7
    refine ⟨_, rfl, !fs.isEmpty, .inl ⟨fs, SqL.of eD3, rfl⟩, ?_⟩
    have hgo : pileG g left.length left acc = match freeOf g left with
      | [] => none
      | l :: _ => pileG g rest.length (left.erase l) (acc ++ [l]) := by
      rw [hl0]
      rfl
    cases hf : freeOf g left with
    | nil =>
      rw [hf] at pf' hgo
      cases pf'
      refine iteT_of rfl ?_
      exact q1 (by rw [← hg, hgo]) H7 k07
    | cons l fr =>
      rw [hf] at pf' hgo
      have hgo' : pileG g left.length left acc = pileG g rest.length (left.erase l) (acc ++ [l]) := hgo
      cases pf' with
      | @cons x _ fs' _ hx hfs =>
      refine iteF_of rfl ?_
      have ml : l ∈ left := by
        have : l ∈ freeOf g left := by rw [hf]; exact List.mem_cons_self
        exact (List.mem_filter.mp this).1
      refine ⟨_, rfl, .inl ⟨rfl, _, SqL.of epl7⟩, _, rfl, D3, _, 0, x, rfl, rfl, SqL.of eD3, at0P _ _, pl, ps, x, rfl, rfl, epl7, by rw [sizeLine_eq]; omega, ?_⟩
      have kp : Kp [pl] H7 (upd H7 pl (.lst (ps ++ [x]))) := (Kp.refl _ _).put (by simp) epl7 (o := _)
      have nD3p : D3 ≠ pl := ne_of_none epl hD3 |>.symm
      have nD3l : D3 ≠ lf := ne_of_none elf hD3 |>.symm
      have elf8 := kp.keep _ _ elf7 (by simpa using nlp)
      have eD8 := kp.keep _ _ eD3 (by simpa using nD3p)
      have pu8 := (pu.keep k7).keep kp
      have pp8 : PrsA K (upd H7 pl (.lst (ps ++ [x]))) (ps ++ [x]) (acc ++ [l]) := ((pp.keep k7).keep kp).append (.cons (hx.keep kp) .nil)
      have epl8 : upd H7 pl (.lst (ps ++ [x])) pl = some (.lst (ps ++ [x])) := upd_same
      have hx8 := hx.keep kp
      have k08 : Kp [] H (upd H7 pl (.lst (ps ++ [x]))) := k07.own hplH _
      generalize upd H7 pl (.lst (ps ++ [x])) = H8 at elf8 eD8 pu8 pp8 epl8 hx8 k08
      have okl : ∀ y ∈ left, okLay y := fun y hy => okL y (inl y hy)
      obtain ⟨tx, rfl, htx⟩ := hx8
      have hj : left.idxOf l < left.length := List.idxOf_lt_length_of_mem ml
      refine ⟨_, rfl, .inl ⟨rfl, _, SqL.of elf8⟩, _, rfl, D3, _, 0, .ref tx, rfl, rfl, SqL.of eD8, at0P _ _, lf, .ref tx, pairD l, us, left.map pairD, left.idxOf l, pairD l, rfl, rfl, elf8, prsA_dp pu8, .tup htx (.cons (.str _) (.cons (.str _) .nil)), pairs_shaped okl, nice_shaped (pairD_nice (okl l ml)) (by simp [pairD, PyData.depth, PyData.depthAll]), ?_, eqv_pair.mpr rfl, fun m z' hm hz' => ?_, ?_⟩
      · rw [List.getElem?_map, List.getElem?_eq_getElem hj, List.getElem_idxOf]
        rfl
      · rw [List.getElem?_map] at hz'
        obtain ⟨y, hy, rfl⟩ := Option.map_eq_some_iff.mp hz'
        cases hq : PyData.eqv (pairD y) (pairD l) with
        | false => rfl
        | true =>
          have e3 := eqv_pair.mp hq
          have e4 : l = y := by
            unfold pairD at e3
            simp only [PyData.tuple.injEq, List.cons.injEq, PyData.str.injEq, and_true] at e3
            exact Prod.ext e3.1 e3.2
          have h5 := List.not_of_lt_findIdx (p := fun z => z == l) (xs := left) (i := m) hm
          obtain ⟨h6, h7⟩ := List.getElem?_eq_some_iff.mp hy
          rw [h7, ← e4] at h5
          simp at h5
      · have kl : Kp [lf] H8 (upd H8 lf (.lst (us.eraseIdx (left.idxOf l)))) := (Kp.refl _ _).put (by simp) elf8 (o := _)
        have ee : left.erase l = left.eraseIdx (left.idxOf l) := List.erase_eq_eraseIdx_of_idxOf rfl
        have le : (left.erase l).length = left.length - 1 := List.length_erase_of_mem ml
        have lr : left.length = rest.length + 1 := by rw [hl0]; rfl
        refine ⟨(left.erase l).length, by omega, _, us.eraseIdx (left.idxOf l), ps ++ [.ref tx], left.erase l, acc ++ [l], rfl, rfl, upd_same, ?_, kl.keep _ _ epl8 (by simpa using nlp.symm), pp8.keep kl, k08.own hlfH _, fun y hy => inl y (List.mem_of_mem_erase hy), by rw [List.length_append, List.length_singleton]; omega, ?_⟩
        · rw [ee]
          exact (pu8.keep kl).eraseIdx _
        · rw [show (left.erase l).length = rest.length by omega, ← hgo']
          exact hg
end
end Hb
set_option maxHeartbeats 1000000
/-! k44: crossings, equal tables -/
namespace Hb
open PySem PySem.Spec PyProof.Rows L2
/-- a crossing of the one cell and the other -/
def crossF (g : Str × Str → Bool) (ws : List Str) (p : Str × Str) : Option (Str × Str × Str × Str) := match ofOne g ws p.1 p.2, ofOne g ws p.2 p.1 with
  | w :: _, o :: _ => some (p.1, p.2, w, o)
  | _, _ => none
def crossT (g : Str × Str → Bool) (cs ws : List Str) : Option (Str × Str × Str × Str) := (gridP cs cs).findSome? (crossF g ws)
theorem grid_split {cs ds : List Str} {i j : Nat} {c o : Str} (hc : cs[i]? = some c) (ho : ds[j]? = some o) : ∃ rest, gridP cs ds = (gridP (cs.take i) ds ++ (ds.take j).map fun z => (c, z)) ++ (c, o) :: rest := by
  obtain ⟨hi, ec⟩ := List.getElem?_eq_some_iff.mp hc
  obtain ⟨hj, eo⟩ := List.getElem?_eq_some_iff.mp ho
  have e1 : cs = cs.take i ++ c :: cs.drop (i + 1) := by
    rw [← ec, ← List.drop_eq_getElem_cons hi, List.take_append_drop]
  have e2 : ds = ds.take j ++ o :: ds.drop (j + 1) := by
    rw [← eo, ← List.drop_eq_getElem_cons hj, List.take_append_drop]
  refine ⟨(ds.drop (j + 1)).map (fun z => (c, z)) ++ gridP (cs.drop (i + 1)) ds, ?_⟩
  have a : gridP cs ds = gridP (cs.take i) ds ++ gridP (c :: cs.drop (i + 1)) ds := by
    conv => lhs; rw [e1]
    unfold gridP
    rw [List.flatMap_append]
  have b : gridP (c :: cs.drop (i + 1)) ds = (ds.map fun z => (c, z)) ++ gridP (cs.drop (i + 1)) ds := rfl
  have d : (ds.map fun z => (c, z)) = ((ds.take j).map fun z => (c, z)) ++ (c, o) :: (ds.drop (j + 1)).map fun z => (c, z) := by
    conv => lhs; rw [e2]
    rw [List.map_append, List.map_cons]
  rw [a, b, d]
  simp only [List.append_assoc, List.cons_append]
def spCross (K : PySem.W.Frag) (C : Addr) : Sp := fun vs H Q _ => ∃ (a : Addr) (cs ws : List Str) (g : Str × Str → Bool), vs = [.ref a] ∧ TabAt C H a cs ws g ∧ (∀ c ∈ cs, okName c) ∧ (∀ c ∈ ws, okName c) ∧ ws.length ≤ 1000 ∧
  (crossT g cs ws = none → ∀ H', Kp [] H H' → Q .non H') ∧ ∀ x, crossT g cs ws = some x → ∀ (t : Addr) (H' : Hp), H' t = some (.tup [.str x.1, .str x.2.1, .str x.2.2.1, .str x.2.2.2]) → Kp [] H H' → Q (.ref t) H'
section
variable {P : Program} {w : World} {K : PySem.W.Frag} {mg : Str → Option Value} {base : Heap} {f f1 f2 f3 C : Addr} {fd fd1 fd2 fd3 : FuncData}
theorem ok_ways_of_one (D : Df K mg "ways_of_one" st_ways_of_one ["table", "cell", "other"] f fd) (c : Tc K mg C) (G_ways : FnOk P w K mg base CX0 1 f3 fd3 ["self"] (spTList C true)) (D_ways : Dm K C "ways" "Table.ways" st_Table_ways ["self"] f3 fd3)
    (G_get : FnOk P w K mg base CX0 3 f1 fd1 ["self", "at"] (spTAt K C)) (D_get : Dm K C "__getitem__" "Table.__getitem__" st_Table_getitem ["self", "at"] f1 fd1) (fnG : PySem.W.fnIn K f1 = true) : FnG P w K mg base CX0 5 f fd ["table", "cell", "other"] (spOfOne C) := by
  refine okG D.fn sc_ways_of_one (fun vs H Q E h => ?_) (fun cdv A outer s H vs Q E hg hr h => ?_)
  · obtain ⟨a, cs, ws, g, c, o, rfl, _⟩ := h
    rfl
  obtain ⟨a, cs, ws, g, cc, oo, rfl, tab, mc, mo, oc, ow, lw, q⟩ := h
  have nd := sc_ways_of_one.nd
  refine ⟨_, PSs.nox (pss_one (ps_ret (pe_lc (own := [("way", 3)]) (g := gName 3) rfl nd (pi_list (pe_meth0 (pv 0) c.cls D_ways.me G_ways (hr.mono (by decide)) D_ways.bd .nil pass0)) (blkOk_by (own := [("way", 3)]) (N := ["table", "cell", "other", "way"]) (sc := defScope st_ways_of_one) (by decide +kernel)) (fun _ _ _ _ _ => pg_name (i := 3) nd rfl (Or.inl rfl))
    (fun _ _ _ _ _ => by (apply PTs.to); (focus (exact pts_one (PW.pt (pw_and (pt_val (pe_ixOwn D_get.me.at_ fnG D_get.me.fn (FnG.of G_get) hg hr D_get.bd pass0 (pv 0) (pe_tup (pa_cons (pv 1) (pa_cons (pv 3) pa_nil))))) (pw_and1 (pt_not (pt_val (pe_ixOwn D_get.me.at_ fnG D_get.me.fn (FnG.of G_get) hg hr D_get.bd pass0 (pv 0) (pe_tup (pa_cons (pv 2) (pa_cons (pv 3) pa_nil))))))))))); (focus ((try dsimp only [Cx.blk, Cx.nox, cxOf]); (try exact rfl)))) (fun _ _ _ _ _ => pv 3)))), ?_⟩
  obtain ⟨dx, fs, ha, _, lk, _⟩ := tab.ins
  refine ⟨_, rfl, a, dx, fs, rfl, ha, lk, a, cs, ws, g, rfl, tab, fun r H1 hr1 er1 k1 => ?_⟩
  refine ⟨r, rfl, ⟨_, SqL.of er1⟩, fun D1 hD1 => ?_⟩
  refine lc_list (K := K) (a := r) (xs := ws.map V.str) (fun i H' => H' D1 = some (.lst ((ofOne g (ws.take i) cc oo).map V.str)) ∧ Kp [] H1 H') ?_ ?_ ?_ ?_
  · exact ⟨upd_same, (Kp.refl _ _).new hD1 _⟩
  · rintro i H' hi ⟨e1, k⟩
    exact SqL.of (k.keep _ _ er1 List.not_mem_nil)
  · rintro i x H2 hx ⟨e1, k⟩
    rw [List.getElem?_map] at hx
    obtain ⟨y, hy, rfl⟩ := Option.map_eq_some_iff.mp hx
    have my := List.mem_of_getElem? hy
    have et : ws.take (i + 1) = ws.take i ++ [y] := by rw [List.take_add_one, hy]; rfl
    have e0 : ofOne g (ws.take (i + 1)) cc oo = ofOne g (ws.take i) cc oo ++ if (g (cc, y) && !g (oo, y)) = true then [y] else [] := by
      unfold ofOne
      rw [et, List.filter_append, List.filter_cons]
      rfl
    have ll := List.length_filter_le (fun w => g (cc, w) && !g (oo, w)) (ws.take i)
    have lt := List.length_take_le' i ws
    have l3 : (ofOne g (ws.take i) cc oo).length ≤ 1000 := Nat.le_trans ll (Nat.le_trans lt lw)
    refine ⟨rfl, ?_⟩
    refine ⟨_, rfl, _, rfl, _, rfl, by show 2 ≤ sizeLine; decide, fun t ht => ?_⟩
    have kt : Kp [] H2 (upd H2 t (.tup [.str cc, .str y])) := (Kp.refl _ _).new ht _
    refine ⟨a, dx, fs, rfl, kt.keep _ _ (k.keep _ _ (k1.keep _ _ ha List.not_mem_nil) List.not_mem_nil) List.not_mem_nil, a, t, cs, ws, g, (cc, y), rfl, ((tab.keep k1).keep k).keep kt, SqT.of upd_same, mc, my, oc _ mc, ow _ my, fun H3 k3 => ?_⟩
    have k23 := kt.trans k3
    refine ⟨_, rfl, ?_⟩
    cases hb : g (cc, y) with
    | false =>
      refine iteF_of rfl ?_
      refine iteF_of rfl ?_
      refine ⟨?_, k.trans k23⟩
      rw [e0, hb]
      simpa using k23.keep _ _ e1 List.not_mem_nil
    | true =>
      refine iteT_of rfl ?_
      refine ⟨_, rfl, _, rfl, _, rfl, by show 2 ≤ sizeLine; decide, fun t2 ht2 => ?_⟩
      have kt2 : Kp [] H3 (upd H3 t2 (.tup [.str oo, .str y])) := (Kp.refl _ _).new ht2 _
      refine ⟨a, dx, fs, rfl, kt2.keep _ _ (k23.keep _ _ (k.keep _ _ (k1.keep _ _ ha List.not_mem_nil) List.not_mem_nil) List.not_mem_nil) List.not_mem_nil, a, t2, cs, ws, g, (oo, y), rfl, (((tab.keep k1).keep k).keep k23).keep kt2, SqT.of upd_same, mo, my, oc _ mo, ow _ my, fun H4 k4 => ?_⟩
      have k24 := k23.trans (kt2.trans k4)
      have e4 := k24.keep _ _ e1 List.not_mem_nil
      refine ⟨_, rfl, ?_⟩
      cases hb2 : g (oo, y) with
      | true =>
        refine iteF_of rfl ?_
        refine ⟨?_, k.trans k24⟩
        rw [e0, hb, hb2]
        simpa using e4
      | false =>
        refine iteT_of rfl ?_
        refine ⟨_, rfl, _, e4, by rw [List.length_map, sizeLine_eq]; omega, ?_, (k.trans k24).own hD1 _⟩
        rw [upd_same, e0, hb, hb2, List.map_append]
        rfl
  rintro H2 ⟨e1, k⟩
  rw [List.length_map, List.take_of_length_le (Nat.le_refl _)] at e1
  exact q D1 H2 (k1.free hD1 List.not_mem_nil) e1 (k1.trans k)
theorem ok_crossing (D : Df K mg "crossing" st_crossing ["table"] f fd) (c : Tc K mg C) (G_cells : FnOk P w K mg base CX0 1 f2 fd2 ["self"] (spTList C false)) (D_cells : Dm K C "cells" "Table.cells" st_Table_cells ["self"] f2 fd2)
    (G_one : FnG P w K mg base CX0 5 f1 fd1 ["table", "cell", "other"] (spOfOne C)) (D_one : Df K mg "ways_of_one" st_ways_of_one ["table", "cell", "other"] f1 fd1) : FnG P w K mg base CX0 6 f fd ["table"] (spCross K C) := by
  refine okG D.fn sc_crossing (fun vs H Q E h => ?_) (fun cdv A outer s H vs Q E hg hr h => ?_)
  · obtain ⟨a, cs, ws, g, rfl, _⟩ := h
    rfl
  obtain ⟨a, cs, ws, g, rfl, tab, oc, ow, lw, q1, q2⟩ := h
  have nd := sc_crossing.nd
  refine ⟨_, PSs.nox (pss_cons (ps_for PassesOwn.never rfl (pi_list (pe_meth0 (pv 0) c.cls D_cells.me G_cells (hr.mono (by decide)) D_cells.bd .nil pass0)) (pg_name (i := 1) nd rfl (.inl rfl))
      (pss_one (ps_for PassesOwn.never rfl (pi_list (pe_meth0 (pv 0) c.cls D_cells.me G_cells (hr.mono (by decide)) D_cells.bd .nil pass0)) (pg_name (i := 2) nd rfl (.inl rfl))
        (pss_cons (ps_set (i := 3) nd rfl (.inl rfl) (pe_callG G_one hg hr (by rfl) D_one.gl D_one.fn.kp D_one.bd .nil pass0 (pa_cons (pv 0) (pa_cons (pv 1) (pa_cons (pv 2) pa_nil)))))
        (pss_cons (ps_set (i := 4) nd rfl (.inl rfl) (pe_callG G_one hg hr (by rfl) D_one.gl D_one.fn.kp D_one.bd .nil pass0 (pa_cons (pv 0) (pa_cons (pv 2) (pa_cons (pv 1) pa_nil)))))
        (pss_one (ps_if (PW.pt (pw_and (pt_truth (pv 3) (by intro _; rfl)) (pw_and1 (pt_truth (pv 4) (by intro _; rfl))))) (pss_one (ps_ret (pe_tup (pa_cons (pv 1) (pa_cons (pv 2) (pa_cons (pe_ix ix_list (pv 3) pe_int (fun _ _ => rfl)) (pa_cons (pe_ix ix_list (pv 4) pe_int (fun _ _ => rfl)) pa_nil))))))) pss_nil)))))))
    (pss_one (ps_ret pe_non))), ?_⟩
  obtain ⟨dx, fs, ha, lk, _⟩ := tab.ins
  refine ⟨_, rfl, a, dx, fs, rfl, ha, lk, a, cs, ws, g, rfl, tab, fun r H1 hr1 er1 k1 => ?_⟩
  refine ⟨r, rfl, ⟨_, SqL.of er1⟩, for_list (K := K) (a := r) (xs := cs.map V.str) (fun i σ H' => ∃ v1 v2 v3 v4 : Option V, σ = [some (.ref a), v1, v2, v3, v4] ∧ (gridP (cs.take i) cs).findSome? (crossF g ws) = none ∧ Kp [] H1 H') ?_ ?_ ?_ ?_⟩
  · exact ⟨none, none, none, none, rfl, rfl, Kp.refl _ _⟩
  · rintro i σ H' hi ⟨v1, v2, v3, v4, rfl, e, k⟩
    exact SqL.of (k.keep _ _ er1 List.not_mem_nil)
  · rintro i x σ H2 hx ⟨v1, v2, v3, v4, rfl, e, k2⟩
    rw [List.getElem?_map] at hx
    obtain ⟨cc, hc, rfl⟩ := Option.map_eq_some_iff.mp hx
    have mc := List.mem_of_getElem? hc
    have k12 := k1.trans k2
    refine ⟨_, rfl, a, dx, fs, rfl, k12.keep _ _ ha List.not_mem_nil, lk, a, cs, ws, g, rfl, tab.keep k12, fun r2 H3 hr2 er2 k3 => ?_⟩
    refine ⟨r2, rfl, ⟨_, SqL.of er2⟩, for_list (K := K) (a := r2) (xs := cs.map V.str) (fun j σ H' => ∃ v2 v3 v4 : Option V, σ = [some (.ref a), some (.str cc), v2, v3, v4] ∧ (gridP (cs.take i) cs ++ (cs.take j).map fun z => (cc, z)).findSome? (crossF g ws) = none ∧ Kp [] H3 H') ?_ ?_ ?_ ?_⟩
    · exact ⟨v2, v3, v4, rfl, by rw [List.take_zero, List.map_nil, List.append_nil]; exact e, Kp.refl _ _⟩
    · rintro j σ H' hj ⟨v2, v3, v4, rfl, e, k⟩
      exact SqL.of (k.keep _ _ er2 List.not_mem_nil)
    · rintro j x σ H4 hx ⟨v2, v3, v4, rfl, e4, k4⟩
      rw [List.getElem?_map] at hx
      obtain ⟨oo, ho, rfl⟩ := Option.map_eq_some_iff.mp hx
      have mo := List.mem_of_getElem? ho
      have k14 := (k12.trans k3).trans k4
      refine ⟨_, rfl, _, rfl, _, rfl, a, cs, ws, g, cc, oo, rfl, tab.keep k14, mc, mo, oc, ow, lw, fun p1 H5 hp1 ep1 k5 => ?_⟩
      refine ⟨_, rfl, _, rfl, _, rfl, a, cs, ws, g, oo, cc, rfl, tab.keep (k14.trans k5), mo, mc, oc, ow, lw, fun p2 H6 hp2 ep2 k6 => ?_⟩
      have ep1' := k6.keep _ _ ep1 List.not_mem_nil
      have k16 := (k14.trans k5).trans k6
      obtain ⟨rest, eg⟩ := grid_split (cs := cs) (ds := cs) hc ho
      have next : crossF g ws (cc, oo) = none → ∃ v2 v3 v4 : Option V, [some (V.ref a), some (V.str cc), some (V.str oo), some (V.ref p1), some (V.ref p2)] = [some (.ref a), some (.str cc), v2, v3, v4] ∧ (gridP (cs.take i) cs ++ (cs.take (j + 1)).map fun z => (cc, z)).findSome? (crossF g ws) = none ∧ Kp [] H3 H6 := fun hn => by
        refine ⟨_, _, _, rfl, ?_, (k4.trans k5).trans k6⟩
        rw [List.take_add_one, ho, List.map_append, ← List.append_assoc, List.findSome?_append, e4]
        show Option.or none (List.findSome? (crossF g ws) [(cc, oo)]) = none
        simp [hn]
      refine ⟨_, rfl, !((ofOne g ws cc oo).map V.str).isEmpty, .inl ⟨_, SqL.of ep1', rfl⟩, ?_⟩
      cases h1 : ofOne g ws cc oo with
      | nil =>
        refine iteF_of rfl ?_
        refine iteF_of rfl ?_
        exact next (by unfold crossF; rw [h1])
      | cons w1 t1 =>
        refine iteT_of rfl ?_
        refine ⟨_, rfl, !((ofOne g ws oo cc).map V.str).isEmpty, .inl ⟨_, SqL.of ep2, rfl⟩, ?_⟩
        cases h2 : ofOne g ws oo cc with
        | nil =>
          refine iteF_of rfl ?_
          exact next (by unfold crossF; rw [h1, h2])
        | cons w2 t2 =>
          refine iteT_of rfl ?_
          rw [h1] at ep1'
          rw [h2] at ep2
          have hx : crossT g cs ws = some (cc, oo, w1, w2) := by
            unfold crossT
            rw [eg, List.findSome?_append, e4]
            show Option.or none (List.findSome? (crossF g ws) ((cc, oo) :: rest)) = _
            have : crossF g ws (cc, oo) = some (cc, oo, w1, w2) := by unfold crossF; rw [h1, h2]
            simp [this]
          refine ⟨_, rfl, _, rfl, _, rfl, p1, _, 0, .str w1, rfl, rfl, SqL.of ep1', at0P _ _, _, rfl, p2, _, 0, .str w2, rfl, rfl, SqL.of ep2, at0P _ _, by show 4 ≤ sizeLine; decide, fun t ht => ?_⟩
          exact q2 _ hx t _ upd_same (k16.new ht _)
    · rintro σ H4 ⟨v2, v3, v4, rfl, e4, k4⟩
      rw [List.length_map, List.take_of_length_le (Nat.le_refl _)] at e4
      refine ⟨_, _, _, _, rfl, ?_, (k2.trans k3).trans k4⟩
      rw [List.take_add_one, hc]
      show (gridP (cs.take i ++ [cc]) cs).findSome? (crossF g ws) = none
      rw [gridP_snoc]
      exact e4
  rintro σ H2 ⟨v1, v2, v3, v4, rfl, e, k⟩
  rw [List.length_map, List.take_of_length_le (Nat.le_refl _)] at e
  exact q1 e H2 (k1.trans k)
end
end Hb
set_option maxHeartbeats 1000000
/-! k44: a pile or a crossing -/
namespace Hb
open PySem PySem.Spec PyProof.Rows L2
/-- what the order of a pile says -/
def okPile (g : Str × Str → Bool) (L : List (Str × Str)) : Prop := L.Pairwise fun x y => aheadT g y x = false
theorem pile_none {g : Str × Str → Bool} : ∀ (n : Nat) (left acc : List (Str × Str)), left.length = n → pileG g n left acc = none → ∃ S : List (Str × Str), S ≠ [] ∧ (∀ l ∈ S, l ∈ left) ∧ ∀ l ∈ S, ∃ o ∈ S, aheadT g o l = true := by
  intro n
  induction n with
  | zero =>
    intro left acc h e
    cases e
  | succ n ih =>
    intro left acc h e
    cases left with
    | nil => cases h
    | cons l0 rest =>
      cases hf : freeOf g (l0 :: rest) with
      | nil =>
        refine ⟨l0 :: rest, by simp, fun _ m => m, fun l m => ?_⟩
        have := List.filter_eq_nil_iff.mp hf l m
        simp only [Bool.not_eq_true', Bool.not_eq_false] at this
        obtain ⟨o, h1, h2⟩ := List.any_eq_true.mp this
        exact ⟨o, h1, h2⟩
      | cons l fr =>
        have ml : l ∈ l0 :: rest := by
          have : l ∈ freeOf g (l0 :: rest) := by rw [hf]; exact List.mem_cons_self
          exact (List.mem_filter.mp this).1
        have e' : pileG g n ((l0 :: rest).erase l) (acc ++ [l]) = none := by
          unfold pileG at e
          rw [hf] at e
          exact e
        obtain ⟨S, h1, h2, h3⟩ := ih _ _ (by rw [List.length_erase_of_mem ml, h]; rfl) e'
        exact ⟨S, h1, fun y m => List.mem_of_mem_erase (h2 y m), h3⟩
theorem pile_some {g : Str × Str → Bool} : ∀ (n : Nat) (left acc L : List (Str × Str)), left.length = n → pileG g n left acc = some L → ∃ M, L = acc ++ M ∧ M.Perm left ∧ okPile g M := by
  intro n
  induction n with
  | zero =>
    intro left acc L h e
    obtain rfl := List.length_eq_zero_iff.mp h
    cases e
    exact ⟨[], by simp, List.Perm.refl _, List.Pairwise.nil⟩
  | succ n ih =>
    intro left acc L h e
    cases left with
    | nil => cases h
    | cons l0 rest =>
      cases hf : freeOf g (l0 :: rest) with
      | nil =>
        unfold pileG at e
        rw [hf] at e
        cases e
      | cons l fr =>
        have mf : l ∈ freeOf g (l0 :: rest) := by rw [hf]; exact List.mem_cons_self
        obtain ⟨ml, hl⟩ := List.mem_filter.mp mf
        have e' : pileG g n ((l0 :: rest).erase l) (acc ++ [l]) = some L := by
          unfold pileG at e
          rw [hf] at e
          exact e
        obtain ⟨M, h1, h2, h3⟩ := ih _ _ _ (by rw [List.length_erase_of_mem ml, h]; rfl) e'
        refine ⟨l :: M, by rw [h1]; simp, (h2.cons l).trans (List.perm_cons_erase ml).symm, List.pairwise_cons.mpr ⟨fun y hy => ?_, h3⟩⟩
        have hy' : y ∈ l0 :: rest := List.mem_of_mem_erase (h2.mem_iff.mp hy)
        have hn : ((l0 :: rest).any fun o => aheadT g o l) = false := by simpa using hl
        have := List.any_eq_false.mp hn y hy'
        simpa using this
theorem ahead_wc (g : Str × Str → Bool) (c w : Str) : aheadT g (wL w) (cL c) = g (c, w) := by
  unfold aheadT
  rw [if_neg (show ¬ (("way" : Str) = "cell") by decide +kernel), if_pos rfl]
theorem ahead_cw (g : Str × Str → Bool) (c w : Str) : aheadT g (cL c) (wL w) = !g (c, w) := by
  unfold aheadT
  rw [if_neg (show ¬ (("cell" : Str) = "way") by decide +kernel), if_neg (show ¬ (("cell" : Str) = "way") by decide +kernel)]
/-- of two that stand in it the first one is the one with the smaller index -/
theorem okPile_ix {g : Str × Str → Bool} {M : List (Str × Str)} (h : okPile g M) {x y : Str × Str} (hx : x ∈ M) (hy : y ∈ M) (lt : M.idxOf x < M.idxOf y) : aheadT g y x = false := by
  have h1 := List.idxOf_lt_length_of_mem hx
  have h2 := List.idxOf_lt_length_of_mem hy
  have := (List.pairwise_iff_getElem.mp h) _ _ h1 h2 lt
  rwa [List.getElem_idxOf, List.getElem_idxOf] at this
theorem okPile_ahead {g : Str × Str → Bool} {M : List (Str × Str)} (h : okPile g M) {c w : Str} (hc : cL c ∈ M) (hw : wL w ∈ M) : ahead M (c, w) = g (c, w) := by
  unfold ahead
  by_cases lt : M.idxOf (wL w) < M.idxOf (cL c)
  · rw [decide_eq_true lt]
    have := okPile_ix h hw hc lt
    rw [ahead_cw] at this
    simpa using this.symm
  · rw [decide_eq_false lt]
    have ne : M.idxOf (cL c) ≠ M.idxOf (wL w) := fun z => by
      have h1 := List.idxOf_lt_length_of_mem hc
      have h2 := List.idxOf_lt_length_of_mem hw
      have e1 : M[M.idxOf (cL c)] = cL c := List.getElem_idxOf h1
      have e2 : M[M.idxOf (wL w)] = wL w := List.getElem_idxOf h2
      have : cL c = wL w := by rw [← e1, ← e2]; congr 1
      exact cell_way _ _ this
    have := okPile_ix h hc hw (by omega)
    rw [ahead_wc] at this
    exact this.symm
/-- a crossing is none of an order -/
theorem cross_order {g : Str × Str → Bool} {M : List (Str × Str)} {cs ws : List Str} (hc : ∀ c ∈ cs, cL c ∈ M) (hw : ∀ w ∈ ws, wL w ∈ M) (ha : ∀ c ∈ cs, ∀ w ∈ ws, ahead M (c, w) = g (c, w)) {x : Str × Str × Str × Str} (h : crossT g cs ws = some x) : False := by
  unfold crossT at h
  obtain ⟨p, hp, e⟩ := List.exists_of_findSome?_eq_some h
  obtain ⟨m1, m2⟩ := mem_gridP.mp hp
  unfold crossF at e
  cases h1 : ofOne g ws p.1 p.2 with
  | nil => rw [h1] at e; cases e
  | cons w t1 =>
    cases h2 : ofOne g ws p.2 p.1 with
    | nil => rw [h1, h2] at e; cases e
    | cons v t2 =>
      have a1 : w ∈ ofOne g ws p.1 p.2 := by rw [h1]; exact List.mem_cons_self
      have a2 : v ∈ ofOne g ws p.2 p.1 := by rw [h2]; exact List.mem_cons_self
      obtain ⟨b1, b2⟩ := List.mem_filter.mp a1
      obtain ⟨b3, b4⟩ := List.mem_filter.mp a2
      simp only [Bool.and_eq_true, Bool.not_eq_true'] at b2 b4
      have q1 := (ha _ m1 _ b1).trans b2.1
      have q2 := (ha _ m2 _ b1).trans b2.2
      have q3 := (ha _ m2 _ b3).trans b4.1
      have q4 := (ha _ m1 _ b3).trans b4.2
      unfold ahead at q1 q2 q3 q4
      have n1 := of_decide_eq_true q1
      have n2 := of_decide_eq_false q2
      have n3 := of_decide_eq_true q3
      have n4 := of_decide_eq_false q4
      dsimp only at n1 n2 n3 n4
      omega
/-- where none of S may stand first there is a crossing -/
theorem stuck_cross {g : Str × Str → Bool} {cs ws : List Str} {S : List (Str × Str)} (ne : S ≠ []) (inS : ∀ l ∈ S, inLay cs ws l) (h : ∀ l ∈ S, ∃ o ∈ S, aheadT g o l = true) : crossT g cs ws ≠ none := by
  -- the ways of S ahead of a cell
  have inC : ∀ c, cL c ∈ S → c ∈ cs := fun c m => by
    rcases inS _ m with ⟨_, h2⟩ | ⟨h1, _⟩
    · exact h2
    · exact absurd (show ("cell" : Str) = "way" from h1) (by decide +kernel)
  have inW : ∀ w, wL w ∈ S → w ∈ ws := fun w m => by
    rcases inS _ m with ⟨h1, _⟩ | ⟨_, h2⟩
    · exact absurd (show ("way" : Str) = "cell" from h1) (by decide +kernel)
    · exact h2
  have form : ∀ l ∈ S, l = cL l.2 ∨ l = wL l.2 := fun l m => by
    rcases inS l m with ⟨h1, _⟩ | ⟨h1, _⟩
    · exact .inl (Prod.ext h1 rfl)
    · exact .inr (Prod.ext h1 rfl)
  have predC : ∀ c, cL c ∈ S → ∃ w, wL w ∈ S ∧ g (c, w) = true := fun c m => by
    obtain ⟨o, ho, e⟩ := h _ m
    rcases form o ho with q | q
    · rw [q] at e
      unfold aheadT at e
      rw [if_pos rfl] at e
      cases e
    · rw [q, ahead_wc] at e
      exact ⟨o.2, by rw [← q]; exact ho, e⟩
  have predW : ∀ w, wL w ∈ S → ∃ c, cL c ∈ S ∧ g (c, w) = false := fun w m => by
    obtain ⟨o, ho, e⟩ := h _ m
    rcases form o ho with q | q
    · rw [q, ahead_cw] at e
      exact ⟨o.2, by rw [← q]; exact ho, by simpa using e⟩
    · rw [q] at e
      unfold aheadT at e
      rw [if_pos rfl] at e
      cases e
  have some : ∃ c, cL c ∈ S := by
    obtain ⟨l, t, rfl⟩ := List.exists_cons_of_ne_nil ne
    rcases form l List.mem_cons_self with q | q
    · exact ⟨l.2, by rw [← q]; exact List.mem_cons_self⟩
    · obtain ⟨c, hc, _⟩ := predW l.2 (by rw [← q]; exact List.mem_cons_self)
      exact ⟨c, hc⟩
  -- a cell with the fewest such ways
  let cnt : Str → Nat := fun c => (ws.filter fun w => decide (wL w ∈ S) && g (c, w)).length
  have best : ∀ n, ∀ c, cL c ∈ S → cnt c = n → ∃ c, cL c ∈ S ∧ ∀ d, cL d ∈ S → cnt c ≤ cnt d := by
    intro n
    induction n using Nat.strongRecOn with
    | _ n ih =>
      intro c hc e
      by_cases q : ∃ d, cL d ∈ S ∧ cnt d < cnt c
      · obtain ⟨d, h1, h2⟩ := q
        exact ih (cnt d) (by rw [← e]; exact h2) d h1 rfl
      · exact ⟨c, hc, fun d hd => Nat.le_of_not_lt fun z => q ⟨d, hd, z⟩⟩
  obtain ⟨c0, hc0⟩ := some
  obtain ⟨c, hc, least⟩ := best _ c0 hc0 rfl
  obtain ⟨w, hw, gw⟩ := predC c hc
  obtain ⟨o, ho, go⟩ := predW w hw
  -- some way ahead of o is not ahead of c
  have : ∃ v, wL v ∈ S ∧ g (o, v) = true ∧ g (c, v) = false := by
    refine Classical.byContradiction fun no => ?_
    have sub : ∀ v, wL v ∈ S → g (o, v) = true → g (c, v) = true := fun v h1 h2 => by
      cases q : g (c, v) with
      | true => rfl
      | false => exact absurd ⟨v, h1, h2, q⟩ no
    have lt : cnt o < cnt c := by
      show (ws.filter _).length < (ws.filter _).length
      have mw := inW w hw
      clear least best
      have key : ∀ us : List Str, (us.filter fun w => decide (wL w ∈ S) && g (o, w)).length ≤ (us.filter fun w => decide (wL w ∈ S) && g (c, w)).length ∧ (w ∈ us → (us.filter fun w => decide (wL w ∈ S) && g (o, w)).length < (us.filter fun w => decide (wL w ∈ S) && g (c, w)).length) := by
        intro us
        induction us with
        | nil => exact ⟨Nat.le_refl _, fun z => absurd z List.not_mem_nil⟩
        | cons u us ih =>
          obtain ⟨i1, i2⟩ := ih
          rw [List.filter_cons, List.filter_cons]
          by_cases hu : (decide (wL u ∈ S) && g (o, u)) = true
          · have hu2 : (decide (wL u ∈ S) && g (c, u)) = true := by
              simp only [Bool.and_eq_true, decide_eq_true_iff] at hu ⊢
              exact ⟨hu.1, sub u hu.1 hu.2⟩
            rw [if_pos hu, if_pos hu2]
            refine ⟨by simp only [List.length_cons]; omega, fun m => ?_⟩
            rcases List.mem_cons.mp m with e | m
            · rw [e] at go
              simp only [Bool.and_eq_true] at hu
              rw [go] at hu
              exact absurd hu.2 (by decide)
            · have := i2 m
              simp only [List.length_cons]
              omega
          · rw [if_neg hu]
            by_cases hu2 : (decide (wL u ∈ S) && g (c, u)) = true
            · rw [if_pos hu2]
              simp only [List.length_cons]
              exact ⟨by omega, fun _ => by omega⟩
            · rw [if_neg hu2]
              refine ⟨i1, fun m => ?_⟩
              rcases List.mem_cons.mp m with e | m
              · refine absurd ?_ hu2
                rw [← e]
                simp only [Bool.and_eq_true, decide_eq_true_iff]
                exact ⟨hw, gw⟩
              · exact i2 m
      exact (key ws).2 mw
    have := least o ho
    omega
  obtain ⟨v, hv, gv, gv2⟩ := this
  intro hn
  unfold crossT at hn
  have := List.findSome?_eq_none_iff.mp hn (c, o) (mem_gridP.mpr ⟨inC c hc, inC o ho⟩)
  unfold crossF at this
  have m1 : w ∈ ofOne g ws c o := List.mem_filter.mpr ⟨inW w hw, by simp [gw, go]⟩
  have m2 : v ∈ ofOne g ws o c := List.mem_filter.mpr ⟨inW v hv, by simp [gv, gv2]⟩
  dsimp only at this
  cases h1 : ofOne g ws c o with
  | nil => rw [h1] at m1; cases m1
  | cons a b =>
    cases h2 : ofOne g ws o c with
    | nil => rw [h2] at m2; cases m2
    | cons a2 b2 =>
      rw [h1, h2] at this
      cases this
theorem lay_in {cs ws : List Str} {l : Str × Str} (m : l ∈ layL cs ws) : inLay cs ws l := by
  unfold layL at m
  rcases List.mem_append.mp m with m | m
  · obtain ⟨x, hx, rfl⟩ := List.mem_map.mp m
    exact .inl ⟨rfl, hx⟩
  · obtain ⟨x, hx, rfl⟩ := List.mem_map.mp m
    exact .inr ⟨rfl, hx⟩
theorem lay_c {cs ws : List Str} {c : Str} (h : c ∈ cs) : cL c ∈ layL cs ws := List.mem_append_left _ (List.mem_map.mpr ⟨c, h, rfl⟩)
theorem lay_w {cs ws : List Str} {c : Str} (h : c ∈ ws) : wL c ∈ layL cs ws := List.mem_append_right _ (List.mem_map.mpr ⟨c, h, rfl⟩)
/-- each table has either a pile or a crossing -/
theorem pile_or_cross (g : Str × Str → Bool) (cs ws : List Str) : (pileG g (layL cs ws).length (layL cs ws) [] = none) ↔ crossT g cs ws ≠ none := by
  constructor
  · intro h
    obtain ⟨S, h1, h2, h3⟩ := pile_none _ _ _ rfl h
    exact stuck_cross h1 (fun l m => lay_in (h2 l m)) h3
  · intro h
    cases e : pileG g (layL cs ws).length (layL cs ws) [] with
    | none => rfl
    | some L =>
      obtain ⟨M, _, p, ok⟩ := pile_some _ _ _ _ rfl e
      cases hx : crossT g cs ws with
      | none => exact absurd hx h
      | some x => exact (cross_order (M := M) (fun c m => p.mem_iff.mpr (lay_c m)) (fun w m => p.mem_iff.mpr (lay_w m)) (fun c m w n => okPile_ahead ok (p.mem_iff.mpr (lay_c m)) (p.mem_iff.mpr (lay_w n))) hx).elim
/-- what a pile puts back has one -/
theorem pile_of_order {g : Str × Str → Bool} {cs ws : List Str} {M : List (Str × Str)} (p : M.Perm (layL cs ws)) (h : ∀ c ∈ cs, ∀ w ∈ ws, g (c, w) = ahead M (c, w)) : pileG g (layL cs ws).length (layL cs ws) [] ≠ none := fun e => by
  have := (pile_or_cross g cs ws).mp e
  cases hx : crossT g cs ws with
  | none => exact this hx
  | some x => exact cross_order (M := M) (fun c m => p.mem_iff.mpr (lay_c m)) (fun w m => p.mem_iff.mpr (lay_w m)) (fun c m w n => (h c m w n).symm) hx
end Hb
set_option maxHeartbeats 1000000
/-! k44: the law's own look at squares -/
namespace Hb
open PySem PySem.Spec PyProof.Rows L2
abbrev st_squares : Stmt := top 34
abbrev st_is_ready : Stmt := top 38
abbrev st_stacked : Stmt := top 39
abbrev st_crossed : Stmt := top 40
abbrev st_least_crossing : Stmt := top 41
theorem sc_crossed : FnScope ["_law_squares_here", "_law_cell", "_law_other", "_law_way", "_law_over"] ["_law_squares_here", "_law_cell", "_law_other", "_law_way", "_law_over"] (defScope st_crossed) := ⟨rfl, rfl, rfl, by decide +kernel, rfl, by decide +kernel, by decide +kernel⟩
theorem sc_is_ready : FnScope ["_law_layer", "_law_left", "_law_squares_here", "_law_kind", "_law_name_here", "_law_other"] ["_law_layer", "_law_left", "_law_squares_here"] (defScope st_is_ready) := ⟨rfl, rfl, rfl, by decide +kernel, rfl, by decide +kernel, by decide +kernel⟩
/-- a square whose names are names -/
def okSq (x : Str × Str) : Prop := okName x.1 ∧ okName x.2
theorem sqD_nice {x : Str × Str} (h : okSq x) : nice (pairD x) = true := by
  simp only [pairD, nice, niceAll, Bool.and_true, Bool.and_eq_true]
  exact ⟨decide_eq_true (okName_small h.1), decide_eq_true (okName_small h.2)⟩
theorem sqsD_nice : ∀ {L : List (Str × Str)}, (∀ l ∈ L, okSq l) → niceAll (L.map pairD) = true
  | [], _ => rfl
  | l :: L, h => by
    simp only [List.map_cons, niceAll, Bool.and_eq_true]
    exact ⟨sqD_nice (h l List.mem_cons_self), sqsD_nice fun x m => h x (List.mem_cons_of_mem _ m)⟩
theorem sq_shaped {x : Str × Str} (h : okSq x) : SeqAt.shaped (pairD x) = true := nice_shaped (sqD_nice h) (by simp [pairD, PyData.depth, PyData.depthAll])
theorem sqs_shaped {L : List (Str × Str)} (h : ∀ l ∈ L, okSq l) : SeqAt.shaped (.list (L.map pairD)) = true := by
  refine nice_shaped (by simp only [nice]; exact sqsD_nice h) ?_
  have := pairs_dep L
  simp only [PyData.depth]
  omega
theorem pairD_inj {x y : Str × Str} (h : pairD x = pairD y) : x = y := by
  unfold pairD at h
  simp only [PyData.tuple.injEq, List.cons.injEq, PyData.str.injEq, and_true] at h
  exact Prod.ext h.1 h.2
/-- the squares as a table -/
def fS (sq : List (Str × Str)) (x : Str × Str) : Bool := decide (x ∈ sq)
theorem any_sq {sq : List (Str × Str)} {x : Str × Str} : ((sq.map pairD).any fun z => PyData.eqv z (pairD x)) = fS sq x := by
  rw [Bool.eq_iff_iff, List.any_eq_true]
  unfold fS
  rw [decide_eq_true_eq]
  constructor
  · rintro ⟨z, hz, e⟩
    obtain ⟨l, hl, rfl⟩ := List.mem_map.mp hz
    rw [pairD_inj (eqv_pair.mp e)]
    exact hl
  · exact fun m => ⟨pairD x, List.mem_map.mpr ⟨x, m, rfl⟩, eqv_pair.mpr rfl⟩
/-- the squares as they stand -/
def SqsA (K : PySem.W.Frag) (H : Hp) (q : Addr) (us : List V) (sq : List (Str × Str)) : Prop := H q = some (.lst us) ∧ PrsA K H us sq ∧ ∀ x ∈ sq, okSq x
theorem SqsA.keep {K : PySem.W.Frag} {H H1 : Hp} {q : Addr} {us : List V} {sq : List (Str × Str)} (h : SqsA K H q us sq) (k : Kp [] H H1) : SqsA K H1 q us sq := ⟨k.keep _ _ h.1 List.not_mem_nil, h.2.1.keep k, h.2.2⟩
theorem SqsA.inD {K : PySem.W.Frag} {H : Hp} {q t : Addr} {us : List V} {sq : List (Str × Str)} {x : Str × Str} {Q : VK} (h : SqsA K H q us sq) (ht : SqT K H t [.str x.1, .str x.2]) (hx : okSq x) (k : Q (.bl (fS sq x)) H) : rInD K (.ref t) (.ref q) H Q :=
  ⟨pairD x, sq.map pairD, .tup ht (.cons (.str _) (.cons (.str _) .nil)), .lst (SqL.of h.1) (prsA_dp h.2.1), sq_shaped hx, sqs_shaped h.2.2, by rw [any_sq]; exact k⟩
theorem SqsA.notD {K : PySem.W.Frag} {H : Hp} {q t : Addr} {us : List V} {sq : List (Str × Str)} {x : Str × Str} {Q : VK} (h : SqsA K H q us sq) (ht : SqT K H t [.str x.1, .str x.2]) (hx : okSq x) (k : Q (.bl (!fS sq x)) H) : rNotInD K (.ref t) (.ref q) H Q :=
  ⟨pairD x, sq.map pairD, .tup ht (.cons (.str _) (.cons (.str _) .nil)), .lst (SqL.of h.1) (prsA_dp h.2.1), sq_shaped hx, sqs_shaped h.2.2, by rw [any_sq]; exact k⟩
def crossedB (f : Str × Str → Bool) (c o w v : Str) : Bool := if f (c, v) then false else if f (o, w) then false else f (c, w) && f (o, v)
def spCrossed (K : PySem.W.Frag) : Sp := fun vs H Q _ => ∃ (q : Addr) (us : List V) (sq : List (Str × Str)) (c o w v : Str), vs = [.ref q, .str c, .str o, .str w, .str v] ∧ SqsA K H q us sq ∧ okName c ∧ okName o ∧ okName w ∧ okName v ∧ ∀ H', Kp [] H H' → Q (.bl (crossedB (fS sq) c o w v)) H'
section
variable {P : Program} {w : World} {K : PySem.W.Frag} {mg : Str → Option Value} {base : Heap} {f f1 f2 f3 C : Addr} {fd fd1 fd2 fd3 : FuncData}
theorem ok_crossed (D : Df K mg "_law_crossed" st_crossed ["_law_squares_here", "_law_cell", "_law_other", "_law_way", "_law_over"] f fd) : FnOk P w K mg base CX0 1 f fd ["_law_squares_here", "_law_cell", "_law_other", "_law_way", "_law_over"] (spCrossed K) := by
  refine D.fn.ok sc_crossed (fun vs H Q E h => ?_) (fun cdv A outer s H vs Q E hr h => ?_)
  · obtain ⟨q, us, sq, c, o, w, v, rfl, _⟩ := h
    rfl
  obtain ⟨q, us, sq, c, o, w, v, rfl, hs, oc, oo, ow, ov, q1⟩ := h
  refine ⟨_, PSs.nox (pss_cons (ps_if (PW.pt (pw_or (pt_cmpR (op_inD (u65 hr)) (pe_tup (pa_cons (pv 1) (pa_cons (pv 4) pa_nil))) (pv 0) (by rfl)) (pw_or1 (pt_cmpR (op_inD (u65 hr)) (pe_tup (pa_cons (pv 2) (pa_cons (pv 3) pa_nil))) (pv 0) (by rfl))))) (pss_one (ps_ret pe_bl)) pss_nil)
    (pss_one (ps_ret (pe_and (pe_cmpR (op_inD (u65 hr)) (pe_tup (pa_cons (pv 1) (pa_cons (pv 3) pa_nil))) (pv 0) rfl) (pe_one (pe_cmpR (op_inD (u65 hr)) (pe_tup (pa_cons (pv 2) (pa_cons (pv 4) pa_nil))) (pv 0) rfl)))))), ?_⟩
  refine ⟨_, rfl, _, rfl, by show 2 ≤ sizeLine; decide, fun t1 ht1 => ?_⟩
  have k1 : Kp [] H (upd H t1 (.tup [.str c, .str v])) := (Kp.refl _ _).new ht1 _
  refine ⟨_, rfl, (hs.keep k1).inD (x := (c, v)) (SqT.of upd_same) ⟨oc, ov⟩ ?_⟩
  refine ⟨_, rfl, ?_⟩
  unfold crossedB at q1
  cases h1 : fS sq (c, v) with
  | true =>
    refine iteT_of rfl ?_
    refine iteT_of rfl ?_
    rw [h1] at q1
    exact q1 _ k1
  | false =>
  rw [h1] at q1
  refine iteF_of rfl ?_
  refine ⟨_, rfl, _, rfl, by show 2 ≤ sizeLine; decide, fun t2 ht2 => ?_⟩
  have k2 := k1.new ht2 (.tup [.str o, .str w])
  refine ⟨_, rfl, (hs.keep k2).inD (x := (o, w)) (SqT.of upd_same) ⟨oo, ow⟩ ?_⟩
  refine ⟨_, rfl, ?_⟩
  cases h2 : fS sq (o, w) with
  | true =>
    refine iteT_of rfl ?_
    rw [h2] at q1
    exact q1 _ k2
  | false =>
  rw [h2] at q1
  refine iteF_of rfl ?_
  refine ⟨_, rfl, _, rfl, by show 2 ≤ sizeLine; decide, fun t3 ht3 => ?_⟩
  have k3 := k2.new ht3 (.tup [.str c, .str w])
  refine ⟨_, rfl, (hs.keep k3).inD (x := (c, w)) (SqT.of upd_same) ⟨oc, ow⟩ ?_⟩
  refine ⟨_, rfl, ?_⟩
  cases h3 : fS sq (c, w) with
  | false =>
    refine iteF_of rfl ?_
    rw [h3] at q1
    exact q1 _ k3
  | true =>
  rw [h3] at q1
  refine iteT_of rfl ?_
  refine ⟨_, rfl, _, rfl, by show 2 ≤ sizeLine; decide, fun t4 ht4 => ?_⟩
  have k4 := k3.new ht4 (.tup [.str o, .str v])
  exact ⟨_, rfl, (hs.keep k4).inD (x := (o, v)) (SqT.of upd_same) ⟨oo, ov⟩ (q1 _ k4)⟩
end
end Hb
set_option maxHeartbeats 1000000
/-! k44: whether a layer is ready -/
namespace Hb
open PySem PySem.Spec PyProof.Rows L2
def spReady (K : PySem.W.Frag) : Sp := fun vs H Q _ => ∃ (t p q : Addr) (us ls : List V) (l : Str × Str) (left sq : List (Str × Str)), vs = [.ref t, .ref p, .ref q] ∧ SqT K H t [.str l.1, .str l.2] ∧ H p = some (.lst ls) ∧ PrsA K H ls left ∧ SqsA K H q us sq ∧ okLay l ∧ (∀ o ∈ left, okLay o) ∧ ∀ H', Kp [] H H' → Q (.bl (!(left.any fun o => aheadT (fS sq) o l))) H'
section
variable {P : Program} {w : World} {K : PySem.W.Frag} {mg : Str → Option Value} {base : Heap} {f f1 f2 f3 C : Addr} {fd fd1 fd2 fd3 : FuncData}
theorem ok_is_ready (D : Df K mg "_law_is_ready" st_is_ready ["_law_layer", "_law_left", "_law_squares_here"] f fd) : FnOk P w K mg base CX0 1 f fd ["_law_layer", "_law_left", "_law_squares_here"] (spReady K) := by
  refine D.fn.ok sc_is_ready (fun vs H Q E h => ?_) (fun cdv A outer s H vs Q E hr h => ?_)
  · obtain ⟨t, p, q, us, ls, l, left, sq, rfl, _⟩ := h
    rfl
  obtain ⟨t, p, q, us, ls, l, left, sq, rfl, ht, hp, pl, hs, okl, okL, q1⟩ := h
  have nd := sc_is_ready.nd
  refine ⟨_, PSs.nox (pss_cons (ps_asg (pv 0) (pg_tup rfl (pgs_cons (pg_name (i := 3) nd rfl (.inl rfl)) (pgs_cons (pg_name (i := 4) nd rfl (.inl rfl)) pgs_nil))))
    (pss_cons (ps_for PassesOwn.never rfl (pi_list (pv 1)) (pg_name (i := 5) nd rfl (.inl rfl))
      (pss_cons (ps_if (PW.pt (pw_and (pt_cmpR op_eq (pv 3) pe_str (nomark _)) (pw_and (pt_cmpR op_eq (pe_ix ix_tup (pv 5) pe_int (fun _ _ => rfl)) pe_str (nomark _)) (pw_and1 (pt_cmpR (op_inD (u65 hr)) (pe_tup (pa_cons (pv 4) (pa_cons (pe_ix ix_tup (pv 5) pe_int (fun _ _ => rfl)) pa_nil))) (pv 2) (by rfl)))))) (pss_one (ps_ret pe_bl)) pss_nil)
      (pss_one (ps_if (PW.pt (pw_and (pt_cmpR op_eq (pv 3) pe_str (nomark _)) (pw_and (pt_cmpR op_eq (pe_ix ix_tup (pv 5) pe_int (fun _ _ => rfl)) pe_str (nomark _)) (pw_and1 (pt_cmpR (op_notInD (u65 hr)) (pe_tup (pa_cons (pe_ix ix_tup (pv 5) pe_int (fun _ _ => rfl)) (pa_cons (pv 4) pa_nil))) (pv 2) (by rfl)))))) (pss_one (ps_ret pe_bl)) pss_nil))))
    (pss_one (ps_ret pe_bl)))), ?_⟩
  refine ⟨_, rfl, t, _, rfl, ht, rfl, ?_⟩
  refine ⟨_, _, rfl, _, _, rfl, rfl, ?_⟩
  refine ⟨_, rfl, p, rfl, ⟨_, SqL.of hp⟩, for_list (K := K) (a := p) (xs := ls) (fun i σ H' => ∃ v5 : Option V, σ = [some (.ref t), some (.ref p), some (.ref q), some (.str l.1), some (.str l.2), v5] ∧ ((left.take i).any fun o => aheadT (fS sq) o l) = false ∧ Kp [] H H') ?_ ?_ ?_ ?_⟩
  · exact ⟨none, rfl, rfl, Kp.refl _ _⟩
  · rintro i σ H' hi ⟨v5, rfl, e, k⟩
    exact SqL.of (k.keep _ _ hp List.not_mem_nil)
  · rintro i x σ H2 hx ⟨v5, rfl, e, k⟩
    obtain ⟨o, ho, u, rfl, hu1⟩ := (pl.keep k).at hx
    have mo := List.mem_of_getElem? ho
    have oko := okL o mo
    have et : left.take (i + 1) = left.take i ++ [o] := by rw [List.take_add_one, ho]; rfl
    have stop : ∀ H', Kp [] H2 H' → aheadT (fS sq) o l = true → Q (.bl false) H' := fun H' k' ha => by
      have := q1 H' (k.trans k')
      rw [show (left.any fun o => aheadT (fS sq) o l) = true from List.any_eq_true.mpr ⟨o, mo, ha⟩] at this
      exact this
    have go : ∀ H', Kp [] H2 H' → aheadT (fS sq) o l = false → ∃ v5 : Option V, [some (V.ref t), some (.ref p), some (.ref q), some (.str l.1), some (.str l.2), some (.ref u)] = [some (.ref t), some (.ref p), some (.ref q), some (.str l.1), some (.str l.2), v5] ∧ ((left.take (i + 1)).any fun o => aheadT (fS sq) o l) = false ∧ Kp [] H H' := fun H' k' ha => by
      refine ⟨_, rfl, ?_, k.trans k'⟩
      rw [et, List.any_append, e]
      simpa using ha
    refine ⟨_, rfl, rfl, _, rfl, ?_⟩
    rcases okl.1 with e1 | e1
    · refine iteT_of (decide_eq_true (by rw [e1])) ?_
      refine ⟨_, rfl, u, _, 0, .str o.1, rfl, rfl, hu1, rfl, rfl, _, rfl, ?_⟩
      rcases oko.1 with e2 | e2
      · have ha : aheadT (fS sq) o l = false := by unfold aheadT; rw [if_pos (e2.trans e1.symm)]
        refine iteF_of (decide_eq_false (by rw [e2]; decide +kernel)) ?_
        refine iteF_of rfl ?_
        refine ⟨_, rfl, rfl, _, rfl, ?_⟩
        refine iteF_of (decide_eq_false (by rw [e1]; decide +kernel)) ?_
        refine iteF_of rfl ?_
        exact go _ (Kp.refl _ _) ha
      · have ha : aheadT (fS sq) o l = fS sq (l.2, o.2) := by
          unfold aheadT
          rw [if_neg (by rw [e1, e2]; decide +kernel), if_pos e2]
        refine iteT_of (decide_eq_true (by rw [e2])) ?_
        refine ⟨_, rfl, _, rfl, u, _, 1, .str o.2, rfl, rfl, hu1, rfl, by show 2 ≤ sizeLine; decide, fun y hy => ?_⟩
        have ky : Kp [] H2 (upd H2 y (.tup [.str l.2, .str o.2])) := (Kp.refl _ _).new hy _
        refine ⟨_, rfl, (hs.keep (k.trans ky)).inD (x := (l.2, o.2)) (SqT.of upd_same) ⟨okl.2, oko.2⟩ ?_⟩
        refine ⟨_, rfl, ?_⟩
        cases hb : fS sq (l.2, o.2) with
        | true =>
          refine iteT_of rfl ?_
          exact stop _ ky (by rw [ha, hb])
        | false =>
          refine iteF_of rfl ?_
          refine ⟨_, rfl, rfl, _, rfl, ?_⟩
          refine iteF_of (decide_eq_false (by rw [e1]; decide +kernel)) ?_
          refine iteF_of rfl ?_
          exact go _ ky (by rw [ha, hb])
    · refine iteF_of (decide_eq_false (by rw [e1]; decide +kernel)) ?_
      refine iteF_of rfl ?_
      refine ⟨_, rfl, rfl, _, rfl, ?_⟩
      refine iteT_of (decide_eq_true (by rw [e1])) ?_
      refine ⟨_, rfl, u, _, 0, .str o.1, rfl, rfl, hu1, rfl, rfl, _, rfl, ?_⟩
      rcases oko.1 with e2 | e2
      · have ha : aheadT (fS sq) o l = !fS sq (o.2, l.2) := by
          unfold aheadT
          rw [if_neg (by rw [e1, e2]; decide +kernel), if_neg (by rw [e2]; decide +kernel)]
        refine iteT_of (decide_eq_true (by rw [e2])) ?_
        refine ⟨_, rfl, u, _, 1, .str o.2, rfl, rfl, hu1, rfl, _, rfl, by show 2 ≤ sizeLine; decide, fun y hy => ?_⟩
        have ky : Kp [] H2 (upd H2 y (.tup [.str o.2, .str l.2])) := (Kp.refl _ _).new hy _
        refine ⟨_, rfl, (hs.keep (k.trans ky)).notD (x := (o.2, l.2)) (SqT.of upd_same) ⟨oko.2, okl.2⟩ ?_⟩
        refine ⟨_, rfl, ?_⟩
        cases hb : fS sq (o.2, l.2) with
        | false =>
          refine iteT_of rfl ?_
          exact stop _ ky (by rw [ha, hb]; rfl)
        | true =>
          refine iteF_of rfl ?_
          exact go _ ky (by rw [ha, hb]; rfl)
      · have ha : aheadT (fS sq) o l = false := by unfold aheadT; rw [if_pos (e2.trans e1.symm)]
        refine iteF_of (decide_eq_false (by rw [e2]; decide +kernel)) ?_
        refine iteF_of rfl ?_
        exact go _ (Kp.refl _ _) ha
  rintro σ H2 ⟨v5, rfl, e, k⟩
  rw [pl.length, List.take_of_length_le (Nat.le_refl _)] at e
  have := q1 H2 k
  rw [e] at this
  exact this
end
end Hb
set_option maxHeartbeats 1000000
/-! k44: the law's own pile -/
namespace Hb
open PySem PySem.Spec PyProof.Rows L2
theorem sc_stacked : FnScope ["_law_cells", "_law_ways", "_law_squares_here", "_law_left", "_law_found", "_law_ready", "_law_layer"] ["_law_cells", "_law_ways", "_law_squares_here"] (defScope st_stacked) := ⟨rfl, rfl, rfl, by decide +kernel, rfl, by decide +kernel, by decide +kernel⟩
def spStacked (K : PySem.W.Frag) : Sp := fun vs H Q _ => ∃ (p r q : Addr) (cs ws : List Str) (us : List V) (sq : List (Str × Str)), vs = [.ref p, .ref r, .ref q] ∧ H p = some (.lst (cs.map V.str)) ∧ H r = some (.lst (ws.map V.str)) ∧ SqsA K H q us sq ∧ (∀ c ∈ cs, okName c) ∧ (∀ c ∈ ws, okName c) ∧ cs.length ≤ 1000 ∧ ws.length ≤ 1000 ∧
  (pileG (fS sq) (layL cs ws).length (layL cs ws) [] = none → ∀ H', Kp [] H H' → Q .non H') ∧
  ∀ L, pileG (fS sq) (layL cs ws).length (layL cs ws) [] = some L → ∀ (x : Addr) (vs : List V) (H' : Hp), H x = none → H' x = some (.lst vs) → PrsA K H' vs L → Kp [] H H' → Q (.ref x) H'
section
variable {P : Program} {w : World} {K : PySem.W.Frag} {mg : Str → Option Value} {base : Heap} {f f1 f2 f3 C : Addr} {fd fd1 fd2 fd3 : FuncData}
theorem ok_stacked (D : Df K mg "_law_stacked" st_stacked ["_law_cells", "_law_ways", "_law_squares_here"] f fd) (G_layers : FnOk P w K mg base CX0 1 f2 fd2 ["_law_cells", "_law_ways"] (spLayers K)) (D_layers : Df K mg "_law_layers" st_layers ["_law_cells", "_law_ways"] f2 fd2)
    (G_is_ready : FnOk P w K mg base CX0 1 f1 fd1 ["_law_layer", "_law_left", "_law_squares_here"] (spReady K)) (D_is_ready : Df K mg "_law_is_ready" st_is_ready ["_law_layer", "_law_left", "_law_squares_here"] f1 fd1) : FnOk P w K mg base CX0 2 f fd ["_law_cells", "_law_ways", "_law_squares_here"] (spStacked K) := by
  refine D.fn.ok sc_stacked (fun vs H Q E h => ?_) (fun cdv A outer s H vs Q E hr h => ?_)
  · obtain ⟨p, r, q, cs, ws, us, sq, rfl, _⟩ := h
    rfl
  obtain ⟨p, r, q, cs, ws, qs, sq, rfl, hp, hq, hs, oc, ow, lc, lw, q1, q2⟩ := h
  have nd := sc_stacked.nd
  refine ⟨_, PSs.nox (pss_cons (ps_asg (pe_tup (pa_cons (pe_call G_layers (hr.mono (by decide)) (by rfl) D_layers.gl D_layers.fn.kp D_layers.bd .nil pass0 (pa_cons (pv 0) (pa_cons (pv 1) pa_nil))) (pa_cons (pe_lst pa_nil) pa_nil))) (pg_tup rfl (pgs_cons (pg_name (i := 3) nd rfl (.inr rfl)) (pgs_cons (pg_name (i := 4) nd rfl (.inl rfl)) pgs_nil))))
    (pss_cons (ps_while PassesOwn.never (pt_cmpR (op_neE hr.units) (pv 3) (pe_lst pa_nil) (nomark _))
      (pss_cons (ps_setLc (i := 5) (own := [("_law_layer", 6)]) (g := gName 6) rfl nd rfl rfl (by rfl) (pi_list (pv 3)) (blkOk_by (own := [("_law_layer", 6)]) (N := ["_law_cells", "_law_ways", "_law_squares_here", "_law_left", "_law_found", "_law_ready", "_law_layer"]) (sc := defScope st_stacked) (by decide +kernel)) (fun _ _ _ _ _ => pg_name (i := 6) nd rfl (Or.inl rfl))
        (fun _ _ _ _ _ => by (apply PTs.to); (focus (exact pts_one (pt_val (pe_call G_is_ready (hr.mono (by decide)) (by rfl) D_is_ready.gl D_is_ready.fn.kp D_is_ready.bd .nil pass0 (pa_cons (pv 6) (pa_cons (pv 3) (pa_cons (pv 2) pa_nil))))))); (focus ((try dsimp only [Cx.blk, Cx.nox, cxOf]); (try exact rfl)))) (fun _ _ _ _ _ => pv 6))
      (pss_cons (ps_if (pt_cmpR (op_eqE hr.units) (pv 5) (pe_lst pa_nil) (nomark _)) (pss_one (ps_ret pe_non)) pss_nil)
      (pss_cons (ps_expr (pe_bm PySem.F.plainAttrs_list PySem.F.slot_list_append PySem.F.type_list_append mt_append (pv 4) (pa_cons (pe_ix ix_list (pv 5) pe_int (fun _ _ => rfl)) pa_nil)))
      (pss_one (ps_expr (pe_bm PySem.F.plainAttrs_list PySem.F.slot_list_remove PySem.F.type_list_remove (mt_removeD (u65 hr)) (pv 3) (pa_cons (pe_ix ix_list (pv 5) pe_int (fun _ _ => rfl)) pa_nil))))))))
    (pss_one (ps_ret (pv 4))))), ?_⟩
  refine ⟨_, rfl, _, rfl, p, r, cs, ws, rfl, hp, hq, lc, lw, fun lf us1 H5 hlfH elf5 p5 k05 => ?_⟩
  refine ⟨by show 0 ≤ sizeLine; decide, fun pl hpl => ?_⟩
  refine ⟨by show 2 ≤ sizeLine; decide, fun T hT => ?_⟩
  have k6 : Kp [] H5 (upd (upd H5 pl (.lst [])) T (.tup [.ref lf, .ref pl])) := ((Kp.refl _ _).new hpl _).new hT _
  have nlp : lf ≠ pl := ne_of_none elf5 hpl
  have hplH := k05.free hpl List.not_mem_nil
  have nTp : T ≠ pl := fun z => by rw [z, upd_same] at hT; cases hT
  refine ⟨T, _, rfl, SqT.of upd_same, rfl, ?_⟩
  refine ⟨_, _, rfl, _, _, rfl, rfl, ?_⟩
  have epl0 : upd (upd H5 pl (.lst [])) T (.tup [.ref lf, .ref pl]) pl = some (.lst []) := (upd_ne nTp.symm).trans upd_same
  have lL : (layL cs ws).length ≤ 2000 := by simp only [layL, List.length_append, List.length_map]; omega
  have okL : ∀ l, inLay cs ws l → okLay l := fun l m => by
    rcases m with ⟨h1, h2⟩ | ⟨h1, h2⟩
    · exact ⟨.inl h1, oc _ h2⟩
    · exact ⟨.inr h1, ow _ h2⟩
  have inL : ∀ l ∈ layL cs ws, okLay l := fun l m => okL l (lay_in m)
  generalize hR : pileG (fS sq) (layL cs ws).length (layL cs ws) [] = R at q1 q2
  refine ⟨fun m σ H' => ∃ (v3 : Option V) (us ps : List V) (left acc : List (Str × Str)), σ = [some (.ref p), some (.ref r), some (.ref q), some (.ref lf), some (.ref pl), v3, none] ∧ m = left.length ∧ H' lf = some (.lst us) ∧ PrsA K H' us left ∧ H' pl = some (.lst ps) ∧ PrsA K H' ps acc ∧ Kp [] H H' ∧
    (∀ l ∈ left, okLay l) ∧ left.length + acc.length ≤ 2000 ∧ pileG (fS sq) left.length left acc = R, ⟨_, none, us1, [], layL cs ws, [], rfl, rfl, k6.keep _ _ elf5 List.not_mem_nil, p5.keep k6, epl0, .nil, k05.trans k6, inL, by simpa using lL, hR⟩, ?_⟩
  rintro m σ H6 ⟨v3, us, ps, left, acc, rfl, rfl, elf, pu, epl, pp, k06, inl, lens, hg⟩
  refine ⟨_, rfl, by show 0 ≤ sizeLine; decide, fun e0 he0 => ?_⟩
  have ke : Kp [] H6 (upd H6 e0 (.lst [])) := (Kp.refl _ _).new he0 _
  refine ⟨lf, e0, us, rfl, rfl, ke.keep _ _ elf List.not_mem_nil, upd_same, _, rfl, ?_⟩
  replace elf := ke.keep _ _ elf List.not_mem_nil
  replace epl := ke.keep _ _ epl List.not_mem_nil
  replace pu := pu.keep ke
  replace pp := pp.keep ke
  replace k06 := k06.trans ke
  generalize upd H6 e0 (.lst []) = H6 at elf epl pu pp k06
  have lus := pu.length
  have lps := pp.length
  cases hl0 : left with
  | nil =>
    subst hl0
    cases pu
    refine iteF_of rfl ?_
    exact ⟨_, rfl, q2 acc hg.symm pl ps H6 hplH epl pp k06⟩
  | cons l0 rest =>
    have hne : us.isEmpty = false := by
      cases us with
      | nil => rw [hl0] at lus; cases lus
      | cons _ _ => rfl
    refine iteT_of (by rw [hne]; rfl) ?_
    rw [← hl0]
    refine ⟨fun σ' H' => ∃ m', m' < left.length ∧ ∃ (v3 : Option V) (us ps : List V) (left' acc : List (Str × Str)), σ' = [some (.ref p), some (.ref r), some (.ref q), some (.ref lf), some (.ref pl), v3, none] ∧ m' = left'.length ∧ H' lf = some (.lst us) ∧ PrsA K H' us left' ∧ H' pl = some (.lst ps) ∧ PrsA K H' ps acc ∧ Kp [] H H' ∧
      (∀ l ∈ left', okLay l) ∧ left'.length + acc.length ≤ 2000 ∧ pileG (fS sq) left'.length left' acc = R, fun σ' H' h => h, ?_⟩
    refine ⟨_, rfl, lf, rfl, ⟨_, SqL.of elf⟩, fun D3 hD3 => ?_⟩
    refine lc_list (K := K) (a := lf) (xs := us) (fun i H' => ∃ fs, H' D3 = some (.lst fs) ∧ PrsA K H' fs ((left.take i).filter fun l => !(left.any fun o => aheadT (fS sq) o l)) ∧ Kp [] H6 H') ?_ ?_ ?_ ?_
    · exact ⟨[], upd_same, .nil, (Kp.refl _ _).new hD3 _⟩
    · rintro i H' hi ⟨fs, e1, pf, k⟩
      exact SqL.of (k.keep _ _ elf List.not_mem_nil)
    · rintro i x H7 hx ⟨fs, e1, pf, k7⟩
      obtain ⟨l, hl, t, rfl, ht⟩ := (pu.keep k7).at hx
      have ml := List.mem_of_getElem? hl
      refine ⟨rfl, ?_⟩
      refine ⟨_, rfl, _, rfl, _, rfl, t, lf, q, qs, us, l, left, sq, rfl, ht, k7.keep _ _ elf List.not_mem_nil, pu.keep k7, hs.keep (k06.trans k7), inl l ml, inl, fun H8 k8 => ?_⟩
      refine ⟨_, rfl, ?_⟩
      have e8 := k8.keep _ _ e1 List.not_mem_nil
      have et : left.take (i + 1) = left.take i ++ [l] := by rw [List.take_add_one, hl]; rfl
      have lf3 := pf.length
      have lf4 := List.length_filter_le (fun l => !(left.any fun o => aheadT (fS sq) o l)) (left.take i)
      have lf5 := List.length_take_le' i left
      cases hb : left.any fun o => aheadT (fS sq) o l with
      | true =>
        refine iteF_of rfl ?_
        refine ⟨fs, e8, ?_, k7.trans k8⟩
        rw [et, List.filter_append, List.filter_cons, hb]
        simpa using pf.keep k8
      | false =>
        refine iteT_of rfl ?_
        have kD : Kp [D3] H8 (upd H8 D3 (.lst (fs ++ [.ref t]))) := (Kp.refl _ _).put (by simp) e8 (o := _)
        refine ⟨_, rfl, fs, e8, by rw [sizeLine_eq]; omega, fs ++ [.ref t], upd_same, ?_, (k7.trans k8).own hD3 _⟩
        rw [et, List.filter_append, List.filter_cons, hb]
        exact ((pf.keep k8).keep kD).append (.cons ⟨t, rfl, kD.seqT (k8.seqT ht)⟩ .nil)
    rintro H7 ⟨fs, eD3, pf, k7⟩
    rw [lus, List.take_of_length_le (Nat.le_refl _)] at pf
    have nD3p : D3 ≠ pl := ne_of_none epl hD3 |>.symm
    have nD3l : D3 ≠ lf := ne_of_none elf hD3 |>.symm
    refine ⟨_, rfl, by show 0 ≤ sizeLine; decide, fun e2 he2 => ?_⟩
    have ke2 : Kp [] H7 (upd H7 e2 (.lst [])) := (Kp.refl _ _).new he2 _
    refine ⟨D3, e2, fs, rfl, rfl, ke2.keep _ _ eD3 List.not_mem_nil, upd_same, _, rfl, ?_⟩
    replace eD3 := ke2.keep _ _ eD3 List.not_mem_nil
    replace pf := pf.keep ke2
    replace k7 := k7.trans ke2
    generalize upd H7 e2 (.lst []) = H7 at eD3 pf k7
    have pf' : PrsA K H7 fs (freeOf (fS sq) left) := pf
    have elf7 := k7.keep _ _ elf List.not_mem_nil
    have epl7 := k7.keep _ _ epl List.not_mem_nil
    have k07 := k06.trans k7
    have hgo : pileG (fS sq) left.length left acc = match freeOf (fS sq) left with
      | [] => none
      | l :: _ => pileG (fS sq) rest.length (left.erase l) (acc ++ [l]) := by
      rw [hl0]
      rfl
    cases hf : freeOf (fS sq) left with
    | nil =>
      rw [hf] at pf' hgo
      cases pf'
      refine iteT_of rfl ?_
      exact q1 (by rw [← hg, hgo]) H7 k07
    | cons l fr =>
      rw [hf] at pf' hgo
      have hgo' : pileG (fS sq) left.length left acc = pileG (fS sq) rest.length (left.erase l) (acc ++ [l]) := hgo
      cases pf' with
      | @cons x _ fs' _ hx hfs =>
      refine iteF_of rfl ?_
      have ml : l ∈ left := by
        have : l ∈ freeOf (fS sq) left := by rw [hf]; exact List.mem_cons_self
        exact (List.mem_filter.mp this).1
      refine ⟨_, rfl, .inl ⟨rfl, _, SqL.of epl7⟩, _, rfl, D3, _, 0, x, rfl, rfl, SqL.of eD3, at0P _ _, pl, ps, x, rfl, rfl, epl7, by rw [sizeLine_eq]; omega, ?_⟩
      have kp : Kp [pl] H7 (upd H7 pl (.lst (ps ++ [x]))) := (Kp.refl _ _).put (by simp) epl7 (o := _)
      have elf8 := kp.keep _ _ elf7 (by simpa using nlp)
      have eD8 := kp.keep _ _ eD3 (by simpa using nD3p)
      have pu8 := (pu.keep k7).keep kp
      have pp8 : PrsA K (upd H7 pl (.lst (ps ++ [x]))) (ps ++ [x]) (acc ++ [l]) := ((pp.keep k7).keep kp).append (.cons (hx.keep kp) .nil)
      have epl8 : upd H7 pl (.lst (ps ++ [x])) pl = some (.lst (ps ++ [x])) := upd_same
      have hx8 := hx.keep kp
      have k08 : Kp [] H (upd H7 pl (.lst (ps ++ [x]))) := k07.own hplH _
      generalize upd H7 pl (.lst (ps ++ [x])) = H8 at elf8 eD8 pu8 pp8 epl8 hx8 k08
      have okl : ∀ y ∈ left, okLay y := fun y hy => inl y hy
      obtain ⟨tx, rfl, htx⟩ := hx8
      have hj : left.idxOf l < left.length := List.idxOf_lt_length_of_mem ml
      refine ⟨_, rfl, .inl ⟨rfl, _, SqL.of elf8⟩, _, rfl, D3, _, 0, .ref tx, rfl, rfl, SqL.of eD8, at0P _ _, lf, .ref tx, pairD l, us, left.map pairD, left.idxOf l, pairD l, rfl, rfl, elf8, prsA_dp pu8, .tup htx (.cons (.str _) (.cons (.str _) .nil)), pairs_shaped okl, nice_shaped (pairD_nice (okl l ml)) (by simp [pairD, PyData.depth, PyData.depthAll]), ?_, eqv_pair.mpr rfl, fun m z' hm hz' => ?_, ?_⟩
      · rw [List.getElem?_map, List.getElem?_eq_getElem hj, List.getElem_idxOf]
        rfl
      · rw [List.getElem?_map] at hz'
        obtain ⟨y, hy, rfl⟩ := Option.map_eq_some_iff.mp hz'
        cases hq : PyData.eqv (pairD y) (pairD l) with
        | false => rfl
        | true =>
          have e3 := eqv_pair.mp hq
          have e4 : l = y := by
            unfold pairD at e3
            simp only [PyData.tuple.injEq, List.cons.injEq, PyData.str.injEq, and_true] at e3
            exact Prod.ext e3.1 e3.2
          have h5 := List.not_of_lt_findIdx (p := fun z => z == l) (xs := left) (i := m) hm
          obtain ⟨h6, h7⟩ := List.getElem?_eq_some_iff.mp hy
          rw [h7, ← e4] at h5
          simp at h5
      · have kl : Kp [lf] H8 (upd H8 lf (.lst (us.eraseIdx (left.idxOf l)))) := (Kp.refl _ _).put (by simp) elf8 (o := _)
        have ee : left.erase l = left.eraseIdx (left.idxOf l) := List.erase_eq_eraseIdx_of_idxOf rfl
        have le : (left.erase l).length = left.length - 1 := List.length_erase_of_mem ml
        have lr : left.length = rest.length + 1 := by rw [hl0]; rfl
        refine ⟨(left.erase l).length, by omega, _, us.eraseIdx (left.idxOf l), ps ++ [.ref tx], left.erase l, acc ++ [l], rfl, rfl, upd_same, ?_, kl.keep _ _ epl8 (by simpa using nlp.symm), pp8.keep kl, k08.own hlfH _, fun y hy => inl y (List.mem_of_mem_erase hy), by rw [List.length_append, List.length_singleton]; omega, ?_⟩
        · rw [ee]
          exact (pu8.keep kl).eraseIdx _
        · rw [show (left.erase l).length = rest.length by omega, ← hgo']
          exact hg
end
end Hb
set_option maxHeartbeats 1000000
/-! k44: the law's own crossing -/
namespace Hb
open PySem PySem.Spec PyProof.Rows L2
theorem sc_least_crossing : FnScope ["_law_cells", "_law_ways", "_law_squares_here", "_law_cell", "_law_other", "_law_way", "_law_over"] ["_law_cells", "_law_ways", "_law_squares_here"] (defScope st_least_crossing) := ⟨rfl, rfl, rfl, by decide +kernel, rfl, by decide +kernel, by decide +kernel⟩
theorem crossedB_two (g : Str × Str → Bool) (c o w v : Str) : crossedB g c o w v = ((g (c, w) && !g (o, w)) && (g (o, v) && !g (c, v))) := by
  unfold crossedB
  cases g (c, w) <;> cases g (o, w) <;> cases g (o, v) <;> cases g (c, v) <;> rfl
theorem find_two {A B : Str → Bool} {vs : List Str} : ∀ as : List Str, (gridP as vs).find? (fun p => A p.1 && B p.2) = match as.filter A, vs.filter B with
    | w :: _, v :: _ => some (w, v)
    | _, _ => none
  | [] => rfl
  | a :: as => by
    have e : gridP (a :: as) vs = (vs.map fun v => (a, v)) ++ gridP as vs := rfl
    rw [e, List.find?_append, List.find?_map, find_two as, List.filter_cons]
    cases ha : A a with
    | false =>
      have : vs.find? ((fun p : Str × Str => A p.1 && B p.2) ∘ fun v => (a, v)) = none := List.find?_eq_none.mpr fun v _ => by simp [ha]
      rw [this]
      simp
    | true =>
      have : ((fun p : Str × Str => A p.1 && B p.2) ∘ fun v => (a, v)) = B := by funext v; simp [ha]
      rw [this, ← List.head?_filter]
      cases vs.filter B with
      | nil =>
        cases as.filter A <;> simp
      | cons v t => simp
theorem crossF_find (g : Str × Str → Bool) (ws : List Str) (c o : Str) : crossF g ws (c, o) = ((gridP ws ws).find? fun p => crossedB g c o p.1 p.2).map fun p => (c, o, p.1, p.2) := by
  have : (fun p : Str × Str => crossedB g c o p.1 p.2) = fun p => (fun w => g (c, w) && !g (o, w)) p.1 && (fun v => g (o, v) && !g (c, v)) p.2 := by
    funext p
    exact crossedB_two g c o p.1 p.2
  rw [this, find_two (A := fun w => g (c, w) && !g (o, w)) (B := fun v => g (o, v) && !g (c, v)) ws]
  unfold crossF ofOne
  dsimp only
  cases ws.filter fun w => g (c, w) && !g (o, w) with
  | nil => rfl
  | cons a as =>
    cases ws.filter fun w => g (o, w) && !g (c, w) with
    | nil => rfl
    | cons b bs => rfl
def spLeast (K : PySem.W.Frag) : Sp := fun vs H Q _ => ∃ (p r q : Addr) (cs ws : List Str) (us : List V) (sq : List (Str × Str)), vs = [.ref p, .ref r, .ref q] ∧ H p = some (.lst (cs.map V.str)) ∧ H r = some (.lst (ws.map V.str)) ∧ SqsA K H q us sq ∧ (∀ c ∈ cs, okName c) ∧ (∀ c ∈ ws, okName c) ∧
  (crossT (fS sq) cs ws = none → ∀ H', Kp [] H H' → Q .non H') ∧ ∀ x, crossT (fS sq) cs ws = some x → ∀ (t : Addr) (H' : Hp), H' t = some (.tup [.str x.1, .str x.2.1, .str x.2.2.1, .str x.2.2.2]) → Kp [] H H' → Q (.ref t) H'
section
variable {P : Program} {w : World} {K : PySem.W.Frag} {mg : Str → Option Value} {base : Heap} {f f1 f2 f3 C : Addr} {fd fd1 fd2 fd3 : FuncData}
theorem ok_least_crossing (D : Df K mg "_law_least_crossing" st_least_crossing ["_law_cells", "_law_ways", "_law_squares_here"] f fd) (G_crossed : FnOk P w K mg base CX0 1 f1 fd1 ["_law_squares_here", "_law_cell", "_law_other", "_law_way", "_law_over"] (spCrossed K)) (D_crossed : Df K mg "_law_crossed" st_crossed ["_law_squares_here", "_law_cell", "_law_other", "_law_way", "_law_over"] f1 fd1) : FnOk P w K mg base CX0 2 f fd ["_law_cells", "_law_ways", "_law_squares_here"] (spLeast K) := by
  refine D.fn.ok sc_least_crossing (fun vs H Q E h => ?_) (fun cdv A outer s H vs Q E hr h => ?_)
  · obtain ⟨p, r, q, cs, ws, us, sq, rfl, _⟩ := h
    rfl
  obtain ⟨p, r, q, cs, ws, us, sq, rfl, hp, hq, hs, oc, ow, q1, q2⟩ := h
  have nd := sc_least_crossing.nd
  refine ⟨_, PSs.nox (pss_cons (ps_for PassesOwn.never rfl (pi_list (pv 0)) (pg_name (i := 3) nd rfl (.inl rfl))
      (pss_one (ps_for PassesOwn.never rfl (pi_list (pv 0)) (pg_name (i := 4) nd rfl (.inl rfl))
        (pss_one (ps_for PassesOwn.never rfl (pi_list (pv 1)) (pg_name (i := 5) nd rfl (.inl rfl))
          (pss_one (ps_for PassesOwn.never rfl (pi_list (pv 1)) (pg_name (i := 6) nd rfl (.inl rfl))
            (pss_one (ps_if (pt_val (pe_call G_crossed (hr.mono (by decide)) (by rfl) D_crossed.gl D_crossed.fn.kp D_crossed.bd .nil pass0 (pa_cons (pv 2) (pa_cons (pv 3) (pa_cons (pv 4) (pa_cons (pv 5) (pa_cons (pv 6) pa_nil))))))) (pss_one (ps_ret (pe_tup (pa_cons (pv 3) (pa_cons (pv 4) (pa_cons (pv 5) (pa_cons (pv 6) pa_nil))))))) pss_nil)))))))))
    (pss_one (ps_ret pe_non))), ?_⟩
  refine ⟨_, rfl, p, rfl, ⟨_, SqL.of hp⟩, for_list (K := K) (a := p) (xs := cs.map V.str) (fun i σ H' => ∃ v3 v4 v5 v6 : Option V, σ = [some (.ref p), some (.ref r), some (.ref q), v3, v4, v5, v6] ∧ (gridP (cs.take i) cs).findSome? (crossF (fS sq) ws) = none ∧ Kp [] H H') ?_ ?_ ?_ ?_⟩
  · exact ⟨none, none, none, none, rfl, rfl, Kp.refl _ _⟩
  · rintro i σ H' hi ⟨v3, v4, v5, v6, rfl, e, k⟩
    exact SqL.of (k.keep _ _ hp List.not_mem_nil)
  · rintro i x σ H2 hx ⟨v3, v4, v5, v6, rfl, e, k2⟩
    rw [List.getElem?_map] at hx
    obtain ⟨cc, hc, rfl⟩ := Option.map_eq_some_iff.mp hx
    have mc := List.mem_of_getElem? hc
    refine ⟨_, rfl, p, rfl, ⟨_, SqL.of (k2.keep _ _ hp List.not_mem_nil)⟩, for_list (K := K) (a := p) (xs := cs.map V.str) (fun j σ H' => ∃ v4 v5 v6 : Option V, σ = [some (.ref p), some (.ref r), some (.ref q), some (.str cc), v4, v5, v6] ∧ (gridP (cs.take i) cs ++ (cs.take j).map fun z => (cc, z)).findSome? (crossF (fS sq) ws) = none ∧ Kp [] H H') ?_ ?_ ?_ ?_⟩
    · exact ⟨v4, v5, v6, rfl, by rw [List.take_zero, List.map_nil, List.append_nil]; exact e, k2⟩
    · rintro j σ H' hj ⟨v4, v5, v6, rfl, e, k⟩
      exact SqL.of (k.keep _ _ hp List.not_mem_nil)
    · rintro j x σ H3 hx ⟨v4, v5, v6, rfl, e3, k3⟩
      rw [List.getElem?_map] at hx
      obtain ⟨oo, ho, rfl⟩ := Option.map_eq_some_iff.mp hx
      have mo := List.mem_of_getElem? ho
      obtain ⟨rest, eg⟩ := grid_split (cs := cs) (ds := cs) hc ho
      refine ⟨_, rfl, r, rfl, ⟨_, SqL.of (k3.keep _ _ hq List.not_mem_nil)⟩, for_list (K := K) (a := r) (xs := ws.map V.str) (fun m σ H' => ∃ v5 v6 : Option V, σ = [some (.ref p), some (.ref r), some (.ref q), some (.str cc), some (.str oo), v5, v6] ∧ ((gridP (ws.take m) ws).find? fun p => crossedB (fS sq) cc oo p.1 p.2) = none ∧ Kp [] H H') ?_ ?_ ?_ ?_⟩
      · exact ⟨v5, v6, rfl, rfl, k3⟩
      · rintro m σ H' hm ⟨v5, v6, rfl, e, k⟩
        exact SqL.of (k.keep _ _ hq List.not_mem_nil)
      · rintro m x σ H4 hx ⟨v5, v6, rfl, e4, k4⟩
        rw [List.getElem?_map] at hx
        obtain ⟨wy, hw, rfl⟩ := Option.map_eq_some_iff.mp hx
        have mw := List.mem_of_getElem? hw
        refine ⟨_, rfl, r, rfl, ⟨_, SqL.of (k4.keep _ _ hq List.not_mem_nil)⟩, for_list (K := K) (a := r) (xs := ws.map V.str) (fun n σ H' => ∃ v6 : Option V, σ = [some (.ref p), some (.ref r), some (.ref q), some (.str cc), some (.str oo), some (.str wy), v6] ∧ ((gridP (ws.take m) ws ++ (ws.take n).map fun z => (wy, z)).find? fun p => crossedB (fS sq) cc oo p.1 p.2) = none ∧ Kp [] H H') ?_ ?_ ?_ ?_⟩
        · exact ⟨v6, rfl, by rw [List.take_zero, List.map_nil, List.append_nil]; exact e4, k4⟩
        · rintro n σ H' hn ⟨v6, rfl, e, k⟩
          exact SqL.of (k.keep _ _ hq List.not_mem_nil)
        · rintro n x σ H5 hx ⟨v6, rfl, e5, k5⟩
          rw [List.getElem?_map] at hx
          obtain ⟨ov, hv, rfl⟩ := Option.map_eq_some_iff.mp hx
          have mv := List.mem_of_getElem? hv
          obtain ⟨rest2, eg2⟩ := grid_split (cs := ws) (ds := ws) hw hv
          refine ⟨_, rfl, _, rfl, _, rfl, _, rfl, _, rfl, q, us, sq, cc, oo, wy, ov, rfl, hs.keep k5, oc _ mc, oc _ mo, ow _ mw, ow _ mv, fun H6 k6 => ?_⟩
          refine ⟨_, rfl, ?_⟩
          cases hb : crossedB (fS sq) cc oo wy ov with
          | false =>
            refine iteF_of rfl ?_
            refine ⟨_, rfl, ?_, k5.trans k6⟩
            rw [List.take_add_one, hv, List.map_append, ← List.append_assoc, List.find?_append, e5]
            show Option.or none (List.find? _ [(wy, ov)]) = none
            simp [hb]
          | true =>
            refine iteT_of rfl ?_
            have hx1 : crossF (fS sq) ws (cc, oo) = some (cc, oo, wy, ov) := by
              rw [crossF_find, eg2, List.find?_append, e5]
              show Option.map _ (Option.or none (List.find? _ ((wy, ov) :: rest2))) = _
              simp [hb]
            have hx2 : crossT (fS sq) cs ws = some (cc, oo, wy, ov) := by
              unfold crossT
              rw [eg, List.findSome?_append, e3]
              show Option.or none (List.findSome? (crossF (fS sq) ws) ((cc, oo) :: rest)) = _
              simp [hx1]
            refine ⟨_, rfl, _, rfl, _, rfl, _, rfl, by show 4 ≤ sizeLine; decide, fun t ht => ?_⟩
            exact q2 _ hx2 t _ upd_same ((k5.trans k6).new ht _)
        · rintro σ H5 ⟨v6, rfl, e5, k5⟩
          rw [List.length_map, List.take_of_length_le (Nat.le_refl _)] at e5
          refine ⟨_, _, rfl, ?_, k5⟩
          rw [List.take_add_one, hw]
          show ((gridP (ws.take m ++ [wy]) ws).find? _) = none
          rw [gridP_snoc]
          exact e5
      · rintro σ H4 ⟨v5, v6, rfl, e4, k4⟩
        rw [List.length_map, List.take_of_length_le (Nat.le_refl _)] at e4
        refine ⟨_, _, _, rfl, ?_, k4⟩
        have hn : crossF (fS sq) ws (cc, oo) = none := by rw [crossF_find, e4]; rfl
        rw [List.take_add_one, ho, List.map_append, ← List.append_assoc, List.findSome?_append, e3]
        show Option.or none (List.findSome? (crossF (fS sq) ws) [(cc, oo)]) = none
        simp [hn]
    · rintro σ H3 ⟨v4, v5, v6, rfl, e3, k3⟩
      rw [List.length_map, List.take_of_length_le (Nat.le_refl _)] at e3
      refine ⟨_, _, _, _, rfl, ?_, k3⟩
      rw [List.take_add_one, hc]
      show (gridP (cs.take i ++ [cc]) cs).findSome? (crossF (fS sq) ws) = none
      rw [gridP_snoc]
      exact e3
  rintro σ H2 ⟨v3, v4, v5, v6, rfl, e, k⟩
  rw [List.length_map, List.take_of_length_le (Nat.le_refl _)] at e
  exact q1 e H2 k
end
end Hb
set_option maxHeartbeats 1000000
/-! k44: tables that are equal -/
namespace Hb
open PySem PySem.Spec PyProof.Rows L2
theorem strs_dp {K : PySem.W.Frag} {H : Hp} : ∀ cs : List Str, DpAll K H (cs.map V.str) (cs.map PyData.str)
  | [] => .nil
  | c :: cs => .cons (.str _) (strs_dp cs)
theorem strs_nice : ∀ {cs : List Str}, (∀ c ∈ cs, okName c) → niceAll (cs.map PyData.str) = true
  | [], _ => rfl
  | c :: cs, h => by
    simp only [List.map_cons, niceAll, Bool.and_eq_true, nice]
    exact ⟨decide_eq_true (okName_small (h c List.mem_cons_self)), strs_nice fun x m => h x (List.mem_cons_of_mem _ m)⟩
theorem strs_dep : ∀ (cs : List Str), PyData.depthAll (cs.map PyData.str) ≤ 1
  | [] => by simp [PyData.depthAll]
  | c :: cs => by
    have := strs_dep cs
    simp only [List.map_cons, PyData.depthAll, PyData.depth]
    omega
theorem strs_shaped {cs : List Str} (h : ∀ c ∈ cs, okName c) : SeqAt.shaped (.list (cs.map PyData.str)) = true := by
  refine nice_shaped (by simp only [nice]; exact strs_nice h) ?_
  have := strs_dep cs
  simp only [PyData.depth]
  omega
theorem strs_eqv : ∀ cs ds : List Str, PyData.eqvAll (cs.map PyData.str) (ds.map PyData.str) = decide (cs = ds)
  | [], [] => by simp [PyData.eqvAll]
  | [], _ :: _ => by simp [PyData.eqvAll]
  | _ :: _, [] => by simp [PyData.eqvAll]
  | c :: cs, d :: ds => by
    rw [Bool.eq_iff_iff]
    simp only [List.map_cons, PyData.eqvAll, Bool.and_eq_true, decide_eq_true_eq, List.cons.injEq, strs_eqv cs ds]
    constructor
    · rintro ⟨h1, h2⟩
      have := eqv_str.mp h1
      exact ⟨by injection this with e; exact e.symm, h2⟩
    · rintro ⟨rfl, h2⟩
      exact ⟨eqv_str.mpr rfl, h2⟩
/-- what the class of tables is -/
structure Te (K : PySem.W.Frag) (mg : Str → Option Value) (C : Addr) : Prop extends Tc K mg C where
  ha : PySem.W.findIn K (.ref C) "__class__" = some (some (.builtin "object.__class__"))
  hn : PySem.W.specialIn K (.builtin "object.__class__") "__get__" = some (some (.builtin "getset_descriptor.__get__"))
  htk : PySem.W.takesIn K (.builtin "object.__class__") = some true
  hm : PySem.W.mroIn K C (.type "object") = some true
  isP : PySem.W.kitOne K (.ref C) (.ref C) = some true
  ne : PySem.W.findIn K (.ref C) "__ne__" = some (some (.builtin "object.__ne__"))
/-- both tables have the same cells and ways and put the same back -/
def tabEq (cs ws cs2 ws2 : List Str) (g g2 : Str × Str → Bool) : Bool := (decide (cs = cs2) && decide (ws = ws2)) && eqT (kvP (gridP cs ws) fun p => .bl (g p)) (kvP (gridP cs2 ws2) fun p => .bl (g2 p))
def spTLike (C : Addr) : Sp := fun vs H Q _ => ∃ (a b : Addr) (cs ws cs2 ws2 : List Str) (g g2 : Str × Str → Bool), vs = [.ref a, .ref b] ∧ TabAt C H a cs ws g ∧ TabAt C H b cs2 ws2 g2 ∧ (∀ c ∈ cs, okName c) ∧ (∀ c ∈ ws, okName c) ∧ (∀ c ∈ cs2, okName c) ∧ (∀ c ∈ ws2, okName c) ∧ ∀ H', Kp [] H H' → Q (.bl (decide (cs = cs2) && decide (ws = ws2))) H'
def spTEq (C : Addr) : Sp := fun vs H Q _ => ∃ (a b : Addr) (cs ws cs2 ws2 : List Str) (g g2 : Str × Str → Bool), vs = [.ref a, .ref b] ∧ TabAt C H a cs ws g ∧ TabAt C H b cs2 ws2 g2 ∧ (∀ c ∈ cs, okName c) ∧ (∀ c ∈ ws, okName c) ∧ (∀ c ∈ cs2, okName c) ∧ (∀ c ∈ ws2, okName c) ∧ ∀ H', Kp [] H H' → Q (.bl (tabEq cs ws cs2 ws2 g g2)) H'
section
variable {P : Program} {w : World} {K : PySem.W.Frag} {mg : Str → Option Value} {base : Heap} {f f1 f2 f3 C : Addr} {fd fd1 fd2 fd3 : FuncData}
theorem ok_are_like (D : Df K mg "are_like" st_are_like ["one", "other"] f fd) (c : Tc K mg C) : FnOk P w K mg base CX0 1 f fd ["one", "other"] (spTLike C) := by
  refine D.fn.ok sc_are_like (fun vs H Q E h => ?_) (fun cdv A outer s H vs Q E hr h => ?_)
  · obtain ⟨a, b, cs, ws, cs2, ws2, g, g2, rfl, _⟩ := h
    rfl
  obtain ⟨a, b, cs, ws, cs2, ws2, g, g2, rfl, ⟨dx, p, r, d, ha, hp, hr1, hd⟩, ⟨dy, p2, r2, d2, hb, hp2, hr2, hd2⟩, o1, o2, o3, o4, q⟩ := h
  refine ⟨_, PSs.nox (pss_one (ps_ret (pe_and (pe_cmpR (op_eqD hr.units) (pe_fld (pv 0) rfl) (pe_fld (pv 1) rfl) rfl) (pe_one (pe_cmpR (op_eqD hr.units) (pe_fld (pv 0) rfl) (pe_fld (pv 1) rfl) rfl))))), ?_⟩
  refine ⟨_, rfl, a, C, dx, _, .ref p, rfl, ha, c.cls, c.no _ (by simp), rfl, ?_⟩
  refine ⟨_, rfl, b, C, dy, _, .ref p2, rfl, hb, c.cls, c.no _ (by simp), rfl, ?_⟩
  refine ⟨.list (cs.map PyData.str), .list (cs2.map PyData.str), .lst (SqL.of hp) (strs_dp cs), .lst (SqL.of hp2) (strs_dp cs2), strs_shaped o1, strs_shaped o3, ?_⟩
  rw [show PyData.eqv (.list (cs.map PyData.str)) (.list (cs2.map PyData.str)) = decide (cs = cs2) by simp only [PyData.eqv]; exact strs_eqv cs cs2]
  refine ⟨_, rfl, ?_⟩
  have q1 := q H (Kp.refl _ _)
  cases h1 : decide (cs = cs2) with
  | false =>
    refine iteF_of rfl ?_
    rw [h1] at q1
    exact q1
  | true =>
    refine iteT_of rfl ?_
    rw [h1] at q1
    refine ⟨_, rfl, a, C, dx, _, .ref r, rfl, ha, c.cls, c.no _ (by simp), rfl, ?_⟩
    refine ⟨_, rfl, b, C, dy, _, .ref r2, rfl, hb, c.cls, c.no _ (by simp), rfl, ?_⟩
    refine ⟨.list (ws.map PyData.str), .list (ws2.map PyData.str), .lst (SqL.of hr1) (strs_dp ws), .lst (SqL.of hr2) (strs_dp ws2), strs_shaped o2, strs_shaped o4, ?_⟩
    rw [show PyData.eqv (.list (ws.map PyData.str)) (.list (ws2.map PyData.str)) = decide (ws = ws2) by simp only [PyData.eqv]; exact strs_eqv ws ws2]
    exact q1
theorem ok_Table_eq (D : Dm K C "__eq__" "Table.__eq__" st_Table_eq ["self", "other"] f fd) (c : Te K mg C) (B : Bl mg) (G_are_like : FnOk P w K mg base CX0 1 f1 fd1 ["one", "other"] (spTLike C)) (D_are_like : Df K mg "are_like" st_are_like ["one", "other"] f1 fd1) : FnOk P w K mg base CX0 2 f fd ["self", "other"] (spTEq C) := by
  refine D.fn.ok sc_Table_eq (fun vs H Q E h => ?_) (fun cdv A outer s H vs Q E hr h => ?_)
  · obtain ⟨a, b, cs, ws, cs2, ws2, g, g2, rfl, _⟩ := h
    rfl
  obtain ⟨a, b, cs, ws, cs2, ws2, g, g2, rfl, tab, tab2, o1, o2, o3, o4, q⟩ := h
  refine ⟨_, PSs.nox (pss_one (ps_ret (pe_and (pe_callB call_isi (by rfl) B.isi (by decide +kernel) (pa_cons (pv 1) (pa_cons (pe_glob (v := .ref C) rfl c.gl rfl) pa_nil))) (pe_and (pe_call G_are_like (hr.mono (by decide)) (by rfl) D_are_like.gl D_are_like.fn.kp D_are_like.bd .nil pass0 (pa_cons (pv 0) (pa_cons (pv 1) pa_nil))) (pe_one (pe_cmpR (op_eqT hr.units) (pe_fld (pv 0) rfl) (pe_fld (pv 1) rfl) rfl)))))), ?_⟩
  obtain ⟨dy, fs2, hb, _⟩ := tab2.ins
  refine ⟨_, rfl, _, _, _, _, _, rfl, .own C, .base (.ins hb c.cls c.ha c.hn c.htk c.hm), c.isP, ?_⟩
  refine ⟨_, rfl, ?_⟩
  refine iteT_of rfl ?_
  refine ⟨_, rfl, _, rfl, a, b, cs, ws, cs2, ws2, g, g2, rfl, tab, tab2, o1, o2, o3, o4, fun H1 k1 => ?_⟩
  refine ⟨_, rfl, ?_⟩
  have q1 := q H1 k1
  unfold tabEq at q1
  cases h1 : decide (cs = cs2) && decide (ws = ws2) with
  | false =>
    refine iteF_of rfl ?_
    rw [h1] at q1
    exact q1
  | true =>
    refine iteT_of rfl ?_
    rw [h1] at q1
    obtain ⟨dx, p, r, d, ha, hp, hr1, hd⟩ := tab.keep k1
    obtain ⟨dy, p2, r2, d2, hb, hp2, hr2, hd2⟩ := tab2.keep k1
    refine ⟨_, rfl, a, C, dx, _, .ref d, rfl, ha, c.cls, c.no _ (by simp), rfl, ?_⟩
    refine ⟨_, rfl, b, C, dy, _, .ref d2, rfl, hb, c.cls, c.no _ (by simp), rfl, ?_⟩
    refine ⟨d, d2, _, _, rfl, rfl, hd, hd2, fun z m => ?_, fun z m => ?_, q1⟩
    · unfold kvP at m
      obtain ⟨y, _, rfl⟩ := List.mem_map.mp m
      exact ⟨_, rfl⟩
    · unfold kvP at m
      obtain ⟨y, _, rfl⟩ := List.mem_map.mp m
      exact ⟨_, rfl⟩
end
end Hb
set_option maxHeartbeats 1000000
/-! k44: all squares, some squares -/
namespace Hb
open PySem PySem.Spec PyProof.Rows L2
abbrev st_some : Stmt := top 35
theorem sc_squares : FnScope ["_law_cells", "_law_ways", "_law_found", "_law_cell", "_law_way"] ["_law_cells", "_law_ways"] (defScope st_squares) := ⟨rfl, rfl, rfl, by decide +kernel, rfl, by decide +kernel, by decide +kernel⟩
theorem sc_some : FnScope ["_law_stream", "_law_things", "_law_thing"] ["_law_stream", "_law_things"] (defScope st_some) := ⟨rfl, rfl, rfl, by decide +kernel, rfl, by decide +kernel, by decide +kernel⟩
theorem tabEq_true {cs ws : List Str} {g g2 : Str × Str → Bool} (h : ∀ x ∈ gridP cs ws, g x = g2 x) : tabEq cs ws cs ws g g2 = true := by
  unfold tabEq eqT
  rw [decide_eq_true rfl, decide_eq_true rfl]
  simp only [Bool.and_self, Bool.true_and, Bool.and_eq_true, List.all_eq_true, decide_eq_true_eq]
  refine ⟨by unfold kvP; simp, fun p m => ?_⟩
  unfold kvP at m
  obtain ⟨y, hy, rfl⟩ := List.mem_map.mp m
  rw [kvP_val, if_pos hy, ← h y hy]
theorem PrsA.sub {K : PySem.W.Frag} {H : Hp} {ys us : List V} (s : ys.Sublist us) : ∀ {ps : List (Str × Str)}, PrsA K H us ps → ∃ qs, qs.Sublist ps ∧ PrsA K H ys qs := by
  induction s with
  | slnil => exact fun h => ⟨[], List.nil_sublist _, .nil⟩
  | @cons l1 l2 a _ ih =>
    intro ps h
    cases h with
    | cons h1 h2 =>
      obtain ⟨qs, s1, h3⟩ := ih h2
      exact ⟨qs, s1.cons _, h3⟩
  | @cons_cons l1 l2 a _ ih =>
    intro ps h
    cases h with
    | cons h1 h2 =>
      obtain ⟨qs, s1, h3⟩ := ih h2
      exact ⟨_, s1.cons_cons _, .cons h1 h3⟩
def spSome (K : PySem.W.Frag) : Sp := fun vs H Q _ => ∃ (a b p : Addr) (n : Nat) (xs : List V), vs = [.ref a, .ref p] ∧ Spr a b (n + xs.length) H ∧ (∀ H', Kp [a, b] H H' → SqL K H' p xs) ∧ xs.length ≤ 1000 ∧
  ∀ (r : Addr) (ys : List V) (H' : Hp), ys.Sublist xs → H r = none → H' r = some (.lst ys) → Spr a b n H' → Kp [a, b] H H' → Q (.ref r) H'
def spSquares (K : PySem.W.Frag) : Sp := fun vs H Q _ => ∃ (p q : Addr) (cs ws : List Str), vs = [.ref p, .ref q] ∧ H p = some (.lst (cs.map V.str)) ∧ H q = some (.lst (ws.map V.str)) ∧ cs.length ≤ 1000 ∧ ws.length ≤ 1000 ∧
  ∀ (r : Addr) (us : List V) (H' : Hp), H r = none → H' r = some (.lst us) → PrsA K H' us (gridP cs ws) → Kp [] H H' → Q (.ref r) H'
section
variable {P : Program} {w : World} {K : PySem.W.Frag} {mg : Str → Option Value} {base : Heap} {f g f1 f2 f3 C : Addr} {fd gd fd1 fd2 fd3 : FuncData}
theorem ok_some (D : Df K mg "_law_some" st_some ["_law_stream", "_law_things"] f fd) (D_draw : Df K mg "_law_draw" st_draw ["_law_stream", "_law_many"] g gd) (B : Bl mg) : FnOk P w K mg base CX0 2 f fd ["_law_stream", "_law_things"] (spSome K) := by
  have G_draw := ok_draw (P := P) (w := w) (base := base) D_draw B
  refine D.fn.ok sc_some (fun vs H Q E h => ?_) (fun cdv A outer s H vs Q E hr h => ?_)
  · obtain ⟨a, b, p, n, xs, rfl, _⟩ := h
    rfl
  obtain ⟨a, b, p, n, xs, rfl, hS, hp, hl, q⟩ := h
  have nd := sc_some.nd
  refine ⟨_, PSs.nox (pss_one (ps_ret (pe_lc (own := [("_law_thing", 2)]) (g := gName 2) rfl nd (pi_list (pv 1)) (blkOk_by (own := [("_law_thing", 2)]) (N := ["_law_stream", "_law_things", "_law_thing"]) (sc := defScope st_some) (by decide +kernel)) (fun _ _ _ _ _ => pg_name (i := 2) nd rfl (Or.inl rfl))
    (fun _ _ _ _ _ => by (apply PTs.to); (focus (exact pts_one (pt_cmpR op_eq (pe_call G_draw (hr.mono (by decide)) (by rfl) D_draw.gl D_draw.fn.kp D_draw.bd .nil pass0 (pa_cons (pv 0) (pa_cons pe_int pa_nil))) pe_int (nomark _)))); (focus ((try dsimp only [Cx.blk, Cx.nox, cxOf]); (try exact rfl)))) (fun _ _ _ _ _ => pv 2)))), ?_⟩
  refine ⟨_, rfl, p, rfl, ⟨_, hp H (Kp.refl _ _)⟩, fun D1 hD1 => ?_⟩
  have hDa := hS.sep.free hD1
  have k0 : Kp [a, b] H (upd H D1 (.lst [])) := (Kp.refl _ _).new hD1 _
  refine lc_list (K := K) (a := p) (xs := xs) (fun i H' => ∃ acc, H' D1 = some (.lst acc) ∧ acc.Sublist (xs.take i) ∧ Spr a b (n + (xs.length - i)) H' ∧ Kp [a, b] H H') ?_ ?_ ?_ ?_
  · exact ⟨[], upd_same, List.nil_sublist _, hS.upd hD1 _, k0⟩
  · rintro i H' hi ⟨acc, e1, sb, s1, k⟩
    exact hp H' k
  · rintro i x H1 hx ⟨acc, e1, sb, s1, k⟩
    have hi := (List.getElem?_eq_some_iff.mp hx).1
    have et : xs.take (i + 1) = xs.take i ++ [x] := by rw [List.take_add_one, hx]; rfl
    have la : acc.length ≤ 1000 := Nat.le_trans sb.length_le (Nat.le_trans (List.length_take_le' i xs) hl)
    refine ⟨rfl, ?_⟩
    refine ⟨_, rfl, a, b, n + (xs.length - (i + 1)), 2, rfl, s1.less (by omega), by decide, by decide, fun r H2 r0 r1 s2 k2 => ?_⟩
    have f2 : H2 D1 = some (.lst acc) := k2.keep _ _ e1 hDa
    refine ⟨rfl, _, rfl, ?_⟩
    refine ite2 (fun c => ?_) (fun c => ?_)
    · refine ⟨_, rfl, acc, f2, by rw [sizeLine_eq]; omega, acc ++ [x], upd_same, ?_, ?_, (k.trans k2).own hD1 _⟩
      · rw [et]
        exact sb.append (List.Sublist.refl _)
      · refine s2.keep (S := [D1]) ((Kp.refl _ _).put (by simp) f2 (o := _)) ?_ ?_
        · intro m; exact hDa (by simp at m; simp [m])
        · intro m; exact hDa (by simp at m; simp [m])
    · refine ⟨acc, f2, ?_, s2, k.trans k2⟩
      rw [et]
      exact sb.trans (List.sublist_append_left _ _)
  rintro H1 ⟨acc, e1, sb, s1, k⟩
  rw [List.take_of_length_le (Nat.le_refl _)] at sb
  exact q D1 acc H1 sb hD1 e1 (s1.less (by omega)) k
theorem ok_squares (D : Df K mg "_law_squares" st_squares ["_law_cells", "_law_ways"] f fd) : FnOk P w K mg base CX0 1 f fd ["_law_cells", "_law_ways"] (spSquares K) := by
  refine D.fn.ok sc_squares (fun vs H Q E h => ?_) (fun cdv A outer s H vs Q E hr h => ?_)
  · obtain ⟨p, q, cs, ws, rfl, _⟩ := h
    rfl
  obtain ⟨p, q, cs, ws, rfl, hp, hq, lc, lw, Q1⟩ := h
  have nd := sc_squares.nd
  refine ⟨_, PSs.nox (pss_cons (ps_set (i := 2) nd rfl (.inl rfl) (pe_lst pa_nil))
    (pss_cons (ps_for PassesOwn.never rfl (pi_list (pv 0)) (pg_name (i := 3) nd rfl (.inr rfl))
      (pss_one (ps_expr (pe_bm PySem.F.plainAttrs_list PySem.F.slot_list_extend PySem.F.type_list_extend mt_extend (pv 2) (pa_cons (pe_lc (own := [("_law_way", 4)]) (g := gName 4) (tt := tYes) rfl nd (pi_list (pv 1)) (blkOk_by (own := [("_law_way", 4)]) (N := ["_law_cells", "_law_ways", "_law_found", "_law_cell", "_law_way"]) (sc := defScope st_squares) (by decide +kernel)) (fun _ _ _ _ _ => pg_name (i := 4) nd rfl (Or.inl rfl)) (fun _ _ _ _ _ => pts_nil) (fun _ _ _ _ _ => pe_tup (pa_cons (pv 3) (pa_cons (pv 4) pa_nil)))) pa_nil)))))
    (pss_one (ps_ret (pv 2))))), ?_⟩
  refine ⟨by show 0 ≤ sizeLine; decide, fun fo hfo => ?_⟩
  have k1 : Kp [] H (upd H fo (.lst [])) := (Kp.refl _ _).new hfo _
  refine ⟨_, rfl, p, rfl, ⟨_, SqL.of (k1.keep _ _ hp List.not_mem_nil)⟩, for_list (K := K) (a := p) (xs := cs.map V.str) (fun i σ H' => ∃ (v3 : Option V) (ys : List V), σ = [some (.ref p), some (.ref q), some (.ref fo), v3, none] ∧ H' fo = some (.lst ys) ∧ PrsA K H' ys (gridP (cs.take i) ws) ∧ ys.length ≤ i * 1000 ∧ Kp [] H H') ?_ ?_ ?_ ?_⟩
  · exact ⟨none, [], rfl, upd_same, .nil, Nat.zero_le _, k1⟩
  · rintro i σ H' hi ⟨v3, ys, rfl, e1, p1, ly, k⟩
    exact SqL.of (k.keep _ _ hp List.not_mem_nil)
  · rintro i x σ H2 hx ⟨v3, ys, rfl, e1, p1, ly, k⟩
    rw [List.getElem?_map] at hx
    obtain ⟨cc, hc, rfl⟩ := Option.map_eq_some_iff.mp hx
    have hi := (List.getElem?_eq_some_iff.mp hc).1
    have e2 : H2 q = some (.lst (ws.map V.str)) := k.keep _ _ hq List.not_mem_nil
    refine ⟨_, rfl, .inl ⟨rfl, _, SqL.of e1⟩, _, rfl, q, rfl, ⟨_, SqL.of e2⟩, fun D1 hD1 => ?_⟩
    refine lc_list (K := K) (a := q) (xs := ws.map V.str) (fun j H' => ∃ zs, H' D1 = some (.lst zs) ∧ PrsA K H' zs ((ws.take j).map fun w => (cc, w)) ∧ Kp [] H2 H') ?_ ?_ ?_ ?_
    · exact ⟨[], upd_same, .nil, (Kp.refl _ _).new hD1 _⟩
    · rintro j H' hj ⟨zs, e3, pz, k3⟩
      exact SqL.of (k3.keep _ _ e2 List.not_mem_nil)
    · rintro j x H3 hx ⟨zs, e3, pz, k3⟩
      rw [List.getElem?_map] at hx
      obtain ⟨y, hy, rfl⟩ := Option.map_eq_some_iff.mp hx
      have et2 : ws.take (j + 1) = ws.take j ++ [y] := by rw [List.take_add_one, hy]; rfl
      have lz := pz.length
      have lz2 := List.length_take_le' j ws
      rw [List.length_map] at lz
      refine ⟨rfl, ?_⟩
      refine ⟨_, rfl, _, rfl, by show 2 ≤ sizeLine; decide, fun t2 ht2 => ?_⟩
      have kt : Kp [] H3 (upd H3 t2 (.tup [.str cc, .str y])) := (Kp.refl _ _).new ht2 _
      have e4 := kt.keep _ _ e3 List.not_mem_nil
      have kD : Kp [D1] (upd H3 t2 (.tup [.str cc, .str y])) (upd (upd H3 t2 (.tup [.str cc, .str y])) D1 (.lst (zs ++ [.ref t2]))) := (Kp.refl _ _).put (by simp) e4 (o := _)
      refine ⟨zs, e4, by rw [sizeLine_eq]; omega, zs ++ [.ref t2], upd_same, ?_, (k3.trans kt).own hD1 _⟩
      rw [et2, List.map_append]
      exact ((pz.keep kt).keep kD).append (.cons ⟨t2, rfl, kD.seqT (SqT.of upd_same)⟩ .nil)
    rintro H3 ⟨zs, e3, pz, k3⟩
    rw [List.length_map, List.take_of_length_le (Nat.le_refl _)] at pz
    have lz := pz.length
    rw [List.length_map] at lz
    have e1' := k3.keep _ _ e1 List.not_mem_nil
    have li : i * 1000 ≤ 1000 * 1000 := Nat.mul_le_mul_right _ (by omega)
    refine ⟨fo, D1, ys, zs, rfl, rfl, e1', e3, by rw [sizeLine_eq]; omega, ?_⟩
    have kf : Kp [fo] H3 (upd H3 fo (.lst (ys ++ zs))) := (Kp.refl _ _).put (by simp) e1' (o := _)
    refine ⟨_, ys ++ zs, rfl, upd_same, ?_, by rw [List.length_append, Nat.succ_mul]; omega, (k.trans k3).own hfo _⟩
    have : cs.take (i + 1) = cs.take i ++ [cc] := by rw [List.take_add_one, hc]; rfl
    rw [this, gridP_snoc]
    exact ((p1.keep k3).keep kf).append (pz.keep kf)
  rintro σ H2 ⟨v3, ys, rfl, e1, p1, ly, k⟩
  rw [List.length_map, List.take_of_length_le (Nat.le_refl _)] at p1
  exact ⟨_, rfl, Q1 fo ys H2 hfo e1 p1 k⟩
end
end Hb
set_option maxHeartbeats 1000000
/-! k44: what the law asks, of the maths -/
namespace Hb
open PySem PySem.Spec PyProof.Rows L2
theorem cells_lay (cs ws : List Str) : cellsOf (layL cs ws) = cs := by
  unfold cellsOf layL
  have a : (cs.map cL).filter (fun l : Str × Str => decide (l.1 = ("cell" : Str))) = cs.map cL := List.filter_eq_self.mpr fun x m => by
    obtain ⟨c, _, rfl⟩ := List.mem_map.mp m
    exact decide_eq_true rfl
  have b : (ws.map wL).filter (fun l : Str × Str => decide (l.1 = ("cell" : Str))) = [] := List.filter_eq_nil_iff.mpr fun x m => by
    obtain ⟨c, _, rfl⟩ := List.mem_map.mp m
    show ¬ (decide (("way" : Str) = "cell") = true)
    decide +kernel
  rw [List.filter_append, a, b, List.append_nil, List.map_map]
  exact List.map_id cs
theorem ways_lay (cs ws : List Str) : waysOf (layL cs ws) = ws := by
  unfold waysOf layL
  have a : (ws.map wL).filter (fun l : Str × Str => decide (l.1 = ("way" : Str))) = ws.map wL := List.filter_eq_self.mpr fun x m => by
    obtain ⟨c, _, rfl⟩ := List.mem_map.mp m
    exact decide_eq_true rfl
  have b : (cs.map cL).filter (fun l : Str × Str => decide (l.1 = ("way" : Str))) = [] := List.filter_eq_nil_iff.mpr fun x m => by
    obtain ⟨c, _, rfl⟩ := List.mem_map.mp m
    show ¬ (decide (("cell" : Str) = "way") = true)
    decide +kernel
  rw [List.filter_append, a, b, List.nil_append, List.map_map]
  exact List.map_id ws
theorem cells_perm {L M : List (Str × Str)} (p : L.Perm M) : (cellsOf L).Perm (cellsOf M) := (p.filter _).map _
theorem ways_perm {L M : List (Str × Str)} (p : L.Perm M) : (waysOf L).Perm (waysOf M) := (p.filter _).map _
/-- the table of the pile is the table -/
theorem table_again {g : Str × Str → Bool} {cs ws cs' ws' : List Str} {L : List (Str × Str)} (s1 : sortedS cs = true) (s2 : sortedS ws = true) (h : pileG g (layL cs ws).length (layL cs ws) [] = some L)
    (p1 : cs'.Perm (cellsOf L)) (t1 : sortedS cs' = true) (p2 : ws'.Perm (waysOf L)) (t2 : sortedS ws' = true) : cs' = cs ∧ ws' = ws ∧ L.Perm (layL cs ws) ∧ ∀ x ∈ gridP cs ws, fS (behP L) x = g x := by
  obtain ⟨M, e, pm, ok⟩ := pile_some _ _ _ _ rfl h
  obtain rfl : L = M := e
  have a := (p1.trans (cells_perm pm)).trans (by rw [cells_lay])
  have b := (p2.trans (ways_perm pm)).trans (by rw [ways_lay])
  refine ⟨sortedS_unique t1 s1 a, sortedS_unique t2 s2 b, pm, fun x hx => ?_⟩
  obtain ⟨hc, hw⟩ := mem_gridP.mp hx
  have mc : cL x.1 ∈ L := pm.mem_iff.mpr (lay_c hc)
  have mw : wL x.2 ∈ L := pm.mem_iff.mpr (lay_w hw)
  rw [← okPile_ahead ok mc mw, Bool.eq_iff_iff]
  unfold fS ahead
  rw [decide_eq_true_eq, decide_eq_true_eq, mem_behP]
  exact ⟨fun z => z.2.2, fun z => ⟨mc, mw, z⟩⟩
/-- a table of a pile has a pile -/
theorem pile_there {cs ws : List Str} {M sq : List (Str × Str)} (nc : cs.Nodup) (nw : ws.Nodup) (ok : ∀ l ∈ M, okLay l) (p : M.Perm (layL cs ws)) (hs : sq.Perm (behS M).1) : pileG (fS sq) (layL cs ws).length (layL cs ws) [] ≠ none := by
  have nd : M.Nodup := p.nodup_iff.mpr (lay_nodup nc nw)
  have b := (behS_all _ M rfl nd ok).2.2
  refine pile_of_order p fun c hc w hw => ?_
  have mc : cL c ∈ M := p.mem_iff.mpr (lay_c hc)
  have mw : wL w ∈ M := p.mem_iff.mpr (lay_w hw)
  rw [Bool.eq_iff_iff]
  unfold fS ahead
  rw [decide_eq_true_eq, decide_eq_true_eq, hs.mem_iff, b]
  exact ⟨fun z => z.2.2, fun z => ⟨mc, mw, z⟩⟩
/-- what stands among the squares of a pile is of its cells and ways -/
theorem beh_in {cs ws : List Str} {M sq : List (Str × Str)} (nc : cs.Nodup) (nw : ws.Nodup) (ok : ∀ l ∈ M, okLay l) (p : M.Perm (layL cs ws)) (hs : sq.Perm (behS M).1) : ∀ x ∈ sq, x ∈ gridP cs ws := fun x m => by
  have nd : M.Nodup := p.nodup_iff.mpr (lay_nodup nc nw)
  have b := ((behS_all _ M rfl nd ok).2.2 x).mp (hs.mem_iff.mp m)
  have e := cellsOf_lay cs ws
  refine mem_gridP.mpr ⟨?_, ?_⟩
  · rw [← e.1]
    exact mem_cellsOf.mpr (p.mem_iff.mp b.1)
  · rw [← e.2]
    exact mem_waysOf.mpr (p.mem_iff.mp b.2.1)
end Hb
set_option maxHeartbeats 1000000
/-! k44: a pile as data, for of_pile -/
namespace Hb
open PySem PySem.Spec PyProof.Rows L2
theorem wt_pair {l : Str × Str} (h : okLay l) : wt (pairD l) ≤ 200 := by
  have h1 : l.1.length ≤ 4 := by
    rcases h.1 with e | e <;> rw [e] <;> decide +kernel
  have h2 := h.2.2.1
  simp only [pairD, wt, wts]
  omega
theorem wts_pairs : ∀ {L : List (Str × Str)}, (∀ l ∈ L, okLay l) → wts (L.map pairD) ≤ 300 * L.length
  | [], _ => by simp [wts]
  | l :: L, h => by
    have h1 := wts_pairs (L := L) fun y m => h y (List.mem_cons_of_mem _ m)
    have h2 := wt_pair (h l List.mem_cons_self)
    simp only [List.map_cons, wts, List.length_cons]
    omega
theorem lay_pair {l : Str × Str} (h : okLay l) : layOf (pairD l) = some l := by
  rw [layOf_pair (d := pairD l) (k := l.1) (n := l.2) rfl]
  exact if_pos h
theorem lz_pair {l : Str × Str} (h : okLay l) : LzOk (pairD l) := by
  refine ⟨fun x0 x1 e => ?_⟩
  have e' : [PyData.str l.1, .str l.2] = [x0, x1] := Option.some.inj e
  simp only [List.cons.injEq, and_true] at e'
  obtain ⟨rfl, rfl⟩ := e'
  refine ⟨⟨_, rfl⟩, fun s hs => ?_⟩
  injection hs with hs
  rw [← hs]
  have := h.2.2.1
  omega
theorem prsA_de {K : PySem.W.Frag} {H : Hp} : ∀ {vs : List V} {ps : List (Str × Str)}, PrsA K H vs ps → DeA K H vs (ps.map pairD)
  | _, _, .nil => .nil
  | _, _, .cons ⟨t, e, h⟩ b => .cons (by rw [e]; exact .tup h (.cons (.str _) (.cons (.str _) .nil))) (prsA_de b)
theorem lays_map : ∀ {L : List (Str × Str)}, (∀ l ∈ L, okLay l) → (L.map pairD).map layOf = L.map some
  | [], _ => rfl
  | l :: L, h => by
    simp only [List.map_cons]
    rw [lay_pair (h l List.mem_cons_self), lays_map fun y m => h y (List.mem_cons_of_mem _ m)]
/-- what of_pile wants of a pile that stands -/
theorem pile_data {K : PySem.W.Frag} {H : Hp} {y : Addr} {us : List V} {L : List (Str × Str)} (hy : H y = some (.lst us)) (pu : PrsA K H us L) (ok : ∀ l ∈ L, okLay l) (ln : L.length ≤ 20) :
    De K H (.ref y) (.list (L.map pairD)) ∧ sqOf (.list (L.map pairD)) = some (L.map pairD) ∧ (∀ x ∈ L.map pairD, LzOk x) ∧ wt (.list (L.map pairD)) ≤ 8000000 ∧ (L.map pairD).length ≤ 20 ∧ (L.map pairD).map layOf = L.map some := by
  refine ⟨.lst hy (prsA_de pu), rfl, fun x m => ?_, ?_, by rw [List.length_map]; exact ln, lays_map ok⟩
  · obtain ⟨l, hl, rfl⟩ := List.mem_map.mp m
    exact lz_pair (ok l hl)
  · have := wts_pairs ok
    simp only [wt]
    omega
/-- a pile has no bad layer -/
theorem pile_good {L : List (Str × Str)} (ok : ∀ l ∈ L, okLay l) (nd : L.Nodup) : ∀ i, ¬ BadAt (L.map pairD) i := by
  rintro i ⟨ls, e1, nls, d', hd', hb⟩
  rw [List.getElem?_map] at hd'
  obtain ⟨l, hl, rfl⟩ := Option.map_eq_some_iff.mp hd'
  have hm := hb l (lay_pair (ok l (List.mem_of_getElem? hl)))
  have e2 : ((L.take i).map pairD).map layOf = (L.take i).map some := lays_map fun y m => ok y (List.mem_of_mem_take m)
  rw [← List.map_take, e2] at e1
  have e3 : L.take i = ls := (List.map_inj_right fun _ _ h => Option.some.inj h).mp e1
  rw [← e3] at hm
  obtain ⟨hi, he⟩ := List.getElem?_eq_some_iff.mp hl
  obtain ⟨j, hj, ej⟩ := List.mem_iff_getElem.mp hm
  rw [List.getElem_take] at ej
  have hji : j < i := by
    rw [List.length_take] at hj
    omega
  have := (List.pairwise_iff_getElem.mp nd) j i (by omega) hi hji
  exact this (ej.trans he.symm)
end Hb
set_option maxHeartbeats 1000000
/-! k44: what is found, as data that is shown -/
namespace Hb
open PySem PySem.Spec PyProof.Rows L2
structure ShO (D : PyData) : Prop where
  sh : D.showable = true
  len : D.shown.length ≤ sizeLine
  dep : D.depth ≤ 30
theorem shO_nice {D : PyData} (n : nice D = true) (w : wt D ≤ 1000000) (d : D.depth ≤ 30) : ShO D := by
  have l := nice_len n
  exact ⟨nice_show n, by rw [sizeLine_eq]; omega, d⟩
/-- a pile and a crossing as they are compared -/
def pileD : Option (List (Str × Str)) → PyData
  | none => .none
  | some L => .list (L.map pairD)
def quadD : Option (Str × Str × Str × Str) → PyData
  | none => .none
  | some x => .tuple [.str x.1, .str x.2.1, .str x.2.2.1, .str x.2.2.2]
def okQuad (x : Str × Str × Str × Str) : Prop := okName x.1 ∧ okName x.2.1 ∧ okName x.2.2.1 ∧ okName x.2.2.2
theorem found_sh {due : Option (List (Str × Str))} {over : Option (Str × Str × Str × Str)} (h1 : ∀ L, due = some L → (∀ l ∈ L, okLay l) ∧ L.length ≤ 20) (h2 : ∀ x, over = some x → okQuad x) : ShO (.list [pileD due, quadD over]) := by
  have a : nice (pileD due) = true ∧ wt (pileD due) ≤ 7000 ∧ (pileD due).depth ≤ 3 := by
    cases due with
    | none => exact ⟨rfl, by simp [pileD, wt], by simp [pileD, PyData.depth]⟩
    | some L =>
      obtain ⟨ok, ln⟩ := h1 L rfl
      have w := wts_pairs ok
      have d := pairs_dep L
      refine ⟨by simp only [pileD, nice]; exact pairs_nice ok, by simp only [pileD, wt]; omega, by simp only [pileD, PyData.depth]; omega⟩
  have b : nice (quadD over) = true ∧ wt (quadD over) ≤ 7000 ∧ (quadD over).depth ≤ 3 := by
    cases over with
    | none => exact ⟨rfl, by simp [quadD, wt], by simp [quadD, PyData.depth]⟩
    | some x =>
      obtain ⟨o1, o2, o3, o4⟩ := h2 x rfl
      have l1 := o1.2.1
      have l2 := o2.2.1
      have l3 := o3.2.1
      have l4 := o4.2.1
      refine ⟨?_, by simp only [quadD, wt, wts]; omega, by simp [quadD, PyData.depth, PyData.depthAll]⟩
      simp only [quadD, nice, niceAll, Bool.and_true, Bool.and_eq_true]
      exact ⟨decide_eq_true (okName_small o1), decide_eq_true (okName_small o2), decide_eq_true (okName_small o3), decide_eq_true (okName_small o4)⟩
  refine shO_nice ?_ ?_ ?_
  · simp only [nice, niceAll, Bool.and_true, Bool.and_eq_true]
    exact ⟨a.1, b.1⟩
  · simp only [wt, wts]
    omega
  · simp only [PyData.depth, PyData.depthAll]
    omega
theorem crossT_in {g : Str × Str → Bool} {cs ws : List Str} {x : Str × Str × Str × Str} (h : crossT g cs ws = some x) : x.1 ∈ cs ∧ x.2.1 ∈ cs ∧ x.2.2.1 ∈ ws ∧ x.2.2.2 ∈ ws := by
  unfold crossT at h
  obtain ⟨p, hp, e⟩ := List.exists_of_findSome?_eq_some h
  obtain ⟨h1, h2⟩ := mem_gridP.mp hp
  unfold crossF at e
  cases ha : ofOne g ws p.1 p.2 with
  | nil => rw [ha] at e; cases e
  | cons w t =>
    cases hb : ofOne g ws p.2 p.1 with
    | nil => rw [ha, hb] at e; cases e
    | cons v u =>
      rw [ha, hb] at e
      cases e
      have m1 : w ∈ ofOne g ws p.1 p.2 := by rw [ha]; exact List.mem_cons_self
      have m2 : v ∈ ofOne g ws p.2 p.1 := by rw [hb]; exact List.mem_cons_self
      exact ⟨h1, h2, (List.mem_filter.mp m1).1, (List.mem_filter.mp m2).1⟩
theorem crossT_ok {g : Str × Str → Bool} {cs ws : List Str} {x : Str × Str × Str × Str} (oc : ∀ c ∈ cs, okName c) (ow : ∀ c ∈ ws, okName c) (h : crossT g cs ws = some x) : okQuad x := by
  obtain ⟨h1, h2, h3, h4⟩ := crossT_in h
  exact ⟨oc _ h1, oc _ h2, ow _ h3, ow _ h4⟩
end Hb
set_option maxHeartbeats 4000000
/-! law k44: five turns -/
namespace Hb
open PySem PySem.Spec PyProof.Rows L2
abbrev st_lawK : Stmt := top 42
theorem sc_lawK : FnScope ["_law_script", "_law_stream", "_law_turn", "_law_names_here", "_law_many", "_law_cells", "_law_ways", "_law_squares_here", "_law_turned", "_law_is_piled", "_law_some_here", "_law_square", "_law_kept", "_law_table", "_law_due", "_law_over", "_law_one"] ["_law_script"] (defScope st_lawK) := ⟨rfl, rfl, rfl, by decide +kernel, rfl, by decide +kernel, by decide +kernel⟩
structure LwK (P : Program) (w : World) (K : PySem.W.Frag) (mg : Str → Option Value) (base : Heap) (C : Addr) : Prop where
  B : Bl mg
  c : Te K mg C
  nf : PySem.W.notFirst K C (.ref C) = true
  start : ∃ f fd, FnOk P w K mg base CX0 1 f fd ["_law_script"] (spStart K) ∧ Df K mg "_law_start" st_start ["_law_script"] f fd
  draw : ∃ f fd, FnOk P w K mg base CX0 1 f fd ["_law_stream", "_law_many"] spDraw ∧ Df K mg "_law_draw" st_draw ["_law_stream", "_law_many"] f fd
  names : ∃ f fd, FnOk P w K mg base CX0 4 f fd ["_law_stream", "_law_many"] spNames ∧ Df K mg "_law_names" st_names ["_law_stream", "_law_many"] f fd
  mixed : ∃ f fd, FnOk P w K mg base CX0 2 f fd ["_law_stream", "_law_some_here"] (spMixed K) ∧ Df K mg "_law_mixed" st_mixed ["_law_stream", "_law_some_here"] f fd
  behind : ∃ f fd, FnOk P w K mg base CX0 1 f fd ["_law_layers_here"] (spBehind K) ∧ Df K mg "_law_behind" st_behind ["_law_layers_here"] f fd
  layers : ∃ f fd, FnOk P w K mg base CX0 1 f fd ["_law_cells", "_law_ways"] (spLayers K) ∧ Df K mg "_law_layers" st_layers ["_law_cells", "_law_ways"] f fd
  squares : ∃ f fd, FnOk P w K mg base CX0 1 f fd ["_law_cells", "_law_ways"] (spSquares K) ∧ Df K mg "_law_squares" st_squares ["_law_cells", "_law_ways"] f fd
  some : ∃ f fd, FnOk P w K mg base CX0 2 f fd ["_law_stream", "_law_things"] (spSome K) ∧ Df K mg "_law_some" st_some ["_law_stream", "_law_things"] f fd
  stacked : ∃ f fd, FnOk P w K mg base CX0 2 f fd ["_law_cells", "_law_ways", "_law_squares_here"] (spStacked K) ∧ Df K mg "_law_stacked" st_stacked ["_law_cells", "_law_ways", "_law_squares_here"] f fd
  least : ∃ f fd, FnOk P w K mg base CX0 2 f fd ["_law_cells", "_law_ways", "_law_squares_here"] (spLeast K) ∧ Df K mg "_law_least_crossing" st_least_crossing ["_law_cells", "_law_ways", "_law_squares_here"] f fd
  same : ∃ f fd, FnG P w K mg base CX0 1 f fd ["_law_found", "_law_due"] (spSame K) ∧ Df K mg "_law_same" st_same ["_law_found", "_law_due"] f fd
  piled : ∃ f fd, FnG P w K mg base CX0 6 f fd ["table"] (spPiled K C) ∧ Df K mg "piled" st_piled ["table"] f fd
  crossing : ∃ f fd, FnG P w K mg base CX0 6 f fd ["table"] (spCross K C) ∧ Df K mg "crossing" st_crossing ["table"] f fd
  of_pile : ∃ f fd BP, FnG P w K mg base (L2N.CX P w) 15 f fd ["layers"] (spOfPile K BP C) ∧ Df K mg "of_pile" st_of_pile ["layers"] f fd
  tinit : ∃ f fd, FnOk P w K mg base CX0 3 f fd ["self", "cells", "ways", "squares"] (spTInit K C) ∧ DmT K C f fd ∧ Mk K C f
  teq : ∃ f fd, FnOk P w K mg base CX0 2 f fd ["self", "other"] (spTEq C) ∧ Dm K C "__eq__" "Table.__eq__" st_Table_eq ["self", "other"] f fd
def spLawK (K : PySem.W.Frag) : Sp := fun vs H Q _ => ∃ (x : Addr) (ns : List Int), vs = [.ref x] ∧ SqL K H x (ns.map V.int) ∧ ns.length ≤ 63 ∧ ∀ H', Q (.bl true) H'
/-- what a pile or None is -/
def dueAt (K : PySem.W.Frag) (H : Hp) (o : Option (List (Str × Str))) (v : V) : Prop := match o with
  | none => v = .non
  | some L => ∃ (x : Addr) (us : List V), v = .ref x ∧ H x = some (.lst us) ∧ PrsA K H us L
def overAt (H : Hp) (o : Option (Str × Str × Str × Str)) (v : V) : Prop := match o with
  | none => v = .non
  | some x => ∃ t : Addr, v = .ref t ∧ H t = some (.tup [.str x.1, .str x.2.1, .str x.2.2.1, .str x.2.2.2])
theorem dueAt.keep {K : PySem.W.Frag} {H H' : Hp} {o : Option (List (Str × Str))} {v : V} (k : Kp [] H H') (h : dueAt K H o v) : dueAt K H' o v := by
  cases o with
  | none => exact h
  | some L =>
    obtain ⟨x, us, e, hx, pu⟩ := h
    exact ⟨x, us, e, k.keep _ _ hx List.not_mem_nil, pu.keep k⟩
theorem overAt.keep {H H' : Hp} {o : Option (Str × Str × Str × Str)} {v : V} (k : Kp [] H H') (h : overAt H o v) : overAt H' o v := by
  cases o with
  | none => exact h
  | some x =>
    obtain ⟨t, e, ht⟩ := h
    exact ⟨t, e, k.keep _ _ ht List.not_mem_nil⟩
theorem dueAt.dp {K : PySem.W.Frag} {H : Hp} {o : Option (List (Str × Str))} {v : V} (h : dueAt K H o v) : Dp K H v (pileD o) := by
  cases o with
  | none => cases h; exact .non
  | some L =>
    obtain ⟨x, us, rfl, hx, pu⟩ := h
    exact .lst (SqL.of hx) (prsA_dp pu)
theorem overAt.dp {K : PySem.W.Frag} {H : Hp} {o : Option (Str × Str × Str × Str)} {v : V} (h : overAt H o v) : Dp K H v (quadD o) := by
  cases o with
  | none => cases h; exact .non
  | some x =>
    obtain ⟨t, rfl, ht⟩ := h
    exact .tup (SqT.of ht) (.cons (.str _) (.cons (.str _) (.cons (.str _) (.cons (.str _) .nil))))
theorem dueAt.non {K : PySem.W.Frag} {H : Hp} {o : Option (List (Str × Str))} {v : V} (h : dueAt K H o v) : decide (v = .non) = o.isNone := by
  cases o with
  | none => cases h; rfl
  | some L =>
    obtain ⟨x, us, rfl, _⟩ := h
    rfl
theorem overAt.non {H : Hp} {o : Option (Str × Str × Str × Str)} {v : V} (h : overAt H o v) : decide (v = .non) = o.isNone := by
  cases o with
  | none => cases h; rfl
  | some L =>
    obtain ⟨x, rfl, _⟩ := h
    rfl
abbrev pileT (cs ws : List Str) (sq : List (Str × Str)) := pileG (fS sq) (layL cs ws).length (layL cs ws) []
theorem piled_of {K : PySem.W.Frag} {C a : Addr} {H : Hp} {Q : VK} {E : XK} {cs ws : List Str} {sq : List (Str × Str)} (t : TabAt C H a cs ws (fS sq)) (oc : ∀ c ∈ cs, okName c) (ow : ∀ c ∈ ws, okName c) (lc : cs.length ≤ 6) (lw : ws.length ≤ 6)
    (k : ∀ v H', dueAt K H' (pileT cs ws sq) v → Kp [] H H' → Q v H') : spPiled K C [.ref a] H Q E := by
  refine ⟨a, cs, ws, _, rfl, t, oc, ow, by omega, by omega, fun e H' k1 => k _ H' ?_ k1, fun L e r us H' _ er pu k1 => k _ H' ?_ k1⟩
  · show dueAt K H' (pileG (fS sq) (layL cs ws).length (layL cs ws) []) _
    rw [e]
    rfl
  · show dueAt K H' (pileG (fS sq) (layL cs ws).length (layL cs ws) []) _
    rw [e]
    exact ⟨r, us, rfl, er, pu⟩
theorem cross_of {K : PySem.W.Frag} {C a : Addr} {H : Hp} {Q : VK} {E : XK} {cs ws : List Str} {sq : List (Str × Str)} (t : TabAt C H a cs ws (fS sq)) (oc : ∀ c ∈ cs, okName c) (ow : ∀ c ∈ ws, okName c) (lw : ws.length ≤ 6)
    (k : ∀ v H', overAt H' (crossT (fS sq) cs ws) v → Kp [] H H' → Q v H') : spCross K C [.ref a] H Q E := by
  refine ⟨a, cs, ws, _, rfl, t, oc, ow, by omega, fun e H' k1 => k _ H' (by rw [e]; rfl) k1, fun x e t H' et k1 => k _ H' (by rw [e]; exact ⟨t, rfl, et⟩) k1⟩
theorem stacked_of {K : PySem.W.Frag} {p q sa : Addr} {H : Hp} {Q : VK} {E : XK} {cs ws : List Str} {us : List V} {sq : List (Str × Str)} (hp : H p = some (.lst (cs.map V.str))) (hq : H q = some (.lst (ws.map V.str))) (hs : SqsA K H sa us sq) (oc : ∀ c ∈ cs, okName c) (ow : ∀ c ∈ ws, okName c) (lc : cs.length ≤ 6) (lw : ws.length ≤ 6)
    (k : ∀ v H', dueAt K H' (pileT cs ws sq) v → Kp [] H H' → Q v H') : spStacked K [.ref p, .ref q, .ref sa] H Q E := by
  refine ⟨p, q, sa, cs, ws, us, sq, rfl, hp, hq, hs, oc, ow, by omega, by omega, fun e H' k1 => k _ H' ?_ k1, fun L e r us H' _ er pu k1 => k _ H' ?_ k1⟩
  · show dueAt K H' (pileG (fS sq) (layL cs ws).length (layL cs ws) []) _
    rw [e]
    rfl
  · show dueAt K H' (pileG (fS sq) (layL cs ws).length (layL cs ws) []) _
    rw [e]
    exact ⟨r, us, rfl, er, pu⟩
theorem least_of {K : PySem.W.Frag} {p q sa : Addr} {H : Hp} {Q : VK} {E : XK} {cs ws : List Str} {us : List V} {sq : List (Str × Str)} (hp : H p = some (.lst (cs.map V.str))) (hq : H q = some (.lst (ws.map V.str))) (hs : SqsA K H sa us sq) (oc : ∀ c ∈ cs, okName c) (ow : ∀ c ∈ ws, okName c)
    (k : ∀ v H', overAt H' (crossT (fS sq) cs ws) v → Kp [] H H' → Q v H') : spLeast K [.ref p, .ref q, .ref sa] H Q E := by
  refine ⟨p, q, sa, cs, ws, us, sq, rfl, hp, hq, hs, oc, ow, fun e H' k1 => k _ H' (by rw [e]; rfl) k1, fun x e t H' et k1 => k _ H' (by rw [e]; exact ⟨t, rfl, et⟩) k1⟩
/-- the squares of a turn -/
structure SqOk (K : PySem.W.Frag) (H : Hp) (cs ws : List Str) (sa : Addr) (us : List V) (sq : List (Str × Str)) (pl : Bool) (n : Nat) : Prop where
  at_ : SqsA K H sa us sq
  g : ∀ z ∈ sq, z ∈ gridP cs ws
  l : sq.length ≤ n
  pl : pl = true → pileT cs ws sq ≠ none
/-- how it stands within a turn -/
structure InT (K : PySem.W.Frag) (H : Hp) (a b p q : Addr) (cs ws : List Str) (m : Nat) : Prop where
  s : Spr a b m H
  p : H p = some (.lst (cs.map V.str))
  q : H q = some (.lst (ws.map V.str))
theorem InT.on {K : PySem.W.Frag} {H H' : Hp} {a b p q : Addr} {cs ws : List Str} {m n : Nat} (h : InT K H a b p q cs ws m) (hp : p ∉ [a, b]) (hq : q ∉ [a, b]) (s : Spr a b n H') (k : Kp [a, b] H H') : InT K H' a b p q cs ws n := ⟨s, k.keep _ _ h.p hp, k.keep _ _ h.q hq⟩
theorem InT.keep {K : PySem.W.Frag} {H H' : Hp} {a b p q : Addr} {cs ws : List Str} {m : Nat} (h : InT K H a b p q cs ws m) (k : Kp [] H H') : InT K H' a b p q cs ws m := ⟨h.s.keep k List.not_mem_nil List.not_mem_nil, k.keep _ _ h.p List.not_mem_nil, k.keep _ _ h.q List.not_mem_nil⟩
theorem grid_len (cs ws : List Str) : (gridP cs ws).length = cs.length * ws.length := by
  unfold gridP
  induction cs with
  | nil => simp
  | cons c cs ih =>
    rw [List.flatMap_cons, List.length_append, ih, List.length_map, List.length_cons, Nat.succ_mul]
    omega
theorem or_and_no {pl d : Bool} {R B : Prop} (hB : (if d = true then False else R) → B) (hd : pl = true → d = false) (h : R) : if pl = true then B else (if false = true then False else R) := by
  cases pl with
  | true =>
    rw [if_pos rfl]
    refine hB ?_
    rw [hd rfl]
    exact h
  | false => exact h
section
variable {P : Program} {w : World} {K : PySem.W.Frag} {mg : Str → Option Value} {base : Heap} {f C : Addr} {fd : FuncData}
theorem ok_lawK (D : Df K mg "law" st_lawK ["_law_script"] f fd) (W : LwK P w K mg base C) : FnG P w K mg base CX0 17 f fd ["_law_script"] (spLawK K) := by
  obtain ⟨a1, b1, G_start, D_start⟩ := W.start
  obtain ⟨a2, b2, G_draw, D_draw⟩ := W.draw
  obtain ⟨a3, b3, G_names, D_names⟩ := W.names
  obtain ⟨a4, b4, G_mixed, D_mixed⟩ := W.mixed
  obtain ⟨a5, b5, G_behind, D_behind⟩ := W.behind
  obtain ⟨a6, b6, G_layers, D_layers⟩ := W.layers
  obtain ⟨a7, b7, G_squares, D_squares⟩ := W.squares
  obtain ⟨a8, b8, G_some, D_some⟩ := W.some
  obtain ⟨a9, b9, G_stacked, D_stacked⟩ := W.stacked
  obtain ⟨aA, bA, G_least, D_least⟩ := W.least
  obtain ⟨aB, bB, G_same, D_same⟩ := W.same
  obtain ⟨aC, bC, G_piled, D_piled⟩ := W.piled
  obtain ⟨aD, bD, G_crossing, D_crossing⟩ := W.crossing
  obtain ⟨aE, bE, BP, G_of_pile, D_of_pile⟩ := W.of_pile
  obtain ⟨aF, bF, G_tinit, D_tinit, mk⟩ := W.tinit
  obtain ⟨aG, bG, G_teq, D_teq⟩ := W.teq
  have B := W.B
  have c := W.c
  refine okG D.fn sc_lawK (fun vs H Q E h => ?_) (fun cdv A0 outer sh0 H vs Q E hg hr h => ?_)
  · obtain ⟨x, ns, rfl, _⟩ := h
    rfl
  obtain ⟨x, ns, rfl, hx, hn, q⟩ := h
  have nd := sc_lawK.nd
  have hu := hu_of hr
  have hrN : Room (2 + 1) (A0.deeper (envOfC (Str.ofString "law") (defScope st_lawK) sh0.heap.objs.size f cdv)) := hr.mono (by decide)
  refine ⟨_, PSs.nox (pss_cons (ps_set (i := 1) nd rfl (.inl rfl) (pe_call G_start (hr.mono (by decide)) (by rfl) D_start.gl D_start.fn.kp D_start.bd .nil pass0 (pa_cons (pv 0) pa_nil)))
    (pss_cons (ps_for PassesOwn.never rfl (pi_range1 rfl B.range (pa_cons pe_int pa_nil)) (pg_name (i := 2) nd rfl (.inl rfl))
      (pss_cons (ps_par (i := 3) (j := 4) (by rfl) nd rfl rfl (by decide) rfl rfl (pa_cons (pe_call G_names (hr.mono (by decide)) (by rfl) D_names.gl D_names.fn.kp D_names.bd .nil pass0 (pa_cons (pv 1) (pa_cons pe_int pa_nil))) (pa_cons (pe_call G_draw (hr.mono (by decide)) (by rfl) D_draw.gl D_draw.fn.kp D_draw.bd .nil pass0 (pa_cons (pv 1) (pa_cons pe_int pa_nil))) pa_nil)) (by rfl))
      (pss_cons (ps_par (i := 5) (j := 6) (by rfl) nd rfl rfl (by decide) rfl rfl (pa_cons (pe_callB cr_sortedS (by rfl) B.sorted (by decide +kernel) (pa_cons (pe_slice sl_list (pv 3) po_none (po_some (pv 4))) pa_nil)) (pa_cons (pe_callB cr_sortedS (by rfl) B.sorted (by decide +kernel) (pa_cons (pe_slice sl_list (pv 3) po_none (po_some (pe_call G_draw (hr.mono (by decide)) (by rfl) D_draw.gl D_draw.fn.kp D_draw.bd .nil pass0 (pa_cons (pv 1) (pa_cons pe_int pa_nil))))) pa_nil)) pa_nil)) (by rfl))
      (pss_cons (ps_set (i := 7) nd rfl (.inl rfl) (pe_call G_behind (hr.mono (by decide)) (by rfl) D_behind.gl D_behind.fn.kp D_behind.bd .nil pass0 (pa_cons (pe_call G_mixed (hr.mono (by decide)) (by rfl) D_mixed.gl D_mixed.fn.kp D_mixed.bd .nil pass0 (pa_cons (pv 1) (pa_cons (pe_call G_layers (hr.mono (by decide)) (by rfl) D_layers.gl D_layers.fn.kp D_layers.bd .nil pass0 (pa_cons (pv 5) (pa_cons (pv 6) pa_nil))) pa_nil))) pa_nil)))
      (pss_cons (ps_par (i := 8) (j := 9) (by rfl) nd rfl rfl (by decide) rfl rfl (pa_cons (pe_call G_draw (hr.mono (by decide)) (by rfl) D_draw.gl D_draw.fn.kp D_draw.bd .nil pass0 (pa_cons (pv 1) (pa_cons pe_int pa_nil))) (pa_cons pe_bl pa_nil)) (by rfl))
      (pss_via (ps_if (pt_cmpR op_eq (pv 8) pe_int (nomark _)) (pss_one (ps_par (i := 7) (j := 9) (by rfl) nd rfl rfl (by decide) rfl rfl (pa_cons (pe_call G_some (hr.mono (by decide)) (by rfl) D_some.gl D_some.fn.kp D_some.bd .nil pass0 (pa_cons (pv 1) (pa_cons (pe_call G_squares (hr.mono (by decide)) (by rfl) D_squares.gl D_squares.fn.kp D_squares.bd .nil pass0 (pa_cons (pv 5) (pa_cons (pv 6) pa_nil))) pa_nil))) (pa_cons pe_bl pa_nil)) (by rfl))) pss_nil)
      (pss_cons (ps_set (i := 10) nd rfl (.inl rfl) (pe_call G_mixed (hr.mono (by decide)) (by rfl) D_mixed.gl D_mixed.fn.kp D_mixed.bd .nil pass0 (pa_cons (pv 1) (pa_cons (pe_call G_squares (hr.mono (by decide)) (by rfl) D_squares.gl D_squares.fn.kp D_squares.bd .nil pass0 (pa_cons (pv 5) (pa_cons (pv 6) pa_nil))) pa_nil))))
      (pss_cons (ps_for PassesOwn.never rfl (pi_list (pe_slice sl_list (pv 10) po_none (po_some (pe_ix ix_list (pe_lst (pa_cons pe_int (pa_cons pe_int (pa_cons pe_int (pa_cons pe_int pa_nil))))) (pv 8) (fun _ _ => rfl))))) (pg_name (i := 11) nd rfl (.inr rfl))
        (pss_cons (ps_par (i := 12) (j := 9) (by rfl) nd rfl rfl (by decide) rfl rfl (pa_cons (pe_lc (own := [("_law_one", 16)]) (g := gName 16) rfl nd (pi_list (pv 7)) (blkOk_by (own := [("_law_one", 16)]) (N := ["_law_script", "_law_stream", "_law_turn", "_law_names_here", "_law_many", "_law_cells", "_law_ways", "_law_squares_here", "_law_turned", "_law_is_piled", "_law_some_here", "_law_square", "_law_kept", "_law_table", "_law_due", "_law_over", "_law_one"]) (sc := defScope st_lawK) (by decide +kernel)) (fun _ _ _ _ _ => pg_name (i := 16) nd rfl (Or.inl rfl))
          (fun _ _ _ _ _ => by (apply PTs.to); (focus (exact pts_one (pt_cmpR (op_neD hr.units) (pv 16) (pv 11) (nomark _)))); (focus ((try dsimp only [Cx.blk, Cx.nox, cxOf]); (try exact rfl)))) (fun _ _ _ _ _ => pv 16)) (pa_cons pe_bl pa_nil)) (by rfl))
        (pss_one (ps_set (i := 7) nd rfl (.inl rfl) (pe_ifExp (pt_cmpR (op_inD (u65 hr)) (pv 11) (pv 7) (by rfl)) (pv 12) (pe_callB cr_sortPr (by rfl) B.sorted (by decide +kernel) (pa_cons (pe_op op_cat (pv 7) (pe_lst (pa_cons (pv 11) pa_nil))) pa_nil)))))))
      (pss_cons (ps_par (i := 13) (j := 14) (by rfl) nd rfl rfl (by decide) rfl rfl (pa_cons (pe_make mk G_tinit (hr.mono (by decide)) (by rfl) c.gl D_tinit.bd .nil pass0 (pa_cons (pv 5) (pa_cons (pv 6) (pa_cons (pv 7) pa_nil)))) (pa_cons (pe_call G_stacked (hr.mono (by decide)) (by rfl) D_stacked.gl D_stacked.fn.kp D_stacked.bd .nil pass0 (pa_cons (pv 5) (pa_cons (pv 6) (pa_cons (pv 7) pa_nil)))) pa_nil)) (by rfl))
      (pss_cons (ps_set (i := 15) nd rfl (.inl rfl) (pe_call G_least (hr.mono (by decide)) (by rfl) D_least.gl D_least.fn.kp D_least.bd .nil pass0 (pa_cons (pv 5) (pa_cons (pv 6) (pa_cons (pv 7) pa_nil)))))
      (pss_cons (ps_if (PW.pt (pw_or (pt_cmpR op_eq (pe_cmpR op_isN (pv 14) pe_non (by rfl)) (pe_cmpR op_isN (pv 15) pe_non (by rfl)) (nomark _)) (pw_or1 (PW.pt (pw_and (pt_val (pv 9)) (pw_and1 (pt_cmpR op_isN (pv 14) pe_non (by rfl)))))))) pss_never pss_nil)
      (pss_cons (ps_if (pt_not (pt_val (pe_callG G_same hg (hr.mono (by decide)) (by rfl) D_same.gl D_same.fn.kp D_same.bd .nil pass0 (pa_cons (pe_lst (pa_cons (pe_callG G_piled hg (hr.mono (by decide)) (by rfl) D_piled.gl D_piled.fn.kp D_piled.bd .nil pass0 (pa_cons (pv 13) pa_nil)) (pa_cons (pe_callG G_crossing hg (hr.mono (by decide)) (by rfl) D_crossing.gl D_crossing.fn.kp D_crossing.bd .nil pass0 (pa_cons (pv 13) pa_nil)) pa_nil))) (pa_cons (pe_lst (pa_cons (pv 14) (pa_cons (pv 15) pa_nil))) pa_nil))))) pss_never pss_nil)
      (pss_one (ps_if (PW.pt (pw_and (pt_cmpR op_notN (pv 14) pe_non (by rfl)) (pw_and1 (pt_cmpR (op_ownN c.hm c.ne D_teq.me.at_ D_teq.me.fn (G_teq.raw D_teq.bd .nil) hrN pass0) (pe_callG G_of_pile hg (hr.mono (by decide)) (by rfl) D_of_pile.gl D_of_pile.fn.kp D_of_pile.bd .nil (passesTN (E := fun _ _ _ => False) takesN0 fun _ _ _ _ _ h => h) (pa_cons (pe_callG G_piled hg (hr.mono (by decide)) (by rfl) D_piled.gl D_piled.fn.kp D_piled.bd .nil pass0 (pa_cons (pv 13) pa_nil)) pa_nil)) (pv 13) (by rfl))))) pss_never pss_nil))))))))))))))
    (pss_one (ps_ret pe_bl)))), ?_⟩
  refine ⟨_, rfl, x, ns, rfl, hx, hn, fun a b H1 ha hb hS1 k1 => ?_⟩
  refine ⟨5, rfl, by decide, by decide, for_range (n := 5) (fun i σ H' => (∃ v2 v3 v4 v5 v6 v7 v8 v9 v10 v11 v12 v13 v14 v15 : Option V, σ = [some (.ref x), some (.ref a), v2, v3, v4, v5, v6, v7, v8, v9, v10, v11, v12, v13, v14, v15, none]) ∧ Spr a b ((5 - i) * 3000) H') ?_ ?_ ?_⟩
  · exact ⟨⟨_, _, _, _, _, _, _, _, _, _, _, _, _, _, rfl⟩, hS1.less (by decide)⟩
  rotate_left
  · rintro σ H2 ⟨_, _⟩
    exact q H2
  rintro i σ H2 hi ⟨⟨v2, v3, v4, v5, v6, v7, v8, v9, v10, v11, v12, v13, v14, v15, rfl⟩, hS2⟩
  have em : (5 - i) * 3000 = (5 - (i + 1)) * 3000 + 3000 := by
    have : 5 - i = (5 - (i + 1)) + 1 := by omega
    rw [this, Nat.succ_mul]
  rw [em] at hS2
  generalize (5 - (i + 1)) * 3000 = m at hS2 ⊢
  -- names
  refine ⟨_, rfl, a, b, m + 2900, 6, rfl, by decide, hS2.less (by omega), fun nm xs H3 lx ndx ox hnm enm s3 k3 => ?_⟩
  have nnm := hS2.sep.free hnm
  refine ⟨_, rfl, a, b, m + 2890, 7, rfl, s3.less (by omega), by decide, by decide, fun r1 H4 r10 r11 s4 k4 => ?_⟩
  obtain ⟨r1, rfl⟩ := Int.eq_ofNat_of_zero_le r10
  refine ⟨_, _, rfl, ?_⟩
  have enm4 := k4.keep _ _ enm nnm
  -- cells
  refine ⟨_, rfl, _, rfl, _, rfl, nm, _, rfl, SqL.of enm4, fun p0 hp0 => ?_⟩
  rw [cut_take, ← List.map_take]
  have k5 : Kp [] H4 (upd H4 p0 (.lst ((xs.take r1).map V.str))) := (Kp.refl _ _).new hp0 _
  refine ⟨p0, _, rfl, SqL.of upd_same, by rw [List.length_take]; omega, fun cs p pm1 so1 hp => ?_⟩
  have k6 := k5.new hp (.lst (cs.map V.str))
  have pab := (s4.upd hp0 (.lst ((xs.take r1).map V.str))).sep.free hp
  have s6 := (s4.upd hp0 (.lst ((xs.take r1).map V.str))).upd hp (.lst (cs.map V.str))
  have ep6 : upd (upd H4 p0 (.lst ((xs.take r1).map V.str))) p (.lst (cs.map V.str)) p = some (.lst (cs.map V.str)) := upd_same
  have enm6 := k6.keep _ _ enm4 List.not_mem_nil
  generalize upd (upd H4 p0 (.lst ((xs.take r1).map V.str))) p (.lst (cs.map V.str)) = H6 at k6 s6 ep6 enm6
  -- ways
  refine ⟨_, rfl, _, rfl, a, b, m + 2880, 7, rfl, s6.less (by omega), by decide, by decide, fun r2 H7 r20 r21 s7 k7 => ?_⟩
  obtain ⟨r2, rfl⟩ := Int.eq_ofNat_of_zero_le r20
  have enm7 := k7.keep _ _ enm6 nnm
  have ep7 := k7.keep _ _ ep6 pab
  refine ⟨_, rfl, nm, _, rfl, SqL.of enm7, fun q0 hq0 => ?_⟩
  rw [cut_take, ← List.map_take]
  have k8 : Kp [] H7 (upd H7 q0 (.lst ((xs.take r2).map V.str))) := (Kp.refl _ _).new hq0 _
  refine ⟨q0, _, rfl, SqL.of upd_same, by rw [List.length_take]; omega, fun ws qq pm2 so2 hqq => ?_⟩
  have k9 := k8.new hqq (.lst (ws.map V.str))
  have qab := (s7.upd hq0 (.lst ((xs.take r2).map V.str))).sep.free hqq
  have s9 := (s7.upd hq0 (.lst ((xs.take r2).map V.str))).upd hqq (.lst (ws.map V.str))
  have eq9 : upd (upd H7 q0 (.lst ((xs.take r2).map V.str))) qq (.lst (ws.map V.str)) qq = some (.lst (ws.map V.str)) := upd_same
  have ep9 := k9.keep _ _ ep7 List.not_mem_nil
  generalize upd (upd H7 q0 (.lst ((xs.take r2).map V.str))) qq (.lst (ws.map V.str)) = H9 at k9 s9 ep9 eq9
  refine ⟨_, _, rfl, ?_⟩
  have nc : cs.Nodup := pm1.nodup_iff.mpr (List.Nodup.sublist (List.take_sublist _ _) ndx)
  have nw : ws.Nodup := pm2.nodup_iff.mpr (List.Nodup.sublist (List.take_sublist _ _) ndx)
  have oc : ∀ c ∈ cs, okName c := fun c m => (ox c ((List.take_sublist _ _).subset (pm1.mem_iff.mp m))).1
  have ow : ∀ c ∈ ws, okName c := fun c m => (ox c ((List.take_sublist _ _).subset (pm2.mem_iff.mp m))).1
  have lc : cs.length ≤ 6 := by rw [pm1.length_eq, List.length_take]; omega
  have lw : ws.length ≤ 6 := by rw [pm2.length_eq, List.length_take]; omega
  have lg : (gridP cs ws).length ≤ 36 := by
    rw [grid_len]
    exact Nat.mul_le_mul lc lw
  have og : ∀ z ∈ gridP cs ws, okSq z := fun z mz => by
    obtain ⟨h1, h2⟩ := mem_gridP.mp mz
    exact ⟨oc _ h1, ow _ h2⟩
  have okL0 : ∀ l ∈ layL cs ws, okLay l := fun l hl => by
    unfold layL at hl
    rcases List.mem_append.mp hl with m | m
    · obtain ⟨c, hc, rfl⟩ := List.mem_map.mp m
      exact ⟨.inl rfl, oc c hc⟩
    · obtain ⟨c, hc, rfl⟩ := List.mem_map.mp m
      exact ⟨.inr rfl, ow c hc⟩
  have ll0 : (layL cs ws).length = cs.length + ws.length := by simp [layL]
  clear k3 k4 k5 k6 k7 k8 k9 s3 s4 s6 s7 enm4 enm6 enm7 hp0 hp hq0 hqq pm1 pm2 ndx ox enm hnm ep6 ep7
  -- the squares of a pile
  refine ⟨_, rfl, _, rfl, _, rfl, p, qq, cs, ws, rfl, ep9, eq9, by omega, by omega, fun r0 us H10 hr0 er0 pu k10 => ?_⟩
  have s10 : Spr a b (m + 2880) H10 := s9.keep k10 List.not_mem_nil List.not_mem_nil
  have lus := pu.length
  refine ⟨a, b, r0, m + 2850, us, rfl, s10.less (by omega), SqL.of er0, by omega, fun lh ys H11 pm hlh elh s11 k11 => ?_⟩
  obtain ⟨L, pL, pmL⟩ := prsA_perm pm (pu.keep k11)
  have ep11 := k11.keep _ _ (k10.keep _ _ ep9 List.not_mem_nil) pab
  have eq11 := k11.keep _ _ (k10.keep _ _ eq9 List.not_mem_nil) qab
  have lL : L.length ≤ 12 := by rw [pmL.length_eq]; omega
  have okL : ∀ l ∈ L, okLay l := fun l hl => okL0 l (pmL.mem_iff.mp hl)
  refine ⟨lh, ys, L, rfl, elh, pL, by omega, fun sa us0 sq0 H12 hsa esa pz pmq _ k12 => ?_⟩
  have sab := s11.sep.free hsa
  have g0 := beh_in nc nw okL pmL pmq
  have l0 : sq0.length ≤ 144 := by
    rw [pmq.length_eq]
    exact Nat.le_trans (behS_len L).2 (Nat.mul_le_mul lL lL)
  have S0 : SqOk K H12 cs ws sa us0 sq0 true 144 := ⟨⟨esa, pz, fun z mz => og z (g0 z mz)⟩, g0, l0, fun _ => pile_there nc nw okL pmL pmq⟩
  have T0 : InT K H12 a b p qq cs ws (m + 2850) := (⟨s11, ep11, eq11⟩ : InT K H11 a b p qq cs ws (m + 2850)).keep k12
  clear k10 k11 k12 s9 s10 s11 ep9 eq9 ep11 eq11 pz pmq pL pmL pm elh hlh esa hsa er0 hr0 pu g0 l0 okL lL lus
  -- how many are turned
  refine ⟨_, rfl, a, b, m + 2840, 4, rfl, T0.s.less (by omega), by decide, by decide, fun r3 H13 r30 r31 s13 k13 => ?_⟩
  refine ⟨_, _, rfl, ?_⟩
  have S13 : SqOk K H13 cs ws sa us0 sq0 true 144 := ⟨⟨k13.keep _ _ S0.at_.1 sab, S0.at_.2.1.keep k13, S0.at_.2.2⟩, S0.g, S0.l, S0.pl⟩
  have T13 : InT K H13 a b p qq cs ws (m + 2840) := T0.on pab qab s13 k13
  clear S0 T0 k13 s13
  refine ⟨fun σ H' => ∃ (sa : Addr) (us : List V) (sq : List (Str × Str)) (pl : Bool), σ = [some (.ref x), some (.ref a), some (.int (0 + (i : Nat))), some (.ref nm), some (.int (r1 : Nat)), some (.ref p), some (.ref qq), some (.ref sa), some (.int r3), some (.bl pl), v10, v11, v12, v13, v14, v15, none] ∧ InT K H' a b p qq cs ws (m + 2700) ∧ sa ∉ [a, b] ∧ SqOk K H' cs ws sa us sq pl 144, ?_, ?_⟩
  · refine ⟨_, rfl, rfl, _, rfl, ?_⟩
    refine ite2 (fun _ => ?_) (fun _ => ?_)
    · refine ⟨_, rfl, _, rfl, _, rfl, p, qq, cs, ws, rfl, T13.p, T13.q, by omega, by omega, fun r0 us H14 hr0 er0 pu k14 => ?_⟩
      have lus := pu.length
      have s14 := T13.s.keep k14 List.not_mem_nil List.not_mem_nil
      have n0 := T13.s.sep.free hr0
      refine ⟨a, b, r0, m + 2800, us, rfl, s14.less (by omega), fun H' k => SqL.of (k.keep _ _ er0 n0), by omega, fun sb ys H15 sub hsb esb s15 k15 => ?_⟩
      refine ⟨_, _, rfl, ?_⟩
      obtain ⟨qs, sg, pqs⟩ := PrsA.sub sub (pu.keep k15)
      have sbab := s14.sep.free hsb
      refine ⟨sb, ys, qs, false, rfl, (T13.keep k14).on pab qab (s15.less (by omega)) k15, sbab, ⟨⟨esb, pqs, fun z mz => og z (sg.subset mz)⟩, fun z mz => sg.subset mz, ?_, fun z => by cases z⟩⟩
      exact Nat.le_trans sg.length_le (by omega)
    · exact ⟨sa, us0, sq0, true, rfl, ⟨T13.s.less (by omega), T13.p, T13.q⟩, sab, S13⟩
  rintro σ H14 ⟨sa1, us1, sq1, pl1, rfl, T14, sab1, S14⟩
  -- the squares in a drawn order
  refine ⟨_, rfl, _, rfl, _, rfl, p, qq, cs, ws, rfl, T14.p, T14.q, by omega, by omega, fun r0 us2 H15 hr0 er0 pu2 k15 => ?_⟩
  have T15 := T14.keep k15
  have l2 := pu2.length
  refine ⟨a, b, r0, m + 2600, us2, rfl, T15.s.less (by omega), SqL.of er0, by omega, fun so xs2 H16 pm hso eso s16 k16 => ?_⟩
  obtain ⟨G, pG, pmG⟩ := prsA_perm pm (pu2.keep k16)
  have T16 : InT K H16 a b p qq cs ws (m + 2600) := T15.on pab qab s16 k16
  have k146 : Kp [a, b] H14 H16 := (k15.mono (by simp)).trans k16
  have S16 : SqOk K H16 cs ws sa1 us1 sq1 pl1 144 := ⟨⟨k146.keep _ _ S14.at_.1 sab1, S14.at_.2.1.keep k146, S14.at_.2.2⟩, S14.g, S14.l, S14.pl⟩
  have inG : ∀ z ∈ G, z ∈ gridP cs ws := fun z mz => pmG.mem_iff.mp mz
  clear S14 T14 T15 k146 k15 k16 pm pmG s16 S13 T13 pu2 er0 hr0 hso
  -- some of them are turned
  refine ⟨_, rfl, by show 4 ≤ sizeLine; decide, fun l hl => ?_⟩
  have kl : Kp [] H16 (upd H16 l (.lst [.int 0, .int 1, .int 2, .int 0])) := (Kp.refl _ _).new hl _
  obtain ⟨v, hv, e⟩ := atI_mem (xs := [V.int 0, .int 1, .int 2, .int 0]) r30 r31
  refine ⟨_, rfl, l, _, r3, v, rfl, rfl, SqL.of upd_same, e, ?_⟩
  obtain ⟨n, rfl⟩ : ∃ n : Nat, v = .int (n : Nat) := by
    simp only [List.mem_cons, List.not_mem_nil, or_false] at hv
    rcases hv with rfl | rfl | rfl | rfl
    · exact ⟨0, rfl⟩
    · exact ⟨1, rfl⟩
    · exact ⟨2, rfl⟩
    · exact ⟨0, rfl⟩
  have n2 : n ≤ 2 := by
    simp only [List.mem_cons, List.not_mem_nil, or_false, V.int.injEq] at hv
    omega
  have eso2 := kl.keep _ _ eso List.not_mem_nil
  refine ⟨_, rfl, so, _, rfl, SqL.of eso2, fun lt hlt => ?_⟩
  rw [cut_take]
  have k17 := kl.new hlt (.lst (xs2.take n))
  have elt : upd (upd H16 l (.lst [.int 0, .int 1, .int 2, .int 0])) lt (.lst (xs2.take n)) lt = some (.lst (xs2.take n)) := upd_same
  have T17 := T16.keep k17
  have S17 : SqOk K _ cs ws sa1 us1 sq1 pl1 144 := ⟨S16.at_.keep k17, S16.g, S16.l, S16.pl⟩
  obtain ⟨G2, sG, pG2⟩ := PrsA.sub (List.take_sublist n xs2) (pG.keep k17)
  generalize upd (upd H16 l (.lst [.int 0, .int 1, .int 2, .int 0])) lt (.lst (xs2.take n)) = H17 at k17 elt T17 S17 pG2
  clear kl eso eso2 hl hlt e hv T16 S16 pG k17
  refine ⟨lt, rfl, ⟨_, SqL.of elt⟩, for_list (K := K) (a := lt) (xs := xs2.take n) (fun k σ H' => ∃ (sa : Addr) (us : List V) (sq : List (Str × Str)) (pl : Bool) (v11 v12 : Option V), σ = [some (.ref x), some (.ref a), some (.int (0 + (i : Nat))), some (.ref nm), some (.int (r1 : Nat)), some (.ref p), some (.ref qq), some (.ref sa), some (.int r3), some (.bl pl), some (.ref so), v11, v12, v13, v14, v15, none] ∧ SqOk K H' cs ws sa us sq pl (144 + k) ∧ Kp [] H17 H') ?_ ?_ ?_ ?_⟩
  · exact ⟨sa1, us1, sq1, pl1, v11, v12, rfl, S17, Kp.refl _ _⟩
  · rintro k σ H' hk ⟨sa, us, sq, pl, v11, v12, rfl, S, k1⟩
    exact SqL.of (k1.keep _ _ elt List.not_mem_nil)
  · rintro k y σ H18 hy ⟨sa, us, sq, pl, v11, v12, rfl, S, k1⟩
    have hk : k < n := by
      have := (List.getElem?_eq_some_iff.mp hy).1
      rw [List.length_take] at this
      omega
    obtain ⟨z, hz, tz, rfl, htz0⟩ := pG2.at hy
    have htz := k1.seqT htz0
    have gz : z ∈ gridP cs ws := inG z (sG.subset (List.mem_of_getElem? hz))
    have oz := og z gz
    refine ⟨_, rfl, sa, rfl, ⟨_, SqL.of S.at_.1⟩, fun D1 hD1 => ?_⟩
    refine lc_list (K := K) (a := sa) (xs := us) (fun j H' => ∃ acc, H' D1 = some (.lst acc) ∧ PrsA K H' acc ((sq.take j).filter fun y => !decide (y = z)) ∧ Kp [] H18 H') ?_ ?_ ?_ ?_
    · exact ⟨[], upd_same, .nil, (Kp.refl _ _).new hD1 _⟩
    · rintro j H' hj ⟨acc, e1, pa, k2⟩
      exact SqL.of (k2.keep _ _ S.at_.1 List.not_mem_nil)
    · rintro j u H19 hu1 ⟨acc, e1, pa, k2⟩
      obtain ⟨y, hy2, ty, rfl, hty0⟩ := S.at_.2.1.at hu1
      have hty := k2.seqT hty0
      have oy := og y (S.g y (List.mem_of_getElem? hy2))
      have et : sq.take (j + 1) = sq.take j ++ [y] := by rw [List.take_add_one, hy2]; rfl
      have la : acc.length ≤ 1000 := by
        rw [pa.length]
        exact Nat.le_trans (List.length_filter_le _ _) (Nat.le_trans (List.length_take_le' j sq) (Nat.le_trans S.l (by omega)))
      refine ⟨rfl, ?_⟩
      refine ⟨_, rfl, _, rfl, pairD y, pairD z, .tup hty (.cons (.str _) (.cons (.str _) .nil)), .tup (k2.seqT htz) (.cons (.str _) (.cons (.str _) .nil)), sq_shaped oy, sq_shaped oz, _, rfl, ?_⟩
      by_cases eyz : y = z
      · refine iteF_of (by rw [eqv_pair.mpr (by rw [eyz])]; rfl) ?_
        refine ⟨acc, e1, ?_, k2⟩
        rw [et, List.filter_append, List.filter_cons, decide_eq_true eyz]
        simpa using pa
      · refine iteT_of (by
          cases hq : PyData.eqv (pairD y) (pairD z) with
          | false => rfl
          | true => exact absurd (pairD_inj (eqv_pair.mp hq)) (by first | exact eyz | exact fun e => eyz e.symm)) ?_
        refine ⟨_, rfl, acc, e1, by rw [sizeLine_eq]; omega, acc ++ [.ref ty], upd_same, ?_, k2.own hD1 _⟩
        have kD : Kp [D1] H19 (upd H19 D1 (.lst (acc ++ [.ref ty]))) := (Kp.refl _ _).put (by simp) e1 (o := _)
        rw [et, List.filter_append, List.filter_cons, decide_eq_false eyz]
        exact (pa.keep kD).append (.cons ⟨ty, rfl, kD.seqT hty⟩ .nil)
    rintro H19 ⟨acc, e1, pa, k2⟩
    rw [List.take_of_length_le (by rw [S.at_.2.1.length]; exact Nat.le_refl _)] at pa
    refine ⟨_, _, rfl, ?_⟩
    have at19 := S.at_.keep k2
    refine ⟨_, rfl, _, rfl, at19.inD (k2.seqT htz) oz ⟨_, rfl, ?_⟩⟩
    cases hm : fS sq z with
    | true =>
      refine iteT_of rfl ?_
      refine ⟨_, rfl, ?_⟩
      refine ⟨D1, acc, _, false, _, _, rfl, ⟨⟨e1, pa, fun y my => og y (S.g y (List.mem_filter.mp my).1)⟩, fun y my => S.g y (List.mem_filter.mp my).1, ?_, fun z => by cases z⟩, k1.trans k2⟩
      exact Nat.le_trans (List.length_filter_le _ _) (Nat.le_trans S.l (by omega))
    | false =>
      refine iteF_of rfl ?_
      refine ⟨_, rfl, _, rfl, by show 1 ≤ sizeLine; decide, fun l3 hl3 => ?_⟩
      have k3 : Kp [] H19 (upd H19 l3 (.lst [.ref tz])) := (Kp.refl _ _).new hl3 _
      have ls := at19.2.1.length
      have lS := S.l
      refine ⟨sa, l3, _, _, rfl, rfl, k3.keep _ _ at19.1 List.not_mem_nil, upd_same, by rw [sizeLine_eq]; show _ + 1 ≤ _; omega, fun l4 hl4 => ?_⟩
      have k4 := k3.new hl4 (.lst (us ++ [.ref tz]))
      have p4 : PrsA K (upd (upd H19 l3 (.lst [.ref tz])) l4 (.lst (us ++ [.ref tz]))) (us ++ [.ref tz]) (sq ++ [z]) := (at19.2.1.keep k4).append (.cons ⟨tz, rfl, (k2.trans k4).seqT htz⟩ .nil)
      refine ⟨l4, _, sq ++ [z], rfl, SqL.of upd_same, p4, fun ys qs p5 pys pmq srt hp5 => ?_⟩
      have k5 := k4.new hp5 (.lst ys)
      have k45 : Kp [] (upd (upd H19 l3 (.lst [.ref tz])) l4 (.lst (us ++ [.ref tz]))) (upd (upd (upd H19 l3 (.lst [.ref tz])) l4 (.lst (us ++ [.ref tz]))) p5 (.lst ys)) := (Kp.refl _ _).new hp5 _
      have gq : ∀ y ∈ qs, y ∈ gridP cs ws := fun y my => by
        rcases List.mem_append.mp (pmq.mem_iff.mp my) with h | h
        · exact S.g y h
        · rw [List.mem_singleton.mp h]
          exact gz
      refine ⟨p5, ys, qs, false, _, _, rfl, ⟨⟨upd_same, pys.keep k45, fun y my => og y (gq y my)⟩, gq, ?_, fun z => by cases z⟩, k1.trans (k2.trans k5)⟩
      rw [pmq.length_eq, List.length_append, List.length_singleton]
      omega
  rintro σ H18 ⟨sa, us, sq, pl, v11, v12, rfl, S, k18⟩
  have T18 := T17.keep k18
  have l18 : sq.length ≤ 1000 := Nat.le_trans S.l (by rw [List.length_take]; omega)
  clear S17 T17 k18 elt pG2 sG inG
  -- the table
  refine ⟨_, rfl, _, rfl, _, rfl, fun y dx ny ndx nex => ?_⟩
  have ky : Kp [] H18 (upd (upd H18 dx (.own y)) y (.ins C dx [])) := by
    refine ((Kp.refl _ _).new ndx _).new ?_ _
    rw [upd_ne (Ne.symm nex)]
    exact ny
  have T19 := T18.keep ky
  have at19 := S.at_.keep ky
  refine ⟨y, dx, p, qq, sa, cs, ws, us, sq, rfl, upd_same, T19.p, T19.q, at19.1, at19.2.1, oc, ow, nc, nw, by omega, by omega, fun z mz => mem_gridP.mp (S.g z mz), l18, fun cs' ws' H20 pc sc pw sw tab k20 => ⟨rfl, ?_⟩⟩
  obtain rfl : cs' = cs := sortedS_unique sc so1 pc
  obtain rfl : ws' = ws := sortedS_unique sw so2 pw
  have tab20 : TabAt C H20 y cs' ws' (fS sq) := tab
  have k1820 : Kp [] H18 H20 := ((ky.mono (by simp)).trans k20).off fun z hz => .inr (by
    rw [List.mem_singleton.mp hz]
    exact ny)
  have T20 := T18.keep k1820
  have at20 := S.at_.keep k1820
  clear tab T19 at19 T18 ky k20 k1820
  -- the pile and the crossing of the law
  refine ⟨_, rfl, _, rfl, _, rfl, ?_⟩
  dsimp only [tNil]
  show spStacked K [.ref p, .ref qq, .ref sa] H20 _ _
  refine stacked_of T20.p T20.q at20 oc ow lc lw fun due H21 hdue k21 => ?_
  refine ⟨_, _, rfl, ?_⟩
  have T21 := T20.keep k21
  have at21 := at20.keep k21
  refine ⟨_, rfl, _, rfl, _, rfl, ?_⟩
  dsimp only [tNil]
  show spLeast K [.ref p, .ref qq, .ref sa] H21 _ _
  refine least_of T21.p T21.q at21 oc ow fun over H22 hover k22 => ?_
  have T22 := T21.keep k22
  have due22 := hdue.keep k22
  have tab22 := (tab20.keep k21).keep k22
  have one := pile_or_cross (fS sq) cs' ws'
  clear T20 at20 T21 at21 hdue k21 k22 tab20
  -- just one of them is None
  have e1 := due22.non
  have e2 := hover.non
  have pl2 := S.pl
  have okL2 : ∀ L, pileT cs' ws' sq = some L → (∀ l ∈ L, okLay l) ∧ L.length ≤ 20 ∧ L.Perm (layL cs' ws') := fun L hL => by
    obtain ⟨M, e, pm, _⟩ := pile_some _ _ _ _ rfl hL
    obtain rfl : L = M := e
    exact ⟨fun l m => okL0 l (pm.mem_iff.mp m), by rw [pm.length_eq]; omega, pm⟩
  have sh := found_sh (due := pileT cs' ws' sq) (over := crossT (fS sq) cs' ws') (fun L hL => ⟨(okL2 L hL).1, (okL2 L hL).2.1⟩) (fun x hx => crossT_ok oc ow hx)
  refine ⟨_, rfl, rfl, _, rfl, rfl, rfl, _, rfl, ?_⟩
  have h1 : decide (V.bl (decide (due = .non)) = V.bl (decide (over = .non))) = false := by
    rw [e1, e2]
    show decide (V.bl (pileT cs' ws' sq).isNone = V.bl (crossT (fS sq) cs' ws').isNone) = false
    have one' : pileT cs' ws' sq = none ↔ crossT (fS sq) cs' ws' ≠ none := one
    cases hp : pileT cs' ws' sq with
    | none =>
      have := one'.mp hp
      cases hc : crossT (fS sq) cs' ws' with
      | none => exact absurd hc this
      | some x => rfl
    | some L =>
      cases hc : crossT (fS sq) cs' ws' with
      | none => rfl
      | some x =>
        have := one'.mpr (by rw [hc]; exact fun z => by cases z)
        rw [hp] at this
        cases this
  refine iteF_of h1 ?_
  have h2 : pl = true → due ≠ .non := fun e z => by
    have := pl2 e
    rw [z] at e1
    cases hp : pileT cs' ws' sq with
    | none => exact this hp
    | some L =>
      rw [hp] at e1
      exact Bool.noConfusion (show true = false from e1)
  refine ⟨_, rfl, _, rfl, ?_⟩
  refine or_and_no (d := decide (due = .non)) (fun z => ⟨_, rfl, rfl, _, rfl, z⟩) (fun e => decide_eq_false (h2 e)) ?_
  -- the program tells the same
  refine ⟨_, rfl, ?_⟩
  dsimp only [tNil]
  show spPiled K C [.ref y] H22 _ _
  refine piled_of tab22 oc ow lc lw fun v1 H23 d1 k23 => ?_
  refine ⟨_, rfl, ?_⟩
  dsimp only [tNil]
  show spCross K C [.ref y] H23 _ _
  refine cross_of (tab22.keep k23) oc ow lw fun v2 H24 d2 k24 => ?_
  refine ⟨by show 2 ≤ sizeLine; decide, fun x1 hx1 => ?_⟩
  have k25 : Kp [] H24 (upd H24 x1 (.lst [v1, v2])) := (Kp.refl _ _).new hx1 _
  refine ⟨_, rfl, _, rfl, by show 2 ≤ sizeLine; decide, fun x2 hx2 => ?_⟩
  have k26 : Kp [] (upd H24 x1 (.lst [v1, v2])) (upd (upd H24 x1 (.lst [v1, v2])) x2 (.lst [due, over])) := (Kp.refl _ _).new hx2 _
  have k246 := k25.trans k26
  have kall := (k23.trans k24).trans k246
  refine ⟨x1, x2, .list [pileD (pileT cs' ws' sq), quadD (crossT (fS sq) cs' ws')], rfl, .lst (SqL.of (k26.keep _ _ upd_same List.not_mem_nil)) (.cons ((d1.keep k24).keep k246).dp (.cons (d2.keep k246).dp .nil)), .lst (SqL.of upd_same) (.cons (due22.keep kall).dp (.cons (hover.keep kall).dp .nil)), sh.sh, sh.len, sh.dep, ?_⟩
  refine ⟨_, rfl, ?_⟩
  refine iteF_of rfl ?_
  -- the table of the pile is the table
  have tab26 := tab22.keep kall
  have T26 := T22.keep kall
  generalize upd (upd H24 x1 (.lst [v1, v2])) x2 (.lst [due, over]) = H26 at tab26 T26
  refine ⟨_, rfl, rfl, _, rfl, ?_⟩
  cases hp : pileT cs' ws' sq with
  | none =>
    rw [hp] at e1
    refine iteF_of (by rw [e1]; rfl) ?_
    refine iteF_of rfl ?_
    exact ⟨⟨_, _, _, _, _, _, _, _, _, _, _, _, _, _, rfl⟩, T26.s.less (by omega)⟩
  | some L =>
    rw [hp] at e1
    refine iteT_of (by rw [e1]; rfl) ?_
    obtain ⟨okL, lL, pmL⟩ := okL2 L hp
    have ndL : L.Nodup := pmL.nodup_iff.mpr (lay_nodup nc nw)
    refine ⟨_, rfl, ?_⟩
    dsimp only [tNil]
    show spPiled K C [.ref y] H26 _ _
    refine piled_of tab26 oc ow lc lw fun v3 H27 d3 k27 => ?_
    rw [hp] at d3
    obtain ⟨r, us3, rfl, er, pu3⟩ := d3
    obtain ⟨de, hsq, hz, hw, hl3, hlay⟩ := pile_data er pu3 okL lL
    refine ⟨.ref r, .list (L.map pairD), L.map pairD, rfl, de, hsq, hz, hw, hl3, fun i hb => (pile_good okL ndL i hb).elim, fun ls h3 h4 y2 cs2 ws2 H28 p1 t1 p2 t2 tab2 k28 => ?_⟩
    obtain rfl : ls = L := (List.map_inj_right fun _ _ h => Option.some.inj h).mp (h3.symm.trans hlay)
    obtain ⟨rfl, rfl, pmL2, same⟩ := table_again so1 so2 hp p1 t1 p2 t2
    have tab28 := (tab26.keep k27).keep k28
    have T28 := (T26.keep k27).keep k28
    refine ⟨_, rfl, ?_⟩
    obtain ⟨dx2, fs2, hy2, _⟩ := tab2.ins
    obtain ⟨dx1, fs1, hy1, _⟩ := tab28.ins
    refine ⟨y2, dx2, fs2, .ref C, rfl, hy2, .base (.ins hy1 c.cls c.ha c.hn c.htk c.hm), W.nf, y2, y, _, _, _, _, _, _, rfl, tab2, tab28, oc, ow, oc, ow, fun H29 k29 => ?_⟩
    refine ⟨_, rfl, _, rfl, ?_⟩
    refine iteF_of ?_ ?_
    · have : tabEq cs2 ws2 cs2 ws2 (fS (behP ls)) (fS sq) = true := tabEq_true same
      show (!tabEq cs2 ws2 cs2 ws2 (fun x => decide (x ∈ behP ls)) (fS sq)) = false
      rw [show (fun x => decide (x ∈ behP ls)) = fS (behP ls) from rfl, this]
      rfl
    · exact ⟨⟨_, _, _, _, _, _, _, _, _, _, _, _, _, _, rfl⟩, (T28.keep k29).s.less (by omega)⟩
end
end Hb
set_option maxHeartbeats 4000000
/-! what stands of an own error's class and of its __init__: looked at -/
namespace Hb
open PySem PySem.Spec PyProof.Rows L2
def oexB (K : PySem.W.Frag) (C : Addr) : Bool := (match K.lookup C with
  | some ⟨.type "type", _, .cls cd, sl⟩ => (match cd.mro, sl.toList with
    | .ref C' :: bm, [_, _, _, _, some (.builtin n), _] => C' == C && (n == "ValueError.__new__" && (!cd.hasDel && (cd.hasDict && PySem.HandSPX.refsVE bm)))
    | _, _ => false)
  | _ => false) && (decide (PySem.W.findIn K (.ref C) "__setattr__" = some (some (.builtin "object.__setattr__"))) && (decide (PySem.W.subIn K (.ref C) (.type "BaseException") = some true) && (decide (PySem.W.typeIn K (.ref C) = some (.type "type")) && PySem.W.keepIn K (.ref C))))
theorem oexB_ok {K : PySem.W.Frag} {C : Addr} (h : oexB K C = true) : OexC K C := by
  obtain ⟨h0, h⟩ := He.ba h
  obtain ⟨h1, h⟩ := He.ba h
  obtain ⟨h2, h⟩ := He.ba h
  obtain ⟨h3, h4⟩ := He.ba h
  refine ⟨?_, of_decide_eq_true h1, of_decide_eq_true h2, of_decide_eq_true h3, h4⟩
  split at h0
  · rename_i dd cd sl ho
    split at h0
    · rename_i C' bm k0 k1 k2 k3 n k5 hm hs
      simp only [Bool.and_eq_true, beq_iff_eq, Bool.not_eq_true'] at h0
      obtain ⟨rfl, rfl, hdel, hdi, ht⟩ := h0
      obtain ⟨nm, bs, mro, ns, qn, hd, sn, sub, ab, col, del⟩ := cd
      dsimp only at hm hdel hdi
      subst hm hdel hdi
      obtain ⟨l⟩ := sl
      dsimp only at hs
      subst hs
      exact ⟨nm, qn, ns, bs, bm, sn, sub, ab, col, dd, k0, k1, k2, k3, k5, ho, ht⟩
    · cases h0
  · cases h0
def supB (K : PySem.W.Frag) (C : Addr) : Bool := oexB K C && ((PySem.W.clsIn K C).isSome && (decide (PySem.W.nsIn K PySem.cStatics "thirdparty.any" = some none) &&
  (decide (PySem.W.ks_superIn K C C "__init__" = some (some (.builtin "ValueError.__init__"))) && (decide (PySem.W.subIn K (.ref C) (.type "ValueError") = some true) && decide (PySem.W.mroIn K C (.ref C) = some true)))))
theorem supB_ok {K : PySem.W.Frag} {C : Addr} (h : supB K C = true) : SupC K C := by
  obtain ⟨h0, h⟩ := He.ba h
  obtain ⟨h1, h⟩ := He.ba h
  obtain ⟨h2, h⟩ := He.ba h
  obtain ⟨h3, h⟩ := He.ba h
  obtain ⟨h4, h5⟩ := He.ba h
  exact ⟨oexB_ok h0, Option.isSome_iff_exists.mp h1, of_decide_eq_true h2, of_decide_eq_true h3, of_decide_eq_true h4, of_decide_eq_true h5⟩
/-- a function with cells: all of it but its cells' addresses -/
abbrev FnS : Type := Option (Str × Str × Arguments × FuncBody × Scope × Addr × List Str × Value × Addr)
def fnS (K : PySem.W.Frag) (f : Addr) : FnS := match K.lookup f with
  | some ⟨_, _, .func fd, _⟩ => some (fd.name, fd.qualname, fd.params, fd.body, fd.scope, fd.globals, fd.closure.map (·.1), fd.defaults, fd.builtins)
  | _ => none
def ccS (K : PySem.W.Frag) (f : Addr) : Addr := match K.lookup f with
  | some ⟨_, _, .func fd, _⟩ => (match fd.closure with
    | (_, c) :: _ => c
    | _ => 0)
  | _ => 0
def cdS (K : PySem.W.Frag) (f : Addr) : Addr := match K.lookup f with
  | some ⟨_, _, .func fd, _⟩ => (match fd.code with
    | .ref c => c
    | _ => 0)
  | _ => 0
def funSB (K : PySem.W.Frag) (main : Str) (C f : Addr) (q : Str) : Bool := (match K.lookup f with
  | some ⟨_, _, .func fd, _⟩ => decide (fd.code = .ref (cdS K f))
  | _ => false) && (PySem.W.codeIn K (.ref (cdS K f)) q && ((match K.lookup (cdS K f) with
  | some ⟨_, _, .fields vs, _⟩ => (match vs[2]? with
    | some (Value.str fi _) => main == fi
    | _ => false)
  | _ => false) && (match K.lookup (ccS K f) with
  | some ⟨_, _, .cell (some (.ref D)), _⟩ => D == C
  | _ => false)))
theorem funS_ok {P : Program} {K : PySem.W.Frag} {C f : Addr} {x q : Str} {st : Stmt} (e : fnS K f = some (x, q, defArgs st, FuncBody.stmts (defBody st), defScope st, mainGlobals, [("__class__" : Str)], Value.none, builtinsNs)) (h : funSB K P.main.file C f q = true)
    (top : (P.main.scope.names.lookup ("super" : Str)).isSome = false) : ∃ fd, FunS P K C (ccS K f) (cdS K f) x q st f fd := by
  obtain ⟨h0, h⟩ := He.ba h
  obtain ⟨h1, h⟩ := He.ba h
  obtain ⟨h2, h3⟩ := He.ba h
  have file : ∃ (cl : Value) (cd : Option Addr) (vs : Array Value) (sl : Array (Option Value)) (fi : Str) (tf : Tok), K.lookup (cdS K f) = some ⟨cl, cd, .fields vs, sl⟩ ∧ vs[2]? = some (.str fi tf) ∧ ((P.main.file : Str) == fi) = true := by
    split at h2
    · rename_i cl cd vs sl lk
      split at h2
      · rename_i fi tf hv
        exact ⟨cl, cd, vs, sl, fi, tf, lk, hv, h2⟩
      · cases h2
    · cases h2
  have cell : ∃ (cl : Value) (cd : Option Addr) (sl : Array (Option Value)), K.lookup (ccS K f) = some ⟨cl, cd, .cell (some (.ref C)), sl⟩ := by
    split at h3
    · rename_i cl cd D sl lk
      rw [beq_iff_eq.mp h3] at lk
      exact ⟨cl, cd, sl, lk⟩
    · cases h3
  clear h2 h3
  rcases lk : K.lookup f with _ | ⟨oc, od, dt, osl⟩
  · rw [lk] at h0
    cases h0
  · cases dt with
    | func fd =>
      rw [lk] at h0
      have hcode : fd.code = .ref (cdS K f) := of_decide_eq_true h0
      clear h0
      have e' : (some (fd.name, fd.qualname, fd.params, fd.body, fd.scope, fd.globals, fd.closure.map (·.1), fd.defaults, fd.builtins) : FnS) = some (x, q, defArgs st, FuncBody.stmts (defBody st), defScope st, mainGlobals, [("__class__" : Str)], Value.none, builtinsNs) := by
        unfold fnS at e
        rw [lk] at e
        exact e
      have ecl : fd.closure = [(("__class__" : Str), ccS K f)] := by
        have e2 : fd.closure.map (·.1) = [("__class__" : Str)] := by
          simp only [Option.some.injEq, Prod.mk.injEq] at e'
          exact e'.2.2.2.2.2.2.1
        unfold ccS
        rw [lk]
        dsimp only
        match hc : fd.closure, e2 with
        | [(a, b)], e2 =>
          have : a = ("__class__" : Str) := by simpa using e2
          rw [this]
      refine ⟨fd, ⟨oc, od, fd.kwdefaults, fd.doc, fd.pyModule, fd.annotations, fd.closureTuple, osl, ?_, lk⟩, h1, file, cell, top⟩
      obtain ⟨n1, n2, n3, n4, n5, n6, n7, n8, n9, n10, n11, n12, n13, n14, n15⟩ := fd
      simp only [Option.some.injEq, Prod.mk.injEq] at e'
      obtain ⟨g1, g2, g3, g4, g5, g6, g7, g9, g8⟩ := e'
      dsimp only at ecl hcode
      subst g1 g2 g3 g4 g5 g6 ecl g9 g8 hcode
      rfl
    | _ => rw [lk] at h0; cases h0
end Hb
set_option maxHeartbeats 0
namespace Hb
open PySem PySem.Spec PyProof.Rows L2

def fnL1 : List He.DefD := [
  ⟨("_law_draw", none), "_law_draw", "_law_draw", defArgs (top 27), defBody (top 27), defScope (top 27), [], []⟩,
  ⟨("_law_start", none), "_law_start", "_law_start", defArgs (top 28), defBody (top 28), defScope (top 28), [], []⟩,
  ⟨("_law_pick", none), "_law_pick", "_law_pick", defArgs (top 29), defBody (top 29), defScope (top 29), [], []⟩,
  ⟨("_law_mixed", none), "_law_mixed", "_law_mixed", defArgs (top 30), defBody (top 30), defScope (top 30), [], []⟩,
  ⟨("_law_same", none), "_law_same", "_law_same", defArgs (top 31), defBody (top 31), defScope (top 31), [], []⟩,
  ⟨("_law_name", none), "_law_name", "_law_name", defArgs (top 32), defBody (top 32), defScope (top 32), [], []⟩,
  ⟨("_law_names", none), "_law_names", "_law_names", defArgs (top 33), defBody (top 33), defScope (top 33), [], []⟩,
  ⟨("_law_squares", none), "_law_squares", "_law_squares", defArgs (top 34), defBody (top 34), defScope (top 34), [], []⟩,
  ⟨("_law_some", none), "_law_some", "_law_some", defArgs (top 35), defBody (top 35), defScope (top 35), [], []⟩,
  ⟨("_law_behind", none), "_law_behind", "_law_behind", defArgs (top 36), defBody (top 36), defScope (top 36), [], []⟩,
  ⟨("_law_layers", none), "_law_layers", "_law_layers", defArgs (top 37), defBody (top 37), defScope (top 37), [], []⟩,
  ⟨("_law_is_ready", none), "_law_is_ready", "_law_is_ready", defArgs (top 38), defBody (top 38), defScope (top 38), [], []⟩,
  ⟨("_law_stacked", none), "_law_stacked", "_law_stacked", defArgs (top 39), defBody (top 39), defScope (top 39), [], []⟩,
  ⟨("_law_crossed", none), "_law_crossed", "_law_crossed", defArgs (top 40), defBody (top 40), defScope (top 40), [], []⟩,
  ⟨("_law_least_crossing", none), "_law_least_crossing", "_law_least_crossing", defArgs (top 41), defBody (top 41), defScope (top 41), [], []⟩,
  ⟨("law", none), "law", "law", defArgs (top 42), defBody (top 42), defScope (top 42), [], []⟩]
def fnL2 : List He.DefD := [
  ⟨("copied", none), "copied", "copied", defArgs (top 2), defBody (top 2), defScope (top 2), [], []⟩,
  ⟨("is_name", none), "is_name", "is_name", defArgs (top 11), defBody (top 11), defScope (top 11), [], []⟩,
  ⟨("is_list", none), "is_list", "is_list", defArgs (top 12), defBody (top 12), defScope (top 12), [], []⟩,
  ⟨("is_square", none), "is_square", "is_square", defArgs (top 15), defBody (top 15), defScope (top 15), [], []⟩,
  ⟨("of_pile", none), "of_pile", "of_pile", defArgs (top 20), defBody (top 20), defScope (top 20), [], []⟩,
  ⟨("is_layer", none), "is_layer", "is_layer", defArgs (top 21), defBody (top 21), defScope (top 21), [], []⟩,
  ⟨("piled", none), "piled", "piled", defArgs (top 22), defBody (top 22), defScope (top 22), [], []⟩,
  ⟨("crossing", none), "crossing", "crossing", defArgs (top 24), defBody (top 24), defScope (top 24), [], []⟩,
  ⟨("ways_of_one", none), "ways_of_one", "ways_of_one", defArgs (top 25), defBody (top 25), defScope (top 25), [], []⟩,
  ⟨("is_ahead", none), "is_ahead", "is_ahead", defArgs (top 23), defBody (top 23), defScope (top 23), [], []⟩,
  ⟨("are_like", none), "are_like", "are_like", defArgs (top 16), defBody (top 16), defScope (top 16), [], []⟩,
  ⟨("Table", some "__init__"), "__init__", "Table.__init__", defArgs (inClass (top 14) 0), defBody (inClass (top 14) 0), defScope (inClass (top 14) 0), [.adr (He.dflAt ("Table", some "__init__") 0)], []⟩,
  ⟨("Table", some "cells"), "cells", "Table.cells", defArgs (inClass (top 14) 1), defBody (inClass (top 14) 1), defScope (inClass (top 14) 1), [], []⟩,
  ⟨("Table", some "ways"), "ways", "Table.ways", defArgs (inClass (top 14) 2), defBody (inClass (top 14) 2), defScope (inClass (top 14) 2), [], []⟩,
  ⟨("Table", some "__getitem__"), "__getitem__", "Table.__getitem__", defArgs (inClass (top 14) 6), defBody (inClass (top 14) 6), defScope (inClass (top 14) 6), [], []⟩,
  ⟨("Table", some "__eq__"), "__eq__", "Table.__eq__", defArgs (inClass (top 14) 11), defBody (inClass (top 14) 11), defScope (inClass (top 14) 11), [], []⟩]
def faL : List He.Fa := [.glo "_law_draw", .glo "_law_start", .glo "_law_pick", .glo "_law_mixed", .glo "_law_same", .glo "_law_name", .glo "_law_names", .glo "_law_squares", .glo "_law_some", .glo "_law_behind", .glo "_law_layers", .glo "_law_is_ready", .glo "_law_stacked", .glo "_law_crossed", .glo "_law_least_crossing", .glo "law", .glo "copied", .glo "is_name", .glo "is_list", .glo "is_square", .glo "of_pile", .glo "is_layer", .glo "piled", .glo "crossing", .glo "ways_of_one", .glo "is_ahead", .glo "are_like", .free "int", .free "str", .free "bool", .free "isinstance", .free "all", .free "any", .free "zip", .free "enumerate", .free "set", .free "sorted", .free "repr", .free "len", .free "list", .free "range", .free "tuple", .free "dict", .free "super", .glo "Table", .cls "Table", .mkr "Table", .noat "Table" "cell_names", .noat "Table" "way_names", .noat "Table" "board", .str "LETTERS" "abcdefghijklmnopqrstuvwxyz", .glo "BadPile", .meth "Table" "__init__", .meth "Table" "cells", .meth "Table" "ways", .meth "Table" "__getitem__", .meth "Table" "__eq__"]
def names0 : List PySem.Str := ["_wall", "copied", "HeldError", "NotName", "NotTruth", "NoSquare", "UnlikeTables", "BadPile", "LETTERS", "is_name", "is_list", "Table", "is_square", "are_like", "check_like"]
def names1 : List PySem.Str := ["with_squares", "of_pile", "is_layer", "piled", "is_ahead", "crossing", "ways_of_one", "_law_draw", "_law_start", "_law_pick", "_law_mixed", "_law_same", "_law_name", "_law_names", "_law_squares"]
def names2 : List PySem.Str := ["_law_some", "_law_behind", "_law_layers", "_law_is_ready", "_law_stacked", "_law_crossed", "_law_least_crossing"]
abbrev namesL : List PySem.Str := names0 ++ names1 ++ names2
abbrev PP : Program := (PySem.Challenge.rw_heldback_k44_whole_piles_or_crossings).prog
def extraB (K : PySem.W.Frag) : Bool := true && (decide (PySem.W.findIn K (.ref (He.ga K "Table")) "__class__" = some (some (.builtin "object.__class__"))) && (decide (PySem.W.specialIn K (.builtin "object.__class__") "__get__" = some (some (.builtin "getset_descriptor.__get__"))) && (decide (PySem.W.takesIn K (.builtin "object.__class__") = some true) && (decide (PySem.W.mroIn K (He.ga K "Table") (.type "object") = some true) && (decide (PySem.W.kitOne K (.ref (He.ga K "Table")) (.ref (He.ga K "Table")) = some true) && (decide (PySem.W.findIn K (.ref (He.ga K "Table")) "__ne__" = some (some (.builtin "object.__ne__"))) && (PySem.W.notFirst K (He.ga K "Table") (.ref (He.ga K "Table")) && (PySem.W.fnIn K (He.ma K (He.ga K "Table") "__getitem__") && (supB K (He.ga K "BadPile") && (funSB K PP.main.file (He.ga K "BadPile") (He.ma K (He.ga K "BadPile") "__init__") "BadPile.__init__" && (xfB K (He.ga K "BadPile") && (decide (PySem.W.findIn K (.ref (He.ga K "BadPile")) "index" = some none) && (decide (PySem.W.exmOne K (.ref (He.ga K "BadPile")) (.ref (He.ga K "BadPile")) = some true) && (decide (PySem.W.typeIn K (.ref (He.ma K (He.ga K "BadPile") "__init__")) = some (.type "function")) && (decide (PySem.W.findIn K (.ref (He.ga K "BadPile")) "__init__" = some (some (.ref (He.ma K (He.ga K "BadPile") "__init__")))) && (decide (PySem.W.findIn K (.ref (He.ga K "BadPile")) "__class__" = some (some (.builtin "object.__class__"))) && (decide (PySem.W.mroIn K (He.ga K "BadPile") (.type "object") = some true) && ((K.lookup sysModules).isSome))))))))))))))))))
def asP (g : Addr → Option Obj) : List Addr :=
  let a2 := He.asD g 2
  let K0 := He.frG g a2
  let ms := ((["__init__", "cells", "ways", "__getitem__", "__eq__"] : List Str).map (He.ma K0 (He.ga K0 "Table"))) ++ [He.ma K0 (He.ga K0 "BadPile") "__init__"]
  a2 ++ ms ++ (ms.flatMap fun a => match g a with
    | some o => He.refsO o ++ (match o.data with
      | .func fd => fd.closure.map (·.2)
      | _ => [])
    | none => []) ++ [He.dflAt ("Table", some "__init__") 0 K0] ++ [sysModules] ++ [PySem.cStatics]
abbrev Al2 : Type := Option (List (Option (Str × Int))) × Bool × FnS
abbrev AlX : Type := He.AlD × He.AlD × Al2
def obs2 (K : PySem.W.Frag) : Al2 := ((none : Option (List (Option (Str × Int)))), extraB K, fnS K (He.ma K (He.ga K "BadPile") "__init__"))
def val2 (w : World) : Al2 := (none, true, some ("__init__", "BadPile.__init__", defArgs st_BadPile_init, FuncBody.stmts (defBody st_BadPile_init), defScope st_BadPile_init, mainGlobals, [("__class__" : Str)], Value.none, builtinsNs))
def obsX (K : PySem.W.Frag) : AlX := (He.obsD faL fnL1 K, He.obsD [] fnL2 K, obs2 K)
def valX (w : World) : AlX := (He.valD fnL1, He.valD fnL2, val2 w)
abbrev hk : PySem.W.Hook where
  α := AlX
  obs := fun s => obsX (He.frG s.heap.get? (asP s.heap.get?))
  val := valX
  says := fun w h => ∃ K : PySem.W.Frag, K.In h ∧ obsX K = valX w
  of := fun _ _ e => ⟨_, He.frG_in, e⟩
  keeps := fun _ _ _ ⟨K, hK, c⟩ k => ⟨K, PySem.W.Frag.In.keeps hK k, c⟩
abbrev R : PySem.W.OpenRow := PySem.W.OpenLaw.row PySem.Challenge.rw_heldback_k44_whole_piles_or_crossings
abbrev gT (s : PySem.W.SharedT) : Addr → Option Obj := HandSHeadRun.getT s
def ob (s : PySem.W.SharedT) : AlX := obsX (He.frG (gT s) (asP (gT s)))
theorem ob_eq (s : PySem.W.SharedT) : ob s = hk.obs s.abs := by
  have e : gT s = s.abs.heap.get? := funext (HandSHeadRun.getT_eq s)
  show obsX (He.frG (gT s) (asP (gT s))) = _
  rw [e]
abbrev ro : String := "special-get-raises"
section
open PySem.W PySem.Calls
abbrev Run {α : Type} (f : PySem.W.SharedT → α) (v : α) (w : World) : Prop := ∀ os : OsState, (HandSHeadRun.endF (HandSHeadRun.stepQ (HandSHeadRun.denQ HandSHeadRun.tabQ) R.prog w) 9000 R.prog w os).map f = some v
abbrev qv : Program := PySem.W.view R.prog [42]
noncomputable def fA (w : World) (s : PySem.W.SharedT) := (HandSHeadRun.looksF R.prog (boot_heap w.params) s.abs, HandSHeadRun.seenQ qv namesL (importedModules R.prog.main.body) (fun s => xlAt qv [] s && recOk R.toRowW.records s) s.abs)
end
def fB (s : PySem.W.SharedT) := He.obsD faL fnL1 (He.frG (gT s) (asP (gT s)))
def fC (s : PySem.W.SharedT) := He.obsD [] fnL2 (He.frG (gT s) (asP (gT s)))
def fD (s : PySem.W.SharedT) := obs2 (He.frG (gT s) (asP (gT s)))
end Hb
set_option maxHeartbeats 0
namespace Hb
open PySem PySem.Spec PyProof.Rows L2
theorem runA_f (w : World) : Run (fA (w.withFollow ro false)) (true, PySem.W.openGood qv namesL) (w.withFollow ro false) := by
  intro os
  kernel_rfl
end Hb
set_option maxHeartbeats 0
namespace Hb
open PySem PySem.Spec PyProof.Rows L2
theorem runA_t (w : World) : Run (fA (w.withFollow ro true)) (true, PySem.W.openGood qv namesL) (w.withFollow ro true) := by
  intro os
  kernel_rfl
end Hb
set_option maxHeartbeats 0
namespace Hb
open PySem PySem.Spec PyProof.Rows L2
theorem runB_f (w : World) : Run (fB) (He.valD fnL1) (w.withFollow ro false) := by
  intro os
  kernel_rfl
end Hb
set_option maxHeartbeats 0
namespace Hb
open PySem PySem.Spec PyProof.Rows L2
theorem runB_t (w : World) : Run (fB) (He.valD fnL1) (w.withFollow ro true) := by
  intro os
  kernel_rfl
end Hb
set_option maxHeartbeats 0
namespace Hb
open PySem PySem.Spec PyProof.Rows L2
theorem runC_f (w : World) : Run (fC) (He.valD fnL2) (w.withFollow ro false) := by
  intro os
  kernel_rfl
end Hb
set_option maxHeartbeats 0
namespace Hb
open PySem PySem.Spec PyProof.Rows L2
theorem runC_t (w : World) : Run (fC) (He.valD fnL2) (w.withFollow ro true) := by
  intro os
  kernel_rfl
end Hb
set_option maxHeartbeats 0
namespace Hb
open PySem PySem.Spec PyProof.Rows L2
theorem runD_f (w : World) : Run (fD) (val2 (w.withFollow ro false)) (w.withFollow ro false) := by
  intro os
  kernel_rfl
end Hb
set_option maxHeartbeats 0
namespace Hb
open PySem PySem.Spec PyProof.Rows L2
theorem runD_t (w : World) : Run (fD) (val2 (w.withFollow ro true)) (w.withFollow ro true) := by
  intro os
  kernel_rfl
end Hb
set_option maxHeartbeats 0
namespace Hb
open PySem PySem.Spec PyProof.Rows L2
theorem run_side (w : World) (hA : Run (fA w) (true, PySem.W.openGood qv namesL) w) (hB : Run fB (He.valD fnL1) w) (hC : Run fC (He.valD fnL2) w) (hD : Run fD (val2 w) w) : HandSHeadRun.RunEq R qv hk ob 9000 namesL w := by
  intro os
  have a := hA os
  have b := hB os
  have c := hC os
  have d := hD os
  unfold fA at a
  revert a b c d
  generalize HandSHeadRun.endF (HandSHeadRun.stepQ (HandSHeadRun.denQ HandSHeadRun.tabQ) R.prog w) 9000 R.prog w os = e
  intro a b c d
  cases e with
  | none => cases a
  | some s =>
    have a' := Option.some.inj a
    have b' := Option.some.inj b
    have c' := Option.some.inj c
    have d' := Option.some.inj d
    dsimp only at a'
    injection a' with a1 a2
    have e3 : ob s = valX w := by
      unfold ob obsX valX
      exact Prod.ext b' (Prod.ext c' d')
    exact congrArg some (congr (congrArg Prod.mk a1) (congr (congrArg Prod.mk a2) e3))
theorem run (w : World) : HandSHeadRun.RunEq R qv hk ob 9000 namesL w :=
  PySem.W.byRow2 ro (P := fun w => HandSHeadRun.RunEq R qv hk ob 9000 namesL w) (fun w => run_side _ (runA_f w) (runB_f w) (runC_f w) (runD_f w)) (fun w => run_side _ (runA_t w) (runB_t w) (runC_t w) (runD_t w)) w
end Hb
set_option maxHeartbeats 0
namespace Hb
open PySem PySem.Spec PyProof.Rows L2

section
variable {w : World} {K : PySem.W.Frag} {h : Heap} {mg : Str → Option Value} {base : Heap}
theorem c1 (c : obsX K = valX w) : He.SaysD faL fnL1 K := congrArg (fun z : AlX => z.1) c
theorem c2 (c : obsX K = valX w) : He.SaysD [] fnL2 K := congrArg (fun z : AlX => z.2.1) c
theorem c3 (c : obsX K = valX w) : obs2 K = val2 w := congrArg (fun z : AlX => z.2.2) c
structure Xf (K : PySem.W.Frag) : Prop where
  ha : PySem.W.findIn K (.ref (He.ga K "Table")) "__class__" = some (some (.builtin "object.__class__"))
  hn : PySem.W.specialIn K (.builtin "object.__class__") "__get__" = some (some (.builtin "getset_descriptor.__get__"))
  htk : PySem.W.takesIn K (.builtin "object.__class__") = some true
  hm : PySem.W.mroIn K (He.ga K "Table") (.type "object") = some true
  isP : PySem.W.kitOne K (.ref (He.ga K "Table")) (.ref (He.ga K "Table")) = some true
  ne : PySem.W.findIn K (.ref (He.ga K "Table")) "__ne__" = some (some (.builtin "object.__ne__"))
  nf : PySem.W.notFirst K (He.ga K "Table") (.ref (He.ga K "Table")) = true
  fnG : PySem.W.fnIn K (He.ma K (He.ga K "Table") "__getitem__") = true
  supP : supB K (He.ga K "BadPile") = true
  fusP : funSB K PP.main.file (He.ga K "BadPile") (He.ma K (He.ga K "BadPile") "__init__") "BadPile.__init__" = true
  xfP : xfB K (He.ga K "BadPile") = true
  noPP : PySem.W.findIn K (.ref (He.ga K "BadPile")) "index" = some none
  exmP : PySem.W.exmOne K (.ref (He.ga K "BadPile")) (.ref (He.ga K "BadPile")) = some true
  tIP : PySem.W.typeIn K (.ref (He.ma K (He.ga K "BadPile") "__init__")) = some (.type "function")
  iCP : PySem.W.findIn K (.ref (He.ga K "BadPile")) "__init__" = some (some (.ref (He.ma K (He.ga K "BadPile") "__init__")))
  ecaP : PySem.W.findIn K (.ref (He.ga K "BadPile")) "__class__" = some (some (.builtin "object.__class__"))
  ecmP : PySem.W.mroIn K (He.ga K "BadPile") (.type "object") = some true
  sys : (K.lookup sysModules).isSome = true
theorem xfOk (c : obsX K = valX w) : Xf K := by
  have e : extraB K = true := congrArg (fun z : Al2 => z.2.1) (c3 c)
  obtain ⟨_, e⟩ := He.ba e
  obtain ⟨x0, e⟩ := He.ba e
  obtain ⟨x1, e⟩ := He.ba e
  obtain ⟨x2, e⟩ := He.ba e
  obtain ⟨x3, e⟩ := He.ba e
  obtain ⟨x4, e⟩ := He.ba e
  obtain ⟨x5, e⟩ := He.ba e
  obtain ⟨x6, e⟩ := He.ba e
  obtain ⟨x7, e⟩ := He.ba e
  obtain ⟨x8, e⟩ := He.ba e
  obtain ⟨x9, e⟩ := He.ba e
  obtain ⟨x10, e⟩ := He.ba e
  obtain ⟨x11, e⟩ := He.ba e
  obtain ⟨x12, e⟩ := He.ba e
  obtain ⟨x13, e⟩ := He.ba e
  obtain ⟨x14, e⟩ := He.ba e
  obtain ⟨x15, e⟩ := He.ba e
  obtain ⟨x16, e⟩ := He.ba e
  exact ⟨of_decide_eq_true x0, of_decide_eq_true x1, of_decide_eq_true x2, of_decide_eq_true x3, of_decide_eq_true x4, of_decide_eq_true x5, x6, x7, x8, x9, x10, of_decide_eq_true x11, of_decide_eq_true x12, of_decide_eq_true x13, of_decide_eq_true x14, of_decide_eq_true x15, of_decide_eq_true x16, e⟩
theorem blOk (X : K.In h) (G : h.Ns mainGlobals mg) (c : obsX K = valX w) : Bl mg :=
  ⟨He.free_ok X G ((c1 c).fact 27 (f := .free "int") rfl), He.free_ok X G ((c1 c).fact 28 (f := .free "str") rfl), He.free_ok X G ((c1 c).fact 29 (f := .free "bool") rfl), He.free_ok X G ((c1 c).fact 30 (f := .free "isinstance") rfl), He.free_ok X G ((c1 c).fact 31 (f := .free "all") rfl), He.free_ok X G ((c1 c).fact 33 (f := .free "zip") rfl), He.free_ok X G ((c1 c).fact 34 (f := .free "enumerate") rfl), He.free_ok X G ((c1 c).fact 35 (f := .free "set") rfl), He.free_ok X G ((c1 c).fact 36 (f := .free "sorted") rfl), He.free_ok X G ((c1 c).fact 37 (f := .free "repr") rfl), He.free_ok X G ((c1 c).fact 38 (f := .free "len") rfl), He.free_ok X G ((c1 c).fact 39 (f := .free "list") rfl), He.free_ok X G ((c1 c).fact 40 (f := .free "range") rfl), He.free_ok X G ((c1 c).fact 41 (f := .free "tuple") rfl)⟩
theorem d__law_draw (X : K.In h) (G : h.Ns mainGlobals mg) (c : obsX K = valX w) : ∃ f fd, Df K mg "_law_draw" st_draw ["_law_stream", "_law_many"] f fd := by
  obtain ⟨fd, F⟩ := (c1 c).def_ 0 rfl
  exact ⟨_, fd, F, He.glo_ok X G ((c1 c).fact 0 (f := .glo "_law_draw") rfl), F.bindsN fun _ _ _ _ _ _ us hl => match us, hl with | [_, _], _ => rfl⟩
theorem d__law_start (X : K.In h) (G : h.Ns mainGlobals mg) (c : obsX K = valX w) : ∃ f fd, Df K mg "_law_start" st_start ["_law_script"] f fd := by
  obtain ⟨fd, F⟩ := (c1 c).def_ 1 rfl
  exact ⟨_, fd, F, He.glo_ok X G ((c1 c).fact 1 (f := .glo "_law_start") rfl), F.bindsN fun _ _ _ _ _ _ us hl => match us, hl with | [_], _ => rfl⟩
theorem d__law_pick (X : K.In h) (G : h.Ns mainGlobals mg) (c : obsX K = valX w) : ∃ f fd, Df K mg "_law_pick" st_pick ["_law_stream", "_law_some_here"] f fd := by
  obtain ⟨fd, F⟩ := (c1 c).def_ 2 rfl
  exact ⟨_, fd, F, He.glo_ok X G ((c1 c).fact 2 (f := .glo "_law_pick") rfl), F.bindsN fun _ _ _ _ _ _ us hl => match us, hl with | [_, _], _ => rfl⟩
theorem d__law_mixed (X : K.In h) (G : h.Ns mainGlobals mg) (c : obsX K = valX w) : ∃ f fd, Df K mg "_law_mixed" st_mixed ["_law_stream", "_law_some_here"] f fd := by
  obtain ⟨fd, F⟩ := (c1 c).def_ 3 rfl
  exact ⟨_, fd, F, He.glo_ok X G ((c1 c).fact 3 (f := .glo "_law_mixed") rfl), F.bindsN fun _ _ _ _ _ _ us hl => match us, hl with | [_, _], _ => rfl⟩
theorem d__law_same (X : K.In h) (G : h.Ns mainGlobals mg) (c : obsX K = valX w) : ∃ f fd, Df K mg "_law_same" st_same ["_law_found", "_law_due"] f fd := by
  obtain ⟨fd, F⟩ := (c1 c).def_ 4 rfl
  exact ⟨_, fd, F, He.glo_ok X G ((c1 c).fact 4 (f := .glo "_law_same") rfl), F.bindsN fun _ _ _ _ _ _ us hl => match us, hl with | [_, _], _ => rfl⟩
theorem d__law_name (X : K.In h) (G : h.Ns mainGlobals mg) (c : obsX K = valX w) : ∃ f fd, Df K mg "_law_name" st_name ["_law_stream"] f fd := by
  obtain ⟨fd, F⟩ := (c1 c).def_ 5 rfl
  exact ⟨_, fd, F, He.glo_ok X G ((c1 c).fact 5 (f := .glo "_law_name") rfl), F.bindsN fun _ _ _ _ _ _ us hl => match us, hl with | [_], _ => rfl⟩
theorem d__law_names (X : K.In h) (G : h.Ns mainGlobals mg) (c : obsX K = valX w) : ∃ f fd, Df K mg "_law_names" st_names ["_law_stream", "_law_many"] f fd := by
  obtain ⟨fd, F⟩ := (c1 c).def_ 6 rfl
  exact ⟨_, fd, F, He.glo_ok X G ((c1 c).fact 6 (f := .glo "_law_names") rfl), F.bindsN fun _ _ _ _ _ _ us hl => match us, hl with | [_, _], _ => rfl⟩
theorem d__law_squares (X : K.In h) (G : h.Ns mainGlobals mg) (c : obsX K = valX w) : ∃ f fd, Df K mg "_law_squares" st_squares ["_law_cells", "_law_ways"] f fd := by
  obtain ⟨fd, F⟩ := (c1 c).def_ 7 rfl
  exact ⟨_, fd, F, He.glo_ok X G ((c1 c).fact 7 (f := .glo "_law_squares") rfl), F.bindsN fun _ _ _ _ _ _ us hl => match us, hl with | [_, _], _ => rfl⟩
theorem d__law_some (X : K.In h) (G : h.Ns mainGlobals mg) (c : obsX K = valX w) : ∃ f fd, Df K mg "_law_some" st_some ["_law_stream", "_law_things"] f fd := by
  obtain ⟨fd, F⟩ := (c1 c).def_ 8 rfl
  exact ⟨_, fd, F, He.glo_ok X G ((c1 c).fact 8 (f := .glo "_law_some") rfl), F.bindsN fun _ _ _ _ _ _ us hl => match us, hl with | [_, _], _ => rfl⟩
theorem d__law_behind (X : K.In h) (G : h.Ns mainGlobals mg) (c : obsX K = valX w) : ∃ f fd, Df K mg "_law_behind" st_behind ["_law_layers_here"] f fd := by
  obtain ⟨fd, F⟩ := (c1 c).def_ 9 rfl
  exact ⟨_, fd, F, He.glo_ok X G ((c1 c).fact 9 (f := .glo "_law_behind") rfl), F.bindsN fun _ _ _ _ _ _ us hl => match us, hl with | [_], _ => rfl⟩
theorem d__law_layers (X : K.In h) (G : h.Ns mainGlobals mg) (c : obsX K = valX w) : ∃ f fd, Df K mg "_law_layers" st_layers ["_law_cells", "_law_ways"] f fd := by
  obtain ⟨fd, F⟩ := (c1 c).def_ 10 rfl
  exact ⟨_, fd, F, He.glo_ok X G ((c1 c).fact 10 (f := .glo "_law_layers") rfl), F.bindsN fun _ _ _ _ _ _ us hl => match us, hl with | [_, _], _ => rfl⟩
theorem d__law_is_ready (X : K.In h) (G : h.Ns mainGlobals mg) (c : obsX K = valX w) : ∃ f fd, Df K mg "_law_is_ready" st_is_ready ["_law_layer", "_law_left", "_law_squares_here"] f fd := by
  obtain ⟨fd, F⟩ := (c1 c).def_ 11 rfl
  exact ⟨_, fd, F, He.glo_ok X G ((c1 c).fact 11 (f := .glo "_law_is_ready") rfl), F.bindsN fun _ _ _ _ _ _ us hl => match us, hl with | [_, _, _], _ => rfl⟩
theorem d__law_stacked (X : K.In h) (G : h.Ns mainGlobals mg) (c : obsX K = valX w) : ∃ f fd, Df K mg "_law_stacked" st_stacked ["_law_cells", "_law_ways", "_law_squares_here"] f fd := by
  obtain ⟨fd, F⟩ := (c1 c).def_ 12 rfl
  exact ⟨_, fd, F, He.glo_ok X G ((c1 c).fact 12 (f := .glo "_law_stacked") rfl), F.bindsN fun _ _ _ _ _ _ us hl => match us, hl with | [_, _, _], _ => rfl⟩
theorem d__law_crossed (X : K.In h) (G : h.Ns mainGlobals mg) (c : obsX K = valX w) : ∃ f fd, Df K mg "_law_crossed" st_crossed ["_law_squares_here", "_law_cell", "_law_other", "_law_way", "_law_over"] f fd := by
  obtain ⟨fd, F⟩ := (c1 c).def_ 13 rfl
  exact ⟨_, fd, F, He.glo_ok X G ((c1 c).fact 13 (f := .glo "_law_crossed") rfl), F.bindsN fun _ _ _ _ _ _ us hl => match us, hl with | [_, _, _, _, _], _ => rfl⟩
theorem d__law_least_crossing (X : K.In h) (G : h.Ns mainGlobals mg) (c : obsX K = valX w) : ∃ f fd, Df K mg "_law_least_crossing" st_least_crossing ["_law_cells", "_law_ways", "_law_squares_here"] f fd := by
  obtain ⟨fd, F⟩ := (c1 c).def_ 14 rfl
  exact ⟨_, fd, F, He.glo_ok X G ((c1 c).fact 14 (f := .glo "_law_least_crossing") rfl), F.bindsN fun _ _ _ _ _ _ us hl => match us, hl with | [_, _, _], _ => rfl⟩
theorem d_p_law (X : K.In h) (G : h.Ns mainGlobals mg) (c : obsX K = valX w) : ∃ f fd, Df K mg "law" st_lawK ["_law_script"] f fd := by
  obtain ⟨fd, F⟩ := (c1 c).def_ 15 rfl
  exact ⟨_, fd, F, He.glo_ok X G ((c1 c).fact 15 (f := .glo "law") rfl), F.bindsN fun _ _ _ _ _ _ us hl => match us, hl with | [_], _ => rfl⟩
theorem d_p_copied (X : K.In h) (G : h.Ns mainGlobals mg) (c : obsX K = valX w) : ∃ f fd, Df K mg "copied" st_copied ["thing"] f fd := by
  obtain ⟨fd, F⟩ := (c2 c).def_ 0 rfl
  exact ⟨_, fd, F, He.glo_ok X G ((c1 c).fact 16 (f := .glo "copied") rfl), F.bindsN fun _ _ _ _ _ _ us hl => match us, hl with | [_], _ => rfl⟩
theorem d_p_is_name (X : K.In h) (G : h.Ns mainGlobals mg) (c : obsX K = valX w) : ∃ f fd, Df K mg "is_name" st_is_name ["thing"] f fd := by
  obtain ⟨fd, F⟩ := (c2 c).def_ 1 rfl
  exact ⟨_, fd, F, He.glo_ok X G ((c1 c).fact 17 (f := .glo "is_name") rfl), F.bindsN fun _ _ _ _ _ _ us hl => match us, hl with | [_], _ => rfl⟩
theorem d_p_is_list (X : K.In h) (G : h.Ns mainGlobals mg) (c : obsX K = valX w) : ∃ f fd, Df K mg "is_list" st_is_list ["thing"] f fd := by
  obtain ⟨fd, F⟩ := (c2 c).def_ 2 rfl
  exact ⟨_, fd, F, He.glo_ok X G ((c1 c).fact 18 (f := .glo "is_list") rfl), F.bindsN fun _ _ _ _ _ _ us hl => match us, hl with | [_], _ => rfl⟩
theorem d_p_is_square (X : K.In h) (G : h.Ns mainGlobals mg) (c : obsX K = valX w) : ∃ f fd, Df K mg "is_square" st_is_square ["board", "thing"] f fd := by
  obtain ⟨fd, F⟩ := (c2 c).def_ 3 rfl
  exact ⟨_, fd, F, He.glo_ok X G ((c1 c).fact 19 (f := .glo "is_square") rfl), F.bindsN fun _ _ _ _ _ _ us hl => match us, hl with | [_, _], _ => rfl⟩
theorem d_p_of_pile (X : K.In h) (G : h.Ns mainGlobals mg) (c : obsX K = valX w) : ∃ f fd, Df K mg "of_pile" st_of_pile ["layers"] f fd := by
  obtain ⟨fd, F⟩ := (c2 c).def_ 4 rfl
  exact ⟨_, fd, F, He.glo_ok X G ((c1 c).fact 20 (f := .glo "of_pile") rfl), F.bindsN fun _ _ _ _ _ _ us hl => match us, hl with | [_], _ => rfl⟩
theorem d_p_is_layer (X : K.In h) (G : h.Ns mainGlobals mg) (c : obsX K = valX w) : ∃ f fd, Df K mg "is_layer" st_is_layer ["thing"] f fd := by
  obtain ⟨fd, F⟩ := (c2 c).def_ 5 rfl
  exact ⟨_, fd, F, He.glo_ok X G ((c1 c).fact 21 (f := .glo "is_layer") rfl), F.bindsN fun _ _ _ _ _ _ us hl => match us, hl with | [_], _ => rfl⟩
theorem d_p_piled (X : K.In h) (G : h.Ns mainGlobals mg) (c : obsX K = valX w) : ∃ f fd, Df K mg "piled" st_piled ["table"] f fd := by
  obtain ⟨fd, F⟩ := (c2 c).def_ 6 rfl
  exact ⟨_, fd, F, He.glo_ok X G ((c1 c).fact 22 (f := .glo "piled") rfl), F.bindsN fun _ _ _ _ _ _ us hl => match us, hl with | [_], _ => rfl⟩
theorem d_p_crossing (X : K.In h) (G : h.Ns mainGlobals mg) (c : obsX K = valX w) : ∃ f fd, Df K mg "crossing" st_crossing ["table"] f fd := by
  obtain ⟨fd, F⟩ := (c2 c).def_ 7 rfl
  exact ⟨_, fd, F, He.glo_ok X G ((c1 c).fact 23 (f := .glo "crossing") rfl), F.bindsN fun _ _ _ _ _ _ us hl => match us, hl with | [_], _ => rfl⟩
theorem d_p_ways_of_one (X : K.In h) (G : h.Ns mainGlobals mg) (c : obsX K = valX w) : ∃ f fd, Df K mg "ways_of_one" st_ways_of_one ["table", "cell", "other"] f fd := by
  obtain ⟨fd, F⟩ := (c2 c).def_ 8 rfl
  exact ⟨_, fd, F, He.glo_ok X G ((c1 c).fact 24 (f := .glo "ways_of_one") rfl), F.bindsN fun _ _ _ _ _ _ us hl => match us, hl with | [_, _, _], _ => rfl⟩
theorem d_p_is_ahead (X : K.In h) (G : h.Ns mainGlobals mg) (c : obsX K = valX w) : ∃ f fd, Df K mg "is_ahead" st_is_ahead ["table", "one", "other"] f fd := by
  obtain ⟨fd, F⟩ := (c2 c).def_ 9 rfl
  exact ⟨_, fd, F, He.glo_ok X G ((c1 c).fact 25 (f := .glo "is_ahead") rfl), F.bindsN fun _ _ _ _ _ _ us hl => match us, hl with | [_, _, _], _ => rfl⟩
theorem d_p_are_like (X : K.In h) (G : h.Ns mainGlobals mg) (c : obsX K = valX w) : ∃ f fd, Df K mg "are_like" st_are_like ["one", "other"] f fd := by
  obtain ⟨fd, F⟩ := (c2 c).def_ 10 rfl
  exact ⟨_, fd, F, He.glo_ok X G ((c1 c).fact 26 (f := .glo "are_like") rfl), F.bindsN fun _ _ _ _ _ _ us hl => match us, hl with | [_, _], _ => rfl⟩
theorem m_tinit (c : obsX K = valX w) : ∃ f fd, DmT K (He.ga K "Table") f fd := by
  obtain ⟨fd, F0⟩ := (c2 c).def_ 11 rfl
  have F : FunD K "__init__" "Table.__init__" (defArgs st_Table_init) (defBody st_Table_init) (defScope st_Table_init) [.ref (He.dflAt ("Table", some "__init__") 0 K)] [] _ fd := F0
  obtain ⟨s4, v4, b4⟩ := F.binds1 (ps := ["self", "cells", "ways", "squares"]) 4 1 (List.cons_ne_nil _ _) rfl fun _ _ _ _ _ _ _ us its hl hi => match us, its, hl, hi with | [_, _, _, _], [_], _, _ => ⟨_, rfl, rfl⟩
  cases v4
  exact ⟨_, fd, ⟨_, F⟩, He.meth_ok ((c1 c).fact 52 (f := .meth "Table" "__init__") rfl), b4⟩
theorem m_tcells (c : obsX K = valX w) : ∃ f fd, Dm K (He.ga K "Table") "cells" "Table.cells" st_Table_cells ["self"] f fd := by
  obtain ⟨fd, F⟩ := (c2 c).def_ 12 rfl
  exact ⟨_, fd, F, He.meth_ok ((c1 c).fact 53 (f := .meth "Table" "cells") rfl), F.bindsN fun _ _ _ _ _ _ us hl => match us, hl with | [_], _ => rfl⟩
theorem m_tways (c : obsX K = valX w) : ∃ f fd, Dm K (He.ga K "Table") "ways" "Table.ways" st_Table_ways ["self"] f fd := by
  obtain ⟨fd, F⟩ := (c2 c).def_ 13 rfl
  exact ⟨_, fd, F, He.meth_ok ((c1 c).fact 54 (f := .meth "Table" "ways") rfl), F.bindsN fun _ _ _ _ _ _ us hl => match us, hl with | [_], _ => rfl⟩
theorem m_tget (c : obsX K = valX w) : ∃ f fd, Dm K (He.ga K "Table") "__getitem__" "Table.__getitem__" st_Table_getitem ["self", "at"] f fd := by
  obtain ⟨fd, F⟩ := (c2 c).def_ 14 rfl
  exact ⟨_, fd, F, He.meth_ok ((c1 c).fact 55 (f := .meth "Table" "__getitem__") rfl), F.bindsN fun _ _ _ _ _ _ us hl => match us, hl with | [_, _], _ => rfl⟩
theorem m_teq (c : obsX K = valX w) : ∃ f fd, Dm K (He.ga K "Table") "__eq__" "Table.__eq__" st_Table_eq ["self", "other"] f fd := by
  obtain ⟨fd, F⟩ := (c2 c).def_ 15 rfl
  exact ⟨_, fd, F, He.meth_ok ((c1 c).fact 56 (f := .meth "Table" "__eq__") rfl), F.bindsN fun _ _ _ _ _ _ us hl => match us, hl with | [_, _], _ => rfl⟩
theorem tcOk (X : K.In h) (G : h.Ns mainGlobals mg) (c : obsX K = valX w) : Tc K mg (He.ga K "Table") := by
  refine ⟨He.glo_ok X G ((c1 c).fact 44 (f := .glo "Table") rfl), He.cls_ok ((c1 c).fact 45 (f := .cls "Table") rfl), fun f hf => ?_⟩
  simp only [List.mem_cons, List.not_mem_nil, or_false] at hf
  rcases hf with rfl | rfl | rfl
  · exact He.noat_ok ((c1 c).fact 47 (f := .noat "Table" "cell_names") rfl)
  · exact He.noat_ok ((c1 c).fact 48 (f := .noat "Table" "way_names") rfl)
  · exact He.noat_ok ((c1 c).fact 49 (f := .noat "Table" "board") rfl)
theorem erP (X : K.In h) (G : h.Ns mainGlobals mg) (c : obsX K = valX w) {f1 : Addr} {fd1 : FuncData} (G_copied : FnOk PP w K mg base CX0 12 f1 fd1 ["thing"] (spCopiedE K 12)) (D_copied : Df K mg "copied" st_copied ["thing"] f1 fd1) : ∃ fd, Er1 PP w K mg base "BadPile" "index" (He.ga K "BadPile") (He.ma K (He.ga K "BadPile") "__init__") fd := by
  have x := xfOk c
  have e : fnS K (He.ma K (He.ga K "BadPile") "__init__") = _ := congrArg (fun z : Al2 => z.2.2) (c3 c)
  obtain ⟨fd, F⟩ := funS_ok (P := PP) (C := He.ga K "BadPile") (st := st_BadPile_init) e x.fusP (by kernel_rfl)
  have bd : Binds K fd ["self", "index"] [] := by
    obtain ⟨oc, od, kV, doc, pm, an, ct, osl, rfl, _⟩ := F.ex
    exact Binds.all fun us hl => match us, hl with | [_, _], _ => rfl
  exact ⟨fd, supB_ok x.supP, x.iCP, x.tIP, He.glo_ok X G ((c1 c).fact 51 (f := .glo "BadPile") rfl), bd, ok_BadPile_init x.sys F (supB_ok x.supP) x.noPP (He.free_ok X G ((c1 c).fact 43 (f := .free "super") rfl)) G_copied D_copied⟩
theorem lwOk (X : K.In h) (G : h.Ns mainGlobals mg) (c : obsX K = valX w) : LwK PP w K mg base (He.ga K "Table") := by
  have B := blOk X G c
  have tc := tcOk X G c
  have x := xfOk c
  have te : Te K mg (He.ga K "Table") := ⟨tc, x.ha, x.hn, x.htk, x.hm, x.isP, x.ne⟩
  obtain ⟨a_D_law_draw, b_D_law_draw, D_law_draw⟩ := d__law_draw X G c
  obtain ⟨a_D_law_start, b_D_law_start, D_law_start⟩ := d__law_start X G c
  obtain ⟨a_D_law_pick, b_D_law_pick, D_law_pick⟩ := d__law_pick X G c
  obtain ⟨a_D_law_mixed, b_D_law_mixed, D_law_mixed⟩ := d__law_mixed X G c
  obtain ⟨a_D_law_same, b_D_law_same, D_law_same⟩ := d__law_same X G c
  obtain ⟨a_D_law_name, b_D_law_name, D_law_name⟩ := d__law_name X G c
  obtain ⟨a_D_law_names, b_D_law_names, D_law_names⟩ := d__law_names X G c
  obtain ⟨a_D_law_squares, b_D_law_squares, D_law_squares⟩ := d__law_squares X G c
  obtain ⟨a_D_law_some, b_D_law_some, D_law_some⟩ := d__law_some X G c
  obtain ⟨a_D_law_behind, b_D_law_behind, D_law_behind⟩ := d__law_behind X G c
  obtain ⟨a_D_law_layers, b_D_law_layers, D_law_layers⟩ := d__law_layers X G c
  obtain ⟨a_D_law_is_ready, b_D_law_is_ready, D_law_is_ready⟩ := d__law_is_ready X G c
  obtain ⟨a_D_law_stacked, b_D_law_stacked, D_law_stacked⟩ := d__law_stacked X G c
  obtain ⟨a_D_law_crossed, b_D_law_crossed, D_law_crossed⟩ := d__law_crossed X G c
  obtain ⟨a_D_law_least_crossing, b_D_law_least_crossing, D_law_least_crossing⟩ := d__law_least_crossing X G c
  obtain ⟨a_Dp_copied, b_Dp_copied, Dp_copied⟩ := d_p_copied X G c
  obtain ⟨a_Dp_is_name, b_Dp_is_name, Dp_is_name⟩ := d_p_is_name X G c
  obtain ⟨a_Dp_is_list, b_Dp_is_list, Dp_is_list⟩ := d_p_is_list X G c
  obtain ⟨a_Dp_is_square, b_Dp_is_square, Dp_is_square⟩ := d_p_is_square X G c
  obtain ⟨a_Dp_of_pile, b_Dp_of_pile, Dp_of_pile⟩ := d_p_of_pile X G c
  obtain ⟨a_Dp_is_layer, b_Dp_is_layer, Dp_is_layer⟩ := d_p_is_layer X G c
  obtain ⟨a_Dp_piled, b_Dp_piled, Dp_piled⟩ := d_p_piled X G c
  obtain ⟨a_Dp_crossing, b_Dp_crossing, Dp_crossing⟩ := d_p_crossing X G c
  obtain ⟨a_Dp_ways_of_one, b_Dp_ways_of_one, Dp_ways_of_one⟩ := d_p_ways_of_one X G c
  obtain ⟨a_Dp_is_ahead, b_Dp_is_ahead, Dp_is_ahead⟩ := d_p_is_ahead X G c
  obtain ⟨a_Dp_are_like, b_Dp_are_like, Dp_are_like⟩ := d_p_are_like X G c
  obtain ⟨a_M_tinit, b_M_tinit, M_tinit⟩ := m_tinit c
  obtain ⟨a_M_tcells, b_M_tcells, M_tcells⟩ := m_tcells c
  obtain ⟨a_M_tways, b_M_tways, M_tways⟩ := m_tways c
  obtain ⟨a_M_tget, b_M_tget, M_tget⟩ := m_tget c
  obtain ⟨a_M_teq, b_M_teq, M_teq⟩ := m_teq c
  have hdi := He.free_ok X G ((c1 c).fact 42 (f := .free "dict") rfl)
  have hany := He.free_ok X G ((c1 c).fact 32 (f := .free "any") rfl)
  have mkt : ∀ f, Meth K (He.ga K "Table") "__init__" f → Mk K (He.ga K "Table") f := fun f hf => by
    have k := He.mkr_ok ((c1 c).fact 46 (f := .mkr "Table") rfl)
    have e := k.init.symm.trans hf.at_
    injection e with e
    injection e with e
    injection e with e
    rw [← e]
    exact k
  have Gdraw := ok_draw (P := PP) (w := w) (base := base) D_law_draw B
  have Gpick := ok_pick (P := PP) (w := w) (base := base) D_law_pick D_law_draw B
  have Gmixed := ok_mixed (P := PP) (w := w) (base := base) D_law_mixed D_law_draw B
  have Gname := ok_name D_law_name Gdraw D_law_draw Gpick D_law_pick B
  have Gnames := ok_names D_law_names Gname D_law_name B
  have Gis_list := ok_is_list (P := PP) (w := w) (base := base) Dp_is_list B
  have Gis_name := ok_is_name (P := PP) (w := w) (base := base) Dp_is_name B (He.str_ok X G ((c1 c).fact 50 (f := .str "LETTERS" "abcdefghijklmnopqrstuvwxyz") rfl))
  have Gis_square := ok_is_square Dp_is_square Gis_list Dp_is_list Gis_name Dp_is_name B
  have Gtinit := ok_Table_init M_tinit tc Gis_square Dp_is_square Gis_name Dp_is_name B
  have Gtcells := ok_Table_cells (P := PP) (w := w) (base := base) M_tcells tc B
  have Gtways := ok_Table_ways (P := PP) (w := w) (base := base) M_tways tc B
  have Gtget := ok_Table_getitem M_tget tc Gis_square Dp_is_square
  have Galike := ok_are_like (P := PP) (w := w) (base := base) Dp_are_like tc
  have Gteq := ok_Table_eq M_teq te B Galike Dp_are_like
  have Gis_layer := ok_is_layer Dp_is_layer Gis_list Dp_is_list Gis_name Dp_is_name B
  have GcopiedE := ok_copiedE (P := PP) (w := w) (base := base) (D := 12) Dp_copied B hdi
  obtain ⟨fdP, ZP⟩ := erP X G c GcopiedE Dp_copied
  have Gof := ok_of_pile Dp_of_pile tc (mkt _ M_tinit.me) Gtinit M_tinit Gis_layer Dp_is_layer ZP B
  have fnG : PySem.W.fnIn K a_M_tget = true := by
    have e1 := M_tget.me.at_.symm.trans (He.meth_ok ((c1 c).fact 55 (f := .meth "Table" "__getitem__") rfl)).at_
    injection e1 with e1
    injection e1 with e1
    injection e1 with e1
    rw [e1]
    exact x.fnG
  have Gahead := ok_is_ahead Dp_is_ahead Gtget M_tget fnG
  have Gpiled := ok_piled Dp_piled tc B hany Gtcells M_tcells Gtways M_tways Gahead Dp_is_ahead
  have Gone := ok_ways_of_one Dp_ways_of_one tc Gtways M_tways Gtget M_tget fnG
  have Gcrossing := ok_crossing Dp_crossing tc Gtcells M_tcells Gone Dp_ways_of_one
  have Glayers := ok_layers (P := PP) (w := w) (base := base) D_law_layers
  have Gbehind := ok_behind (P := PP) (w := w) (base := base) D_law_behind B
  have Gsquares := ok_squares (P := PP) (w := w) (base := base) D_law_squares
  have Gsome := ok_some (P := PP) (w := w) (base := base) D_law_some D_law_draw B
  have Gready := ok_is_ready (P := PP) (w := w) (base := base) D_law_is_ready
  have Gstacked := ok_stacked D_law_stacked Glayers D_law_layers Gready D_law_is_ready
  have Gcrossed := ok_crossed (P := PP) (w := w) (base := base) D_law_crossed
  have Gleast := ok_least_crossing D_law_least_crossing Gcrossed D_law_crossed
  have Gsame := ok_same (P := PP) (w := w) (base := base) D_law_same B
  exact ⟨B, te, x.nf, ⟨_, _, ok_start D_law_start B, D_law_start⟩, ⟨_, _, Gdraw, D_law_draw⟩, ⟨_, _, Gnames, D_law_names⟩, ⟨_, _, Gmixed, D_law_mixed⟩, ⟨_, _, Gbehind, D_law_behind⟩, ⟨_, _, Glayers, D_law_layers⟩, ⟨_, _, Gsquares, D_law_squares⟩, ⟨_, _, Gsome, D_law_some⟩, ⟨_, _, Gstacked, D_law_stacked⟩, ⟨_, _, Gleast, D_law_least_crossing⟩, ⟨_, _, Gsame, D_law_same⟩,
    ⟨_, _, Gpiled, Dp_piled⟩, ⟨_, _, Gcrossing, Dp_crossing⟩, ⟨_, _, _, Gof, Dp_of_pile⟩, ⟨_, _, Gtinit, M_tinit, mkt _ M_tinit.me⟩, ⟨_, _, Gteq, M_teq⟩⟩

theorem factsOk {f : Addr} (X : K.In h) (G : h.Ns mainGlobals mg) (hfa : mg ("law" : Str) = some (.ref f)) (c : obsX K = valX w) :
    ∃ fd : FuncData, (∀ (s : Shared) (v : Value), BindsTo s fd ⟨[v], []⟩ [("_law_script", v)]) ∧ ∀ base : Heap, K.In base → base.Ns mainGlobals mg → FnG PP w K mg base CX0 17 f fd ["_law_script"] (spLawK K) := by
  obtain ⟨fd, F⟩ := (c1 c).def_ 15 rfl
  have g := He.glo_ok X G ((c1 c).fact 15 (f := .glo "law") rfl)
  have e := hfa.symm.trans g
  cases e
  have b := F.bindsA (ps := ["_law_script"]) fun _ _ _ _ _ _ us hl => match us, hl with | [_], _ => rfl
  have bn := F.bindsN (ps := ["_law_script"]) fun _ _ _ _ _ _ us hl => match us, hl with | [_], _ => rfl
  exact ⟨fd, fun s v => b s [v] rfl, fun base _ _ => ok_lawK ⟨F, g, bn⟩ (lwOk X G c)⟩
end
end Hb
set_option maxHeartbeats 0
namespace Hb
open PySem PySem.Spec PyProof.Rows L2
end Hb
open PySem PySem.W PySem.Calls PyProof.Rows
theorem PySem.Challenge.cw_heldback_k44_whole_piles_or_crossings_holds : PySem.Challenge.rw_heldback_k44_whole_piles_or_crossings.Holds := by
  w_on; o_law
  refine HandSHeadRun.head_any (r := OpenLaw.row PySem.Challenge.rw_heldback_k44_whole_piles_or_crossings) (q := view (OpenLaw.row PySem.Challenge.rw_heldback_k44_whole_piles_or_crossings).prog [42]) (H := Hb.hk) (ob := Hb.ob) (M := 9000) (loose := Hb.namesL) (d := HandSHeadRun.topDef (OpenLaw.row PySem.Challenge.rw_heldback_k44_whole_piles_or_crossings).prog 42) (kwd := []) Hb.ob_eq
    (by kernel_rfl) (fun s => by kernel_rfl) Hb.run (by kernel_rfl) (by kernel_rfl) (by kernel_rfl) (by rfl) (by first | assumption | decide +kernel) (by decide +kernel) ⟨rfl, rfl, rfl, rfl, rfl, by decide +kernel⟩ ?hw ?hc
  case hw => w_witness2
  case hc =>
    refine Hb.walkG (l := PySem.Challenge.rw_heldback_k44_whole_piles_or_crossings) (n := 63) (k := 17) (x := "_law_script") (CX := L2.CX0) rfl (by decide) (by kernel_rfl) ⟨rfl, by decide, by decide⟩ ?F (fun _ _ _ _ z => z)
    intro w mg fa h Y G hmg0
    obtain ⟨K, KX, c⟩ := Y
    have hmg : mg ("law" : PySem.Str) = some (.ref fa) := by
      have e : (HandSHeadRun.topDef (OpenLaw.row PySem.Challenge.rw_heldback_k44_whole_piles_or_crossings).prog 42).name = ("law" : PySem.Str) := by kernel_rfl
      rw [← e]
      exact hmg0
    obtain ⟨fd, hb, hF⟩ := Hb.factsOk (w := w) KX G hmg c
    exact ⟨K, fd, Hb.spLawK K, KX, hb, fun H a ns hl _ hS => ⟨a, ns, rfl, hS, hl, fun _ => rfl⟩, hF⟩
